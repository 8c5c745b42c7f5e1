/- Less, AtLeast, Value. -/
import Derived.Test.YthagoihpppppkaaQ3
namespace Go.Proofs.Ythagoihpppppkaa
open Go.RowKit Go.Maps

def lsF (a b : List Int) (d : Int) (r : Int) (j : Nat) : Pr Int := (andP (reachL b (j : Int)) (notR (reachL a ((j : Int) + d)))).bind fun t => orP r t
theorem less_def (a b : List Int) (d : Int) : lessP a b d = foldP (lsF a b d) (List.range' 0 (b.length + 1)) 1 := by unfold lessP; rw [List.range_eq_range']; rfl
theorem run_lsF (a b : List Int) (d : Int) (r : Int) (j : Nat) (gs : List Gt) : (lsF a b d r j).run gs = orC (andC gs (reachL b (j : Int)) (notR (reachL a ((j : Int) + d)))).1 r (andC gs (reachL b (j : Int)) (notR (reachL a ((j : Int) + d)))).2 := by
  unfold lsF; rw [Pr.run_bind, run_andP]; rfl
theorem reached_neg (u : List Int) (k : Int) (a : Option Addr) (n c : Nat) (w : World) (hk : k < 1) :
    Calls Try.prog 42 #[.slice a n c, .int .i64 k] w fun e w' => e = .returned (.int .i64 (reachL u k)) ∧ w' = w := by
  have HR := Lib.hid (show reachL u k = 0 by unfold reachL; rw [if_pos hk])
  have f1 : decide (k < 1) = true := decide_eq_true hk
  clear hk
  go_enter Try.func42, Try.ntmps42
  go_wp2_with fail
  go_ret
  exact ⟨by rw [HR.out]; rfl, rfl⟩
theorem resB21 (tmps : Array Value) (w : World) (b : Nat) (a : Option Addr) (n c : Nat) (v : Value) (ht : tmps.getD 8 undef = .pointer (some ⟨b, 0, none⟩)) (hv : tmps.getD 9 undef = v) (h0 : w.cell? ⟨b, 0, none⟩ = some (.slice a n c)) :
    (results Try.f21 tmps).run Try.prog w = .ok (.tuple #[.agg #[.slice a n c], v]) w := by
  have ht' : tmps[8]?.getD undef = .pointer (some ⟨b, 0, none⟩) := by simpa using ht
  have hv' : tmps[9]?.getD undef = v := by simpa using hv
  simp [results, ht', hv', go_sem, h0, Result.andThen]

set_option maxRecDepth 100000 in
set_option maxHeartbeats 4000000 in
theorem less_calls (gs : List Gt) (l m : List Int) (by' : Int) (a : Option Addr) (c : Nat) (b : Option Addr) (d : Nat) (b2 : Option Addr) (d2 : Nat) (w : World) (h : GatesW w a c gs) (hi : IntsW w b d l) (hi2 : IntsW w b2 d2 m) (hG : Good gs) (hol : ∀ r ∈ l, r ≤ 9223372036854775807) (hom : ∀ r ∈ m, r ≤ 9223372036854775807) (hn : l.length ≤ 64) (hn2 : m.length ≤ 64) (hl : gs.length + 2 * (m.length + 1) ≤ 990) (hby : -1000 ≤ by' ∧ by' ≤ 1000) :
    Calls Try.prog 21 #[.agg #[.slice a gs.length c], .slice b l.length d, .slice b2 m.length d2, .int .i64 by'] w fun e w' => Ans w ((lessP l m by').run gs).1 ((lessP l m by').run gs).2 e w' := by
  obtain ⟨res, hres⟩ : ∃ r, (lessP l m by').run gs = r := ⟨_, rfl⟩
  obtain ⟨g9, r9⟩ := res
  rw [hres]
  simp only
  obtain ⟨n1, hn1⟩ : ∃ n, l.length = n := ⟨_, rfl⟩
  obtain ⟨n2, hn2'⟩ : ∃ n, m.length = n := ⟨_, rfl⟩
  have HRUN := Lib.hid (show (foldP (lsF l m by') (List.range' 0 (n2 + 1)) 1).run gs = (g9, r9) from by rw [← hres, less_def, hn2'])
  have HNA := Lib.hid hn1
  have HNB := Lib.hid hn2'
  have HLA := Lib.hid (show l.length ≤ 1000 by omega)
  have HLB := Lib.hid (show m.length ≤ 1000 by omega)
  have HBA := Lib.hid hol
  have HBB := Lib.hid hom
  have HGD := Lib.hid hG
  have HCL := Lib.hid (show gs.length + 2 * (n2 + 1) ≤ 990 by omega)
  have HBY := Lib.hid hby
  have HLE := Lib.hid (show n2 ≤ 64 by omega)
  rw [hn1, hn2']
  have hg1 := World.grownBy_alloc w (.cells #[.slice a gs.length c] 32) none
  have hc1 := one_cell w (.slice a gs.length c) 32
  obtain ⟨W1, hW1⟩ : ∃ z, w.alloc (.cells #[.slice a gs.length c] 32) = z := ⟨_, rfl⟩
  rw [hW1] at hg1 hc1
  have hg2 := World.grownBy_alloc W1 (.cells #[.slice none 0 0] 32) none
  have hc2 := one_cell W1 (.slice none 0 0) 32
  obtain ⟨W2, hW2⟩ : ∃ z, W1.alloc (.cells #[.slice none 0 0] 32) = z := ⟨_, rfl⟩
  rw [hW2] at hg2 hc2
  have q1 := hg2.cell hc1.2.1 (by simp)
  have HB := Lib.hid (fun (U : World) (hU : GatesW U a c gs) => newb_calls gs a c U hU)
  have HH := Lib.hid ((h.grown hg1).grown hg2)
  have HG2 := Lib.hid (World.grownBy.trans hg1 hg2)
  have HR := Lib.hid hc2
  have HS2 := Lib.hid (And.intro hg1.size hg2.size)
  have Hhi := Lib.hid hi
  have Hhi2 := Lib.hid hi2
  clear h hg1 hg2 hc1 hc2 hi hi2 hG hol hom hn hn2 hl hres hn1 hn2' hby
  go_enter Try.func21, Try.ntmps21
  go_wp2_with fail
  refine (HB.out W2 HH.out).mono ?_
  rintro e w3 ⟨q, p, rfl, hp, hq, hpq, hqc, hgx, hg3⟩
  have HG3 := Lib.hid (World.grownBy.trans HG2.out hg3)
  obtain ⟨bR, hbR⟩ : ∃ z, W1.heap.size = z := ⟨_, rfl⟩
  have HGS := Lib.hid (show GS p q (fun k => k = p) w3 gs 0 from ⟨hgx, hqc, fun e => hpq e.symm, fun k hk => by
    obtain ⟨_, _, _, _, _, g, _⟩ := hgx
    have hk' : k = p := hk
    rw [hk']; exact lies_lt g.c0⟩)
  have HWT := Lib.hid (show Wait w bR (fun k => k = p) w3 from by
    have hr := HR.out
    rw [hbR] at hr
    exact ⟨hg3.cell hr.2.1 (by simp), (grown_frozen hg3 hr.1 0).trans hr.2.2, fun e => by have e' : bR = p := e; omega, by have := HS2.out.1; omega, fun k hk => by have hk' : k = p := hk; have := HG2.out.size; omega, HG3.out⟩)
  have Hhi3 := Lib.hid (Hhi.out.far (N := fun k => k = p) HG3.out (fun k hk => by have hk' : k = p := hk; have := HG2.out.size; omega))
  have Hhi23 := Lib.hid (Hhi2.out.far (N := fun k => k = p) HG3.out (fun k hk => by have hk' : k = p := hk; have := HG2.out.size; omega))
  rw [hbR]
  clear hp hq hpq hqc hgx hg3 hbR q1 hW1 hW2 HB HH HR HS2
  obtain ⟨N0, hN0⟩ : ∃ N : Nat → Prop, (fun k => k = p) = N := ⟨_, rfl⟩
  rw [hN0] at HGS HWT Hhi3 Hhi23
  clear hN0
  have wn : IntKind.i64.wrap ((n2 : Int) + 1) = ((n2 + 1 : Nat) : Int) := by rw [IntWalk.i64_in _ (by have := HLE.out; omega)]; omega
  obtain ⟨e2, he2⟩ : ∃ e, n2 + 1 = e := ⟨_, rfl⟩
  rw [he2] at HRUN HCL wn
  have HE2 := Lib.hid he2
  clear he2
  go_wp2_with fail
  clear wn
  have hl65 : e2 ≤ 65 := by have := HLE.out; have := HE2.out; omega
  go_loopg [11, 18] e2 (fun gk s11 s18 wr => ∃ (j cnt : Nat) (r : Int) (g : List Gt) (N2 : Nat → Prop), s11 = .int .i64 r ∧ s18 = .int .i64 (j : Int) ∧ gk = cnt ∧ j + cnt = e2 ∧ (foldP (lsF l m by') (List.range' j cnt) r).run g = (g9, r9) ∧ r ≤ 9223372036854775807 ∧ (Good g ∧ g.length + 2 * cnt ≤ 990) ∧ ∃ hh, AddS p q N0 w3 N2 wr g hh)
  case atStart => exact ⟨0, e2, 1, gs, N0, rfl, rfl, rfl, by omega, HRUN.out, by omega, ⟨HGD.out, HCL.out⟩, 0, ⟨HGS.out, Goes.refl _ _⟩⟩
  case round =>
    obtain ⟨j, cnt, r, g, N2, rfl, rfl, hgk, hic, hrun, hrl, hgl, hh, hst⟩ := hrel
    have HI := Lib.hid hgk; clear hgk
    have HGS5 := Lib.hid hst; clear hst
    have HGL := Lib.hid hgl; clear hgl
    have HRL := Lib.hid hrl; clear hrl
    have HIC := Lib.hid hic; clear hic
    have HRU := Lib.hid hrun; clear hrun
    obtain ⟨wp, hwp⟩ : ∃ z, z = wr := ⟨_, rfl⟩
    rw [← hwp] at HGS5 ⊢
    clear hwp
    by_cases hjn : j < e2
    · have f1 : decide (j < e2) = true := decide_eq_true hjn
      have f2 : decide ((j : Int) < (e2 : Int)) = true := decide_eq_true (by omega)
      have hcp : 0 < cnt := by have := HIC.out; omega
      obtain ⟨dJ, hdJ⟩ : ∃ d : Int, (j : Int) + by' = d := ⟨_, rfl⟩
      have wJ : IntKind.i64.wrap ((j : Int) + by') = dJ := by rw [IntWalk.i64_in _ (by have := HBY.out; omega)]; exact hdJ
      have hk1 : IntKind.i64.wrap ((j : Int) + 1) = ((j + 1 : Nat) : Int) := by rw [IntWalk.i64_in _ (by omega)]; omega
      have HDJ := Lib.hid (show -1000000 ≤ dJ ∧ dJ ≤ 1000000 by have := HBY.out; omega)
      obtain ⟨x, hx⟩ : ∃ x, reachL l dJ = x := ⟨_, rfl⟩
      obtain ⟨y, hy⟩ : ∃ y, reachL m (j : Int) = y := ⟨_, rfl⟩
      obtain ⟨r1, hr1⟩ : ∃ r, andC g y (notR x) = r := ⟨_, rfl⟩
      obtain ⟨g1, t1⟩ := r1
      obtain ⟨rr2, hr2⟩ : ∃ q, orC g1 r t1 = q := ⟨_, rfl⟩
      obtain ⟨g2, r2⟩ := rr2
      have hxl : x ≤ 9223372036854775807 := by rw [← hx]; exact reachL_le HBA.out _
      have hyl : y ≤ 9223372036854775807 := by rw [← hy]; exact reachL_le HBB.out _
      have htl : t1 ≤ 9223372036854775807 := by have h := and_le (gs := g) hyl (notR_le hxl) (by have := HGL.out.2; omega); rw [hr1] at h; exact h
      have hg1 : Good g1 ∧ g1.length ≤ g.length + 1 := by
        have e := step_and HGL.out.1 y (notR x)
        have e2 := @and_len g y (notR x)
        rw [hr1] at e e2
        exact ⟨e.good, e2⟩
      have hg2 : Good g2 ∧ g2.length ≤ g1.length + 1 := by
        have e := step_or hg1.1 r t1
        have e2 := @or_len g1 r t1
        rw [hr2] at e e2
        exact ⟨e.good, e2⟩
      have HR2 := Lib.hid (show r2 ≤ 9223372036854775807 from by have h := or_le (gs := g1) HRL.out htl (by have := HGL.out.2; have := hg1.2; omega); rw [hr2] at h; exact h)
      have HL2 := Lib.hid (show Good g2 ∧ g2.length + 2 * (cnt - 1) ≤ 990 from ⟨hg2.1, by have := HGL.out.2; have := hg1.2; have := hg2.2; omega⟩)
      have HRU2 := Lib.hid (show (foldP (lsF l m by') (List.range' (j + 1) (cnt - 1)) r2).run g2 = (g9, r9) from by
        have h := HRU.out
        rw [range_cons hcp, run_foldP_cons, run_lsF, hdJ, hx, hy, hr1] at h
        simp only at h
        rw [hr2] at h
        exact h)
      have HCA := Lib.hid (fun M U hh' => gand_c g y (notR x) p g1 t1 hr1 HGL.out.1 (by have := HGL.out.2; omega) M U hh')
      have HCO := Lib.hid (fun M U hh' => gor_c g1 r t1 p g2 r2 hr2 hg1.1 (by have := HGL.out.2; have := hg1.2; omega) HRL.out htl M U hh')
      have HIC1 := Lib.hid (show j + 1 + (cnt - 1) = e2 from by have := HIC.out; omega)
      have HCP := Lib.hid hcp
      have HX := Lib.hid (And.intro hx hy)
      have HXL := Lib.hid hxl
      have HJB := Lib.hid (show -1000000 ≤ (j : Int) ∧ (j : Int) ≤ 1000000 by omega)
      have HS := Lib.hid (fun (Wh : World) (hWh : Off N2 wp Wh) => (hWh.cell HGS5.out.gs.q0 HGS5.out.gs.nq : (fun Wh : World => Wh.cell? ⟨q, 0, none⟩ = some (.pointer (some ⟨p, 0, none⟩))) Wh))
      have HAO := Lib.hid Hhi3.out
      have HBO := Lib.hid Hhi23.out
      clear hcp hdJ hr1 hr2 hxl hyl htl hg1 hg2 hx hy hjn
      go_upto_region 6 with fail
      clear f1 f2
      have hdr0 : wp.grownBy wp.drew none := ⟨rfl, rfl, rfl, Nat.le_refl _, fun _ _ _ => rfl⟩
      have hdr : Off N2 wp wp.drew := Off.of hdr0 (fun k e => by cases e)
      refine wp_region_held_drew (S := (fun Wh : World => Wh.cell? ⟨q, 0, none⟩ = some (.pointer (some ⟨p, 0, none⟩)))) (by kernel_rfl) (HS.out _ hdr) (fun hHeld => ?_)
      refine wpAnyH_take (i := 0) (oi := { dst := some 21, op := Op.move (Operand.tmp 10), type := 58, pos := "count.go:130", after := #[], guard := none }) (v := ?_) rfl (by kernel_rfl) (by kernel_rfl) (by kernel_rfl) (fun _ _ _ h => h) (Or.inl ⟨by rfl, ?_⟩) (by assumption) ?_
      rotate_left 1
      · (intro W hSW; (try dsimp only at hSW); first | (go_simp; done) | (go_simp; with_reducible rfl))
      try simp only [Act.put, List.setIfInBounds_toArray, List.set_cons_zero, List.set_cons_succ]
      refine wpAnyH_take (i := 1) (oi := { dst := some 22, op := Op.nilCheck (Operand.tmp 21), type := 0, pos := "count.go:130", after := #[{ on := 0, ground := Ground.data }], guard := none }) (v := ?_) rfl (by kernel_rfl) (by kernel_rfl) (by kernel_rfl) (fun _ _ _ h => h) (Or.inl ⟨by rfl, ?_⟩) (by assumption) ?_
      rotate_left 1
      · (intro W hSW; (try dsimp only at hSW); first | (go_simp; done) | (go_simp; with_reducible rfl))
      try simp only [Act.put, List.setIfInBounds_toArray, List.set_cons_zero, List.set_cons_succ]
      refine wpAnyH_take (i := 2) (oi := { dst := some 23, op := Op.fieldAddr 65 (Operand.tmp 22) 0, type := 0, pos := "count.go:130", after := #[{ on := 1, ground := Ground.data }], guard := none }) (v := ?_) rfl (by kernel_rfl) (by kernel_rfl) (by kernel_rfl) (fun _ _ _ h => h) (Or.inl ⟨by rfl, ?_⟩) (by assumption) ?_
      rotate_left 1
      · (intro W hSW; (try dsimp only at hSW); first | (go_simp; done) | (go_simp; with_reducible rfl))
      try simp only [Act.put, List.setIfInBounds_toArray, List.set_cons_zero, List.set_cons_succ]
      refine wpAnyH_take (i := 3) (oi := { dst := some 24, op := Op.load 63 (Operand.tmp 23), type := 63, pos := "count.go:130", after := #[{ on := 2, ground := Ground.data }], guard := none }) (v := ?_) rfl (by kernel_rfl) (by kernel_rfl) (by kernel_rfl) (fun _ _ _ h => h) (Or.inl ⟨by rfl, ?_⟩) (by assumption) ?_
      rotate_left 1
      · (intro W hSW; (try dsimp only at hSW); first | (go_simp; done) | (go_simp; with_reducible rfl))
      try simp only [Act.put, List.setIfInBounds_toArray, List.set_cons_zero, List.set_cons_succ]
      refine wpAnyH_take (i := 4) (oi := { dst := some 25, op := Op.move (Operand.tmp 11), type := 3, pos := "count.go:130", after := #[], guard := none }) (v := ?_) rfl (by kernel_rfl) (by kernel_rfl) (by kernel_rfl) (fun _ _ _ h => h) (Or.inl ⟨by rfl, ?_⟩) (by assumption) ?_
      rotate_left 1
      · (intro W hSW; (try dsimp only at hSW); first | (go_simp; done) | (go_simp; with_reducible rfl))
      try simp only [Act.put, List.setIfInBounds_toArray, List.set_cons_zero, List.set_cons_succ]
      refine wpAnyH_take (i := 5) (oi := { dst := some 26, op := Op.move (Operand.tmp 10), type := 58, pos := "count.go:130", after := #[], guard := none }) (v := ?_) rfl (by kernel_rfl) (by kernel_rfl) (by kernel_rfl) (fun _ _ _ h => h) (Or.inl ⟨by rfl, ?_⟩) (by assumption) ?_
      rotate_left 1
      · (intro W hSW; (try dsimp only at hSW); first | (go_simp; done) | (go_simp; with_reducible rfl))
      try simp only [Act.put, List.setIfInBounds_toArray, List.set_cons_zero, List.set_cons_succ]
      refine wpAnyH_take (i := 6) (oi := { dst := some 27, op := Op.nilCheck (Operand.tmp 26), type := 0, pos := "count.go:130", after := #[{ on := 5, ground := Ground.data }], guard := none }) (v := ?_) rfl (by kernel_rfl) (by kernel_rfl) (by kernel_rfl) (fun _ _ _ h => h) (Or.inl ⟨by rfl, ?_⟩) (by assumption) ?_
      rotate_left 1
      · (intro W hSW; (try dsimp only at hSW); first | (go_simp; done) | (go_simp; with_reducible rfl))
      try simp only [Act.put, List.setIfInBounds_toArray, List.set_cons_zero, List.set_cons_succ]
      refine wpAnyH_take (i := 7) (oi := { dst := some 28, op := Op.fieldAddr 65 (Operand.tmp 27) 0, type := 0, pos := "count.go:130", after := #[{ on := 6, ground := Ground.data }], guard := none }) (v := ?_) rfl (by kernel_rfl) (by kernel_rfl) (by kernel_rfl) (fun _ _ _ h => h) (Or.inl ⟨by rfl, ?_⟩) (by assumption) ?_
      rotate_left 1
      · (intro W hSW; (try dsimp only at hSW); first | (go_simp; done) | (go_simp; with_reducible rfl))
      try simp only [Act.put, List.setIfInBounds_toArray, List.set_cons_zero, List.set_cons_succ]
      refine wpAnyH_take (i := 8) (oi := { dst := some 29, op := Op.load 63 (Operand.tmp 28), type := 63, pos := "count.go:130", after := #[{ on := 7, ground := Ground.data }], guard := none }) (v := ?_) rfl (by kernel_rfl) (by kernel_rfl) (by kernel_rfl) (fun _ _ _ h => h) (Or.inl ⟨by rfl, ?_⟩) (by assumption) ?_
      rotate_left 1
      · (intro W hSW; (try dsimp only at hSW); first | (go_simp; done) | (go_simp; with_reducible rfl))
      try simp only [Act.put, List.setIfInBounds_toArray, List.set_cons_zero, List.set_cons_succ]
      refine wpAnyH_take (i := 9) (oi := { dst := some 30, op := Op.move (Operand.tmp 2), type := 33, pos := "count.go:130", after := #[], guard := none }) (v := ?_) rfl (by kernel_rfl) (by kernel_rfl) (by kernel_rfl) (fun _ _ _ h => h) (Or.inl ⟨by rfl, ?_⟩) (by assumption) ?_
      rotate_left 1
      · (intro W hSW; (try dsimp only at hSW); first | (go_simp; done) | (go_simp; with_reducible rfl))
      try simp only [Act.put, List.setIfInBounds_toArray, List.set_cons_zero, List.set_cons_succ]
      refine wpAnyH_take (i := 10) (oi := { dst := some 31, op := Op.move (Operand.tmp 12), type := 3, pos := "count.go:130", after := #[], guard := none }) (v := ?_) rfl (by kernel_rfl) (by kernel_rfl) (by kernel_rfl) (fun _ _ _ h => h) (Or.inl ⟨by rfl, ?_⟩) (by assumption) ?_
      rotate_left 1
      · (intro W hSW; (try dsimp only at hSW); first | (go_simp; done) | (go_simp; with_reducible rfl))
      try simp only [Act.put, List.setIfInBounds_toArray, List.set_cons_zero, List.set_cons_succ]
      refine wpAnyH_take (i := 12) (oi := { dst := some 33, op := Op.move (Operand.tmp 1), type := 33, pos := "count.go:130", after := #[], guard := none }) (v := ?_) rfl (by kernel_rfl) (by kernel_rfl) (by kernel_rfl) (fun _ _ _ h => h) (Or.inl ⟨by rfl, ?_⟩) (by assumption) ?_
      rotate_left 1
      · (intro W hSW; (try dsimp only at hSW); first | (go_simp; done) | (go_simp; with_reducible rfl))
      try simp only [Act.put, List.setIfInBounds_toArray, List.set_cons_zero, List.set_cons_succ]
      refine wpAnyH_take (i := 13) (oi := { dst := some 34, op := Op.move (Operand.tmp 12), type := 3, pos := "count.go:130", after := #[], guard := none }) (v := ?_) rfl (by kernel_rfl) (by kernel_rfl) (by kernel_rfl) (fun _ _ _ h => h) (Or.inl ⟨by rfl, ?_⟩) (by assumption) ?_
      rotate_left 1
      · (intro W hSW; (try dsimp only at hSW); first | (go_simp; done) | (go_simp; with_reducible rfl))
      try simp only [Act.put, List.setIfInBounds_toArray, List.set_cons_zero, List.set_cons_succ]
      refine wpAnyH_take (i := 14) (oi := { dst := some 35, op := Op.move (Operand.tmp 3), type := 3, pos := "count.go:130", after := #[], guard := none }) (v := ?_) rfl (by kernel_rfl) (by kernel_rfl) (by kernel_rfl) (fun _ _ _ h => h) (Or.inl ⟨by rfl, ?_⟩) (by assumption) ?_
      rotate_left 1
      · (intro W hSW; (try dsimp only at hSW); first | (go_simp; done) | (go_simp; with_reducible rfl))
      try simp only [Act.put, List.setIfInBounds_toArray, List.set_cons_zero, List.set_cons_succ]
      refine wpAnyH_take (i := 15) (oi := { dst := some 36, op := Op.binOp BinOp.add 3 (Operand.tmp 34) (Operand.tmp 35) 3, type := 3, pos := "count.go:130", after := #[{ on := 13, ground := Ground.data }, { on := 14, ground := Ground.data }], guard := none }) (v := ?_) rfl (by kernel_rfl) (by kernel_rfl) (by kernel_rfl) (fun _ _ _ h => h) (Or.inl ⟨by rfl, ?_⟩) (by assumption) ?_
      rotate_left 1
      · (intro W hSW; (try dsimp only at hSW); first | (go_simp; done) | (go_simp; with_reducible rfl))
      try simp only [Act.put, List.setIfInBounds_toArray, List.set_cons_zero, List.set_cons_succ]
      refine wpAnyH_ready (rs := [11]) (by kernel_rfl) (by simp) ?_
      refine (AllReadyH.cons (o := { dst := some 32, op := Op.call { callee := Callee.value (Operand.func 42), args := #[Operand.tmp 30, Operand.tmp 31], argTypes := #[33, 3] }, type := 3, pos := "count.go:130", after := #[{ on := 9, ground := Ground.data }, { on := 10, ground := Ground.data }], guard := none }) rfl (fun K hK => ?_) AllReadyH.nil)
      rw [if_pos (by rfl)]
      go_simp
      go_at_call 42
      refine (reached_n m (j : Int) b2 d2 _ HNB.out HX.out.2 (((HBO.out.goes HGS5.out.go).off hdr (fun k hk => .inl hk)).weak) HLB.out HJB.out).mono ?_
      rintro e w9 ⟨rfl, hw9⟩
      rw [hw9]
      clear hw9 w9
      go_wp2_with fail
      refine hK.out _ _ (HS.out _ hdr) (fun hHeld => ?_)
      clear hK K
      try simp only [Act.put, List.setIfInBounds_toArray, List.set_cons_zero, List.set_cons_succ]
      refine wpAnyH_ready (rs := [16]) (by kernel_rfl) (by simp) ?_
      refine (AllReadyH.cons (o := { dst := some 37, op := Op.call { callee := Callee.value (Operand.func 42), args := #[Operand.tmp 33, Operand.tmp 36], argTypes := #[33, 3] }, type := 3, pos := "count.go:130", after := #[{ on := 12, ground := Ground.data }, { on := 15, ground := Ground.data }, { on := 11, ground := Ground.chain }], guard := none }) rfl (fun K hK => ?_) AllReadyH.nil)
      rw [if_pos (by rfl)]
      go_simp
      go_at_call 42
      refine (reached_n l dJ b d _ HNA.out HX.out.1 (((HAO.out.goes HGS5.out.go).off hdr (fun k hk => .inl hk)).weak) HLA.out HDJ.out).mono ?_
      rintro e w9 ⟨rfl, hw9⟩
      rw [hw9]
      clear hw9 w9
      go_wp2_with fail
      refine hK.out _ _ (HS.out _ hdr) (fun hHeld => ?_)
      clear hK K
      try simp only [Act.put, List.setIfInBounds_toArray, List.set_cons_zero, List.set_cons_succ]
      refine wpAnyH_ready (rs := [17]) (by kernel_rfl) (by simp) ?_
      refine (AllReadyH.cons (o := { dst := some 38, op := Op.call { callee := Callee.value (Operand.func 45), args := #[Operand.tmp 37], argTypes := #[3] }, type := 3, pos := "count.go:130", after := #[{ on := 16, ground := Ground.data }, { on := 16, ground := Ground.chain }], guard := none }) rfl (fun K hK => ?_) AllReadyH.nil)
      rw [if_pos (by rfl)]
      go_simp
      go_at_call 45
      refine (not_at x HXL.out).mono ?_
      rintro e w9 ⟨rfl, hw9⟩
      rw [hw9]
      clear hw9 w9
      go_wp2_with fail
      refine hK.out _ _ (HS.out _ hdr) (fun hHeld => ?_)
      clear hK K
      try simp only [Act.put, List.setIfInBounds_toArray, List.set_cons_zero, List.set_cons_succ]
      refine wpAnyH_ready (rs := [18]) (by kernel_rfl) (by simp) ?_
      refine (AllReadyH.cons (o := { dst := some 39, op := Op.call { callee := Callee.value (Operand.func 39), args := #[Operand.tmp 29, Operand.tmp 32, Operand.tmp 38], argTypes := #[63, 3, 3] }, type := 3, pos := "count.go:130", after := #[{ on := 8, ground := Ground.data }, { on := 11, ground := Ground.data }, { on := 17, ground := Ground.data }, { on := 17, ground := Ground.chain }], guard := none }) rfl (fun K hK => ?_) AllReadyH.nil)
      rw [if_pos (by rfl)]
      go_simp
      go_at_call 39
      refine (HCA.out N2 _ _ (HGS5.out.gs.gx.grown hdr0)).mono ?_
      rintro e w3 ⟨rfl, hi3, hx3, ho3⟩
      have hgo := hdr.trans ho3 (fun k _ hk => hk)
      have HX3 := Lib.hid hx3.cut
      clear hx3
      go_wp2_with fail
      refine hK.out _ _ (HS.out _ hgo) (fun hHeld => ?_)
      clear hK K
      try simp only [Act.put, List.setIfInBounds_toArray, List.set_cons_zero, List.set_cons_succ]
      refine wpAnyH_ready (rs := [19]) (by kernel_rfl) (by simp) ?_
      refine (AllReadyH.cons (o := { dst := some 40, op := Op.call { callee := Callee.value (Operand.func 38), args := #[Operand.tmp 24, Operand.tmp 25, Operand.tmp 39], argTypes := #[63, 3, 3] }, type := 3, pos := "count.go:130", after := #[{ on := 3, ground := Ground.data }, { on := 4, ground := Ground.data }, { on := 18, ground := Ground.data }, { on := 18, ground := Ground.chain }], guard := none }) rfl (fun K hK => ?_) AllReadyH.nil)
      rw [if_pos (by rfl)]
      go_simp
      go_at_call 38
      refine (HCO.out _ _ hi3 HX3.out).mono ?_
      rintro e w4 ⟨rfl, hi4, hx4, ho4⟩
      have hgo4 := hgo.trans ho4 (fun k hk hh => by rcases hh.1 with h1 | h1; exact h1; exact absurd h1 (Nat.not_le.2 hk))
      have HX4 := Lib.hid hx4.cut
      have HSZ := Lib.hid (And.intro hgo.size hgo4.size)
      clear hx4
      go_wp2_with fail
      refine hK.out _ _ (HS.out _ hgo4) (fun hHeld => ?_)
      clear hK K
      try simp only [Act.put, List.setIfInBounds_toArray, List.set_cons_zero, List.set_cons_succ]
      refine wpAnyH_take (i := 20) (oi := { dst := some 11, op := Op.assign (Operand.tmp 40), type := 3, pos := "count.go:130", after := #[{ on := 19, ground := Ground.data }, { on := 19, ground := Ground.chain }, { on := 0, ground := Ground.phase }, { on := 1, ground := Ground.phase }, { on := 2, ground := Ground.phase }, { on := 3, ground := Ground.phase }, { on := 4, ground := Ground.phase }, { on := 5, ground := Ground.phase }, { on := 6, ground := Ground.phase }, { on := 7, ground := Ground.phase }, { on := 8, ground := Ground.phase }, { on := 9, ground := Ground.phase }, { on := 10, ground := Ground.phase }, { on := 11, ground := Ground.phase }, { on := 12, ground := Ground.phase }, { on := 13, ground := Ground.phase }, { on := 14, ground := Ground.phase }, { on := 15, ground := Ground.phase }, { on := 16, ground := Ground.phase }, { on := 17, ground := Ground.phase }, { on := 18, ground := Ground.phase }, { on := 19, ground := Ground.phase }], guard := none }) (v := ?_) rfl (by kernel_rfl) (by kernel_rfl) (by kernel_rfl) (fun _ _ _ h => h) (Or.inl ⟨by rfl, ?_⟩) (by assumption) ?_
      rotate_left 1
      · (intro W hSW; (try dsimp only at hSW); first | (go_simp; done) | (go_simp; with_reducible rfl))
      try simp only [Act.put, List.setIfInBounds_toArray, List.set_cons_zero, List.set_cons_succ]
      refine wpAnyH_done (by kernel_rfl) ?_ _
      have hEND := hgo4
      clear hHeld
      have HG4 := Lib.hid hgo4
      clear hdr hdr0 hEND hgo4 hgo ho3 ho4
      go_wp2_with fail
      go_roundg (cnt - 1)
      case measure => rw [HI.out]; have := HCP.out; omega
      case rel => exact ⟨j + 1, cnt - 1, r2, g2, grewM (grewM N2 wp.drew w3) w3 w4, rfl, rfl, rfl, HIC1.out, HRU2.out, HR2.out, HL2.out, _, HGS5.out.step HX4.out HG4.out (fun k hk => by rcases hk with ⟨⟨hk, _⟩ | hk, _⟩; exact hk; exact .inr (Nat.le_trans HSZ.out.1 hk)) (fun k hk => hk.2)⟩
    · have f1 : decide (j < e2) = false := decide_eq_false hjn
      have f2 : decide ((j : Int) < (e2 : Int)) = false := decide_eq_false (by omega)
      have hc0 : cnt = 0 := by have := HIC.out; omega
      have hfin : r = r9 ∧ g = g9 := by
        have h := HRU.out
        rw [hc0] at h
        injection h with h1 h2
        exact ⟨h2, h1⟩
      obtain ⟨rfl, rfl⟩ := hfin
      have HWT5 := Lib.hid (HWT.out.goes HGS5.out.go)
      have HG := Lib.hid HGS5.out.gs
      have HL9 := Lib.hid (show g.length ≤ 1000 from by have := HGL.out.2; omega)
      clear hc0 hjn
      have q0 := HG.out.q0
      go_wp2_with fail
      clear q0 f1 f2
      refine (gcircuit2_calls g p _ _ _ HG.out.gx HL9.out).mono ?_
      rintro e w8 ⟨a8, c8, rfl, hsp8, ho8⟩
      have HD := Lib.hid (HWT5.out.done HG.out ho8 hsp8.here)
      have z0 := HD.out.1
      have zf := HD.out.2.1
      clear hsp8 ho8
      go_wp2_with fail
      clear z0 zf
      refine bodyPost_ret (resB21 _ _ bR a8 g.length c8 (.int .i64 r) rfl rfl HD.out.2.2.1) rfl ?_
      exact ⟨a8, c8, rfl, HD.out.2.2.2.1, HD.out.2.2.2.2.1⟩
/-- AtLeast, plain. -/
def atlP (l : List Int) (k : Int) : Pr Int := if k < 1 ∨ (l.length : Int) < k then .ret (reachL l k) else (sorterP l).bind fun t => .ret (reachL t k)
theorem resB17 (tmps : Array Value) (w : World) (b : Nat) (a : Option Addr) (n c : Nat) (v : Value) (ht : tmps.getD 6 undef = .pointer (some ⟨b, 0, none⟩)) (hv : tmps.getD 7 undef = v) (h0 : w.cell? ⟨b, 0, none⟩ = some (.slice a n c)) :
    (results Try.f17 tmps).run Try.prog w = .ok (.tuple #[.agg #[.slice a n c], v]) w := by
  have ht' : tmps[6]?.getD undef = .pointer (some ⟨b, 0, none⟩) := by simpa using ht
  have hv' : tmps[7]?.getD undef = v := by simpa using hv
  simp [results, ht', hv', go_sem, h0, Result.andThen]

theorem sorter_len {gs : List Gt} (hG : Good gs) (hl : gs.length ≤ 850) {l : List Int} (ho : ∀ r ∈ l, Ok gs r) : Grew gs 126 ((sorterP l).run gs).1 ∧ (∀ r ∈ ((sorterP l).run gs).2, Ok ((sorterP l).run gs).1 r) ∧ ((sorterP l).run gs).2.length = l.length := by
  have h := Pr.safe_run _ (safe_sorterP hG (by omega) ho)
  exact ⟨h.1, h.2.1, h.2.2.1⟩
set_option maxRecDepth 100000 in
set_option maxHeartbeats 4000000 in
theorem atleast_calls (gs : List Gt) (l : List Int) (k : Int) (a : Option Addr) (c : Nat) (b : Option Addr) (d : Nat) (w : World) (h : GatesW w a c gs) (hi : IntsW w b d l) (hG : Good gs) (hl : gs.length ≤ 850) (ho : ∀ r ∈ l, Ok gs r) (hn : l.length ≤ 16) :
    Calls Try.prog 17 #[.agg #[.slice a gs.length c], .slice b l.length d, .int .i64 k] w fun e w' => Ans w ((atlP l k).run gs).1 ((atlP l k).run gs).2 e w' := by
  by_cases hk : k < 1 ∨ (l.length : Int) < k
  · have e : (atlP l k).run gs = (gs, reachL l k) := by unfold atlP; rw [if_pos hk]; rfl
    rw [e]
    simp only
    obtain ⟨n, hn'⟩ : ∃ n, l.length = n := ⟨_, rfl⟩
    have HN := Lib.hid hn'
    have HI0 := Lib.hid hi
    have HL9 := Lib.hid (show gs.length ≤ 1000 by omega)
    have hkk : k < 1 ∨ (n : Int) < k := by omega
    have hn16 : n ≤ 16 := by omega
    obtain ⟨n1, hn1⟩ : ∃ z, n + 1 = z := ⟨_, rfl⟩
    have w1 : IntKind.i64.wrap ((n : Int) + 1) = (n1 : Int) := by rw [IntWalk.i64_in _ (by omega)]; omega
    have HKK := Lib.hid hkk
    rw [hn']
    have hg1 := World.grownBy_alloc w (.cells #[.slice a gs.length c] 32) none
    have hc1 := one_cell w (.slice a gs.length c) 32
    obtain ⟨W1, hW1⟩ : ∃ z, w.alloc (.cells #[.slice a gs.length c] 32) = z := ⟨_, rfl⟩
    rw [hW1] at hg1 hc1
    have hg2 := World.grownBy_alloc W1 (.cells #[.slice none 0 0] 32) none
    have hc2 := one_cell W1 (.slice none 0 0) 32
    obtain ⟨W2, hW2⟩ : ∃ z, W1.alloc (.cells #[.slice none 0 0] 32) = z := ⟨_, rfl⟩
    rw [hW2] at hg2 hc2
    have q1 := hg2.cell hc1.2.1 (by simp)
    have HB := Lib.hid (fun (U : World) (hU : GatesW U a c gs) => newb_calls gs a c U hU)
    have HH := Lib.hid ((h.grown hg1).grown hg2)
    have HG2 := Lib.hid (World.grownBy.trans hg1 hg2)
    have HR := Lib.hid hc2
    have HS2 := Lib.hid (And.intro hg1.size hg2.size)
    have Hhi := Lib.hid hi
    clear h hg1 hg2 hc1 hc2 hi hG ho hn hl e hn' hk
    go_enter Try.func17, Try.ntmps17
    go_upto_region 1 with fail
    go_cut [16] (fun s wx => s = .bool true ∧ wx = W2)
    case first =>
      rcases HKK.out with h1 | h1
      · have g1 : decide (k < 1) = true := decide_eq_true h1
        go_wp2_with fail
        all_goals (go_meet; exact ⟨rfl, rfl⟩)
      · by_cases h2 : k < 1
        · have g1 : decide (k < 1) = true := decide_eq_true h2
          go_wp2_with fail
          all_goals (go_meet; exact ⟨rfl, rfl⟩)
        · have g1 : decide (k < 1) = false := decide_eq_false h2
          have g2 : decide ((n : Int) < k) = true := decide_eq_true h1
          go_wp2_with fail
          all_goals (go_meet; exact ⟨rfl, rfl⟩)
    obtain ⟨rfl, hwc⟩ := hcut
    have hwc2 := hwc.symm
    clear hwc
    subst hwc2
    go_wp2_with fail
    refine (HB.out W2 HH.out).mono ?_
    rintro e w3 ⟨q, p, rfl, hp, hq, hpq, hqc, hgx, hg3⟩
    have HG3 := Lib.hid (World.grownBy.trans HG2.out hg3)
    obtain ⟨bR, hbR⟩ : ∃ z, W1.heap.size = z := ⟨_, rfl⟩
    have HGS := Lib.hid (show GS p q (fun k => k = p) w3 gs 0 from ⟨hgx, hqc, fun e => hpq e.symm, fun k hk => by
      obtain ⟨_, _, _, _, _, g, _⟩ := hgx
      have hk' : k = p := hk
      rw [hk']; exact lies_lt g.c0⟩)
    have HWT := Lib.hid (show Wait w bR (fun k => k = p) w3 from by
      have hr := HR.out
      rw [hbR] at hr
      exact ⟨hg3.cell hr.2.1 (by simp), (grown_frozen hg3 hr.1 0).trans hr.2.2, fun e => by have e' : bR = p := e; omega, by have := HS2.out.1; omega, fun k hk => by have hk' : k = p := hk; have := HG2.out.size; omega, HG3.out⟩)
    have Hhi3 := Lib.hid (Hhi.out.far (N := fun k => k = p) HG3.out (fun k hk => by have hk' : k = p := hk; have := HG2.out.size; omega))
    rw [hbR]
    clear hp hq hpq hqc hgx hg3 hbR q1 hW1 hW2 HB HH HR HS2
    obtain ⟨N0, hN0⟩ : ∃ N : Nat → Prop, (fun k => k = p) = N := ⟨_, rfl⟩
    rw [hN0] at HGS HWT Hhi3
    clear hN0
    have q0 := HGS.out.q0
    go_wp2_with fail
    clear q0
    refine (gcircuit2_calls gs p _ _ _ HGS.out.gx HL9.out).mono ?_
    rintro e w8 ⟨a8, c8, rfl, hsp8, ho8⟩
    have HD := Lib.hid (HWT.out.done HGS.out ho8 hsp8.here)
    have HR8 := Lib.hid ((Hhi3.out.off (N' := fun _ => False) (ho8.mono (fun k _ hk => by rw [hk]; exact HGS.out.mem_p)) (fun _ h => h.elim)).weak)
    have HO8 := Lib.hid ho8
    clear hsp8 ho8 hkk
    have z0 := HD.out.1
    have zf := HD.out.2.1
    by_cases hk1 : k ≤ (n1 : Int)
    · have HRC := Lib.hid (show Calls Try.prog 42 #[.slice b n d, .int .i64 k] w8 (fun e w' => e = .returned (.int .i64 (reachL l k)) ∧ w' = w8) from by
        by_cases h1 : k < 1
        · exact reached_neg l k b n d w8 h1
        · exact reached_n l k b d w8 HN.out rfl HR8.out (by have := HN.out; omega) (by omega))
      have m2 : decide (k ≤ (n1 : Int)) = true := decide_eq_true hk1
      have m5 : min k (n1 : Int) = k := by omega
      have m6 : ¬ (n1 : Int) < k := by omega
      have m7 : decide ((n1 : Int) < k) = false := decide_eq_false m6
      go_wp2_with fail
      refine HRC.out.mono ?_
      rintro e w9 ⟨rfl, hw9⟩
      rw [hw9]
      clear hw9 w9
      go_wp2_with fail
      clear z0 zf
      refine bodyPost_ret (resB17 _ _ bR a8 gs.length c8 _ rfl rfl HD.out.2.2.1) rfl ?_
      exact ⟨a8, c8, rfl, HD.out.2.2.2.1, HD.out.2.2.2.2.1⟩
    · have HRC := Lib.hid (show Calls Try.prog 42 #[.slice b n d, .int .i64 (n1 : Int)] w8 (fun e w' => e = .returned (.int .i64 (reachL l k)) ∧ w' = w8) from by
        have e1 : reachL l k = reachL l (n1 : Int) := by
          have := HN.out
          unfold reachL
          rw [if_neg (by omega), if_pos (by omega), if_neg (by omega), if_pos (by omega)]
        rw [e1]
        exact reached_n l (n1 : Int) b d w8 HN.out rfl HR8.out (by have := HN.out; omega) (by omega))
      have m2 : decide (k ≤ (n1 : Int)) = false := decide_eq_false hk1
      have m3 : (n1 : Int) ≤ k := by omega
      have m4 : decide ((n1 : Int) ≤ k) = true := decide_eq_true m3
      have m5 : min k (n1 : Int) = (n1 : Int) := by omega
      have m6 : (n1 : Int) < k := by omega
      have m7 : decide ((n1 : Int) < k) = true := decide_eq_true m6
      go_wp2_with fail
      refine HRC.out.mono ?_
      rintro e w9 ⟨rfl, hw9⟩
      rw [hw9]
      clear hw9 w9
      go_wp2_with fail
      clear z0 zf
      refine bodyPost_ret (resB17 _ _ bR a8 gs.length c8 _ rfl rfl HD.out.2.2.1) rfl ?_
      exact ⟨a8, c8, rfl, HD.out.2.2.2.1, HD.out.2.2.2.2.1⟩
  · obtain ⟨s1, s2, s3⟩ := sorter_len hG hl ho
    obtain ⟨n, hn'⟩ : ∃ n, l.length = n := ⟨_, rfl⟩
    have HSO := Lib.hid (fun (U : World) (hU : GatesW U a c gs) (hV : IntsW U b d l) => sorter_calls gs l a c b d U hU hV hG hl ho hn)
    obtain ⟨res, hres⟩ : ∃ r, (sorterP l).run gs = r := ⟨_, rfl⟩
    obtain ⟨g9, l9⟩ := res
    have e : (atlP l k).run gs = (g9, reachL l9 k) := by unfold atlP; rw [if_neg hk, Pr.run_bind, hres]; rfl
    rw [e]
    rw [hres] at HSO s3
    simp only at HSO s3 ⊢
    have HN9 := Lib.hid (show l9.length = n from by rw [s3, hn'])
    have hkk : ¬ k < 1 ∧ ¬ (n : Int) < k := by omega
    have hn16 : n ≤ 16 := by omega
    have hg1 := World.grownBy_alloc w (.cells #[.slice a gs.length c] 32) none
    have hc1 := one_cell w (.slice a gs.length c) 32
    obtain ⟨W1, hW1⟩ : ∃ z, w.alloc (.cells #[.slice a gs.length c] 32) = z := ⟨_, rfl⟩
    rw [hW1] at hg1 hc1
    have hg2 := World.grownBy_alloc W1 (.cells #[.slice none 0 0] 32) none
    have hc2 := one_cell W1 (.slice none 0 0) 32
    obtain ⟨W2, hW2⟩ : ∃ z, W1.alloc (.cells #[.slice none 0 0] 32) = z := ⟨_, rfl⟩
    rw [hW2] at hg2 hc2
    have q1 := hg2.cell hc1.2.1 (by simp)
    have HQ := Lib.hid (show W2.cell? ⟨w.heap.size, 0, none⟩ = some (.slice a gs.length c) ∧ W2.frozen? ⟨w.heap.size, 0, none⟩ = false from ⟨q1, (grown_frozen hg2 hc1.1 0).trans hc1.2.2⟩)
    have HG2 := Lib.hid (World.grownBy.trans hg1 hg2)
    have HR := Lib.hid hc2
    have HS2 := Lib.hid (And.intro hg1.size (And.intro hg2.size hc1.1))
    have HCALL := Lib.hid (HSO.out W2 ((h.grown hg1).grown hg2) ((hi.grown hg1).grown hg2))
    rw [hn'] at HCALL ⊢
    have f1 : decide (k < 1) = false := decide_eq_false hkk.1
    have f2 : decide ((n : Int) < k) = false := decide_eq_false hkk.2
    clear h hi hG hl ho hn hres s1 s2 s3 hn' hg1 hg2 hc1 hc2 HSO e hk
    go_enter Try.func17, Try.ntmps17
    go_upto_region 3 with fail
    clear f1 f2
    go_wp2_with fail
    refine HCALL.out.mono ?_
    rintro e w3 ⟨a9, c9, vb9, cb9, rfl, hw3, hi3, hg3⟩
    obtain ⟨bR, hbR⟩ : ∃ z, W1.heap.size = z := ⟨_, rfl⟩
    obtain ⟨bC, hbC⟩ : ∃ z, w.heap.size = z := ⟨_, rfl⟩
    have HQ3 := Lib.hid (show w3.cell? ⟨bC, 0, none⟩ = some (.slice a gs.length c) ∧ w3.frozen? ⟨bC, 0, none⟩ = false from by
      rw [← hbC]; exact ⟨hg3.cell HQ.out.1 (by simp), (grown_frozen hg3 (lies_lt HQ.out.1) 0).trans HQ.out.2⟩)
    have HR3 := Lib.hid (show w3.cell? ⟨bR, 0, none⟩ = some (.slice none 0 0) ∧ w3.frozen? ⟨bR, 0, none⟩ = false from by
      rw [← hbR]; exact ⟨hg3.cell HR.out.2.1 (by simp), (grown_frozen hg3 HR.out.1 0).trans HR.out.2.2⟩)
    have HLR := Lib.hid (show w.heap.size ≤ bR from by rw [← hbR]; exact HS2.out.1)
    have HLC := Lib.hid (show w.heap.size ≤ bC ∧ bC ≠ bR from by have := HS2.out.2.2; omega)
    have HW3 := Lib.hid hw3
    have HI3 := Lib.hid hi3
    have HG3 := Lib.hid (World.grownBy.trans HG2.out hg3)
    rw [hbC, hbR]
    rw [HN9.out]
    have z0 := HQ3.out.1
    have zf := HQ3.out.2
    clear hbR hbC hw3 hi3 hg3 q1 hW1 hW2 HQ HR HS2 HCALL
    go_upto_region 4 with fail
    clear z0 zf
    have HC9 := Lib.hid (World.cell?_setCell_same w3 ⟨bC, 0, none⟩ (.slice a9 g9.length c9) HQ3.out.1)
    have HW9 := Lib.hid (HW3.out.set HQ3.out.1 (.slice a9 g9.length c9))
    have HI9 := Lib.hid (HI3.out.set HQ3.out.1 (.slice a9 g9.length c9))
    have HG9 := Lib.hid (grown_own HG3.out (grown_set w3 bC 0 (.slice a9 g9.length c9)) (fun k e => by cases e; exact HLC.out.1))
    have HR9 := Lib.hid (show (w3.setCell ⟨bC, 0, none⟩ (.slice a9 g9.length c9)).cell? ⟨bR, 0, none⟩ = some (.slice none 0 0) ∧ (w3.setCell ⟨bC, 0, none⟩ (.slice a9 g9.length c9)).frozen? ⟨bR, 0, none⟩ = false from
      ⟨by rw [World.cell?_setCell_other _ _ _ _ (fun e => by injection e with e _; exact HLC.out.2 e)]; exact HR3.out.1, by rw [World.frozen?_setCell]; exact HR3.out.2⟩)
    obtain ⟨w7, hw7⟩ : ∃ z, w3.setCell ⟨bC, 0, none⟩ (.slice a9 g9.length c9) = z := ⟨_, rfl⟩
    rw [hw7] at HC9 HW9 HI9 HG9 HR9 ⊢
    clear hw7
    have HS := Lib.hid (fun (Wh : World) (hWh : w7.grownBy Wh (some bR)) => (hWh.cell HC9.out (fun e => by injection e with e; exact HLC.out.2 e) : (fun Wh : World => Wh.cell? ⟨bC, 0, none⟩ = some (.slice a9 g9.length c9)) Wh))
    have hdr : w7.grownBy w7.drew none := ⟨rfl, rfl, rfl, Nat.le_refl _, fun _ _ _ => rfl⟩
    refine wp_region_held_drew (S := (fun Wh : World => Wh.cell? ⟨bC, 0, none⟩ = some (.slice a9 g9.length c9))) (by kernel_rfl) (HS.out _ (grown_any hdr (some bR))) (fun hHeld => ?_)
    refine wpAnyH_take (i := 0) (oi := { dst := some 36, op := Op.load 32 (Operand.tmp 3), type := 32, pos := "count.go:91", after := #[], guard := none }) (v := ?_) rfl (by kernel_rfl) (by kernel_rfl) (by kernel_rfl) (fun _ _ _ h => h) (Or.inl ⟨by rfl, ?_⟩) (by assumption) ?_
    rotate_left 1
    · (intro W hSW; (try dsimp only at hSW); first | (go_simp; done) | (go_simp; with_reducible rfl))
    try simp only [Act.put, List.setIfInBounds_toArray, List.set_cons_zero, List.set_cons_succ]
    refine wpAnyH_take (i := 1) (oi := { dst := some 37, op := Op.move (Operand.tmp 8), type := 33, pos := "count.go:91", after := #[], guard := none }) (v := ?_) rfl (by kernel_rfl) (by kernel_rfl) (by kernel_rfl) (fun _ _ _ h => h) (Or.inl ⟨by rfl, ?_⟩) (by assumption) ?_
    rotate_left 1
    · (intro W hSW; (try dsimp only at hSW); first | (go_simp; done) | (go_simp; with_reducible rfl))
    try simp only [Act.put, List.setIfInBounds_toArray, List.set_cons_zero, List.set_cons_succ]
    refine wpAnyH_take (i := 2) (oi := { dst := some 38, op := Op.move (Operand.tmp 2), type := 3, pos := "count.go:91", after := #[], guard := none }) (v := ?_) rfl (by kernel_rfl) (by kernel_rfl) (by kernel_rfl) (fun _ _ _ h => h) (Or.inl ⟨by rfl, ?_⟩) (by assumption) ?_
    rotate_left 1
    · (intro W hSW; (try dsimp only at hSW); first | (go_simp; done) | (go_simp; with_reducible rfl))
    try simp only [Act.put, List.setIfInBounds_toArray, List.set_cons_zero, List.set_cons_succ]
    refine wpAnyH_ready (rs := [3]) (by kernel_rfl) (by simp) ?_
    refine (AllReadyH.cons (o := { dst := some 39, op := Op.call { callee := Callee.value (Operand.func 42), args := #[Operand.tmp 37, Operand.tmp 38], argTypes := #[33, 3] }, type := 3, pos := "count.go:91", after := #[{ on := 1, ground := Ground.data }, { on := 2, ground := Ground.data }], guard := none }) rfl (fun K hK => ?_) AllReadyH.nil)
    rw [if_pos (by rfl)]
    go_simp
    go_at_call 42
    refine (reached_n l9 k vb9 cb9 _ HN9.out rfl (HI9.out.grown hdr) (by have := HN9.out; omega) (by omega)).mono ?_
    rintro e w9 ⟨rfl, hw9⟩
    rw [hw9]
    clear hw9 w9
    go_wp2_with fail
    refine hK.out _ _ (HS.out _ (grown_any hdr (some bR))) (fun hHeld => ?_)
    clear hK K
    try simp only [Act.put, List.setIfInBounds_toArray, List.set_cons_zero, List.set_cons_succ]
    refine wpAnyH_ready (rs := [4]) (by kernel_rfl) (by simp) ?_
    refine (AllReadyH.cons (o := { dst := none, op := Op.store 32 (Operand.tmp 6) (Operand.tmp 36), type := 0, pos := "count.go:91", after := #[{ on := 0, ground := Ground.data }, { on := 3, ground := Ground.chain }, { on := 0, ground := Ground.phase }, { on := 1, ground := Ground.textOnly Departure.lateStores }, { on := 2, ground := Ground.textOnly Departure.lateStores }, { on := 3, ground := Ground.textOnly Departure.lateStoresUnsure }], guard := none }) rfl (fun K hK => ?_) AllReadyH.nil)
    rw [if_pos (by rfl)]
    have z0 := hdr.cell HR9.out.1 (by simp)
    have zf := (grown_frozen hdr (lies_lt HR9.out.1) 0).trans HR9.out.2
    go_simp
    clear z0 zf
    have hds : (w7.setCell ⟨bR, 0, none⟩ (.slice a9 g9.length c9)).grownBy (w7.setCell ⟨bR, 0, none⟩ (.slice a9 g9.length c9)).drew none := ⟨rfl, rfl, rfl, Nat.le_refl _, fun _ _ _ => rfl⟩
    have HFC := Lib.hid (hds.cell (World.cell?_setCell_same w7 ⟨bR, 0, none⟩ (.slice a9 g9.length c9) HR9.out.1) (by simp))
    have HFW := Lib.hid ((HW9.out.set HR9.out.1 (.slice a9 g9.length c9)).grown hds)
    have HFG := Lib.hid (World.grownBy.trans (grown_own HG9.out (grown_set w7 bR 0 (.slice a9 g9.length c9)) (fun k e => by cases e; exact HLR.out)) hds)
    clear hds
    have hgs := World.grownBy.trans (grown_any hdr (some bR)) (grown_set w7.drew bR 0 (.slice a9 g9.length c9))
    refine hK.out _ _ (HS.out _ hgs) (fun hHeld => ?_)
    clear hK K
    try simp only [Act.put, List.setIfInBounds_toArray, List.set_cons_zero, List.set_cons_succ]
    refine wpAnyH_take (i := 5) (oi := { dst := some 7, op := Op.assign (Operand.tmp 39), type := 3, pos := "count.go:91", after := #[{ on := 3, ground := Ground.data }, { on := 4, ground := Ground.chain }, { on := 0, ground := Ground.phase }, { on := 1, ground := Ground.phase }, { on := 2, ground := Ground.phase }, { on := 3, ground := Ground.phase }, { on := 4, ground := Ground.phase }], guard := none }) (v := ?_) rfl (by kernel_rfl) (by kernel_rfl) (by kernel_rfl) (fun _ _ _ h => h) (Or.inl ⟨by rfl, ?_⟩) (by assumption) ?_
    rotate_left 1
    · (intro W hSW; (try dsimp only at hSW); first | (go_simp; done) | (go_simp; with_reducible rfl))
    try simp only [Act.put, List.setIfInBounds_toArray, List.set_cons_zero, List.set_cons_succ]
    refine wpAnyH_done (by kernel_rfl) ?_ _
    have hEND := hgs
    clear hHeld
    clear hEND hgs
    obtain ⟨wF, hwF⟩ : ∃ z, (w7.setCell ⟨bR, 0, none⟩ (.slice a9 g9.length c9)).drew = z := ⟨_, rfl⟩
    rw [hwF] at HFC HFW HFG ⊢
    clear hwF hdr
    go_wp2_with fail
    refine bodyPost_ret (resB17 _ _ bR a9 g9.length c9 _ rfl rfl HFC.out) rfl ?_
    exact ⟨a9, c9, rfl, HFW.out, HFG.out⟩
end Go.Proofs.Ythagoihpppppkaa
