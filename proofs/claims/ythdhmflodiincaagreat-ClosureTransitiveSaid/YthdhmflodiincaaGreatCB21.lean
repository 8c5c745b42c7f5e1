/- Texts of the proof: UH RX RY2. -/
import Derived.Test.YthdhmflodiincaaGreatCB20
import Derived.Test.YthdhmflodiincaaGreatCB00
import Derived.Deep.DeepCutAuto
import Derived.Test.YthdhmflodiincaaGreatCB16
import Derived.Test.YthdhmflodiincaaGreatCB14
import Derived.Test.YthdhmflodiincaaGreatCB15
import Derived.Test.YthdhmflodiincaaGreatCB12
import Derived.Test.YthdhmflodiincaaGreatCB09
import Derived.Test.YthdhmflodiincaaGreatCB01
import Derived.Laws.StructEq
set_option maxRecDepth 100000
set_option maxHeartbeats 8000000
namespace Go.Proofs.YthdhmflodiincaaGreat
open Go.RowKit Go.Maps

theorem acF_ok {n : Nat} {gs : List Gt} {l : List Cl} (hG : Good gs) (hl : Sq n gs l) (x : Nat) (hx : x ≤ n) (hn : gs.length + n ≤ 19900) :
    Grew gs x ((foldP (acF n l) (List.range x) 0).run gs).1 ∧ Ok ((foldP (acF n l) (List.range x) 0).run gs).1 ((foldP (acF n l) (List.range x) 0).run gs).2 := by
  have h := Pr.safe_run _ (safe_accP (f := acF n l) (st := fun v b x => b && !hasV gs v l ((x : Int) * n + x)) (c := 1) hG (List.range x) (one_ok hG).2 (fun g j y r hj hg hr => by
    have o1 := (hl.grow hg.pre).1.at_ok hg.good ((y : Int) * n + y)
    have hj1 := (List.getElem?_eq_some_iff.1 hj).1
    rw [List.length_range] at hj1
    have l1 := hg.len
    refine Pr.safe_mono (fun g' r' h => ⟨h.1, h.2.1, fun v => ?_⟩) _ (safe_andP hg.good (by omega) hr (notR_ok o1))
    rw [h.2.2 v, val_not o1]
    congr 2
    exact has_grow hg.pre hG hl.1 v _))
  exact ⟨h.1.wide (by rw [List.length_range]; omega), h.2.1⟩
theorem resU62 (tmps : Array Value) (w : World) (b : Nat) (a : Option Addr) (n d : Nat) (x : Value) (ht : tmps.getD 6 undef = .pointer (some ⟨b, 0, none⟩)) (hu : tmps.getD 7 undef = x) (h0 : w.cell? ⟨b, 0, none⟩ = some (.slice a n d)) :
    (results Tryz.f36 tmps).run Tryz.prog w = .ok (.tuple #[.agg #[.slice a n d], x]) w := by
  have ht' : tmps[6]?.getD undef = .pointer (some ⟨b, 0, none⟩) := by simpa using ht
  have hu' : tmps[7]?.getD undef = x := by simpa using hu
  simp [results, ht', hu', go_sem, h0, Result.andThen]
theorem acyclic_calls (w : World) (n : Nat) (gs : List Gt) (m : List Cl) (xa ma : Option Addr) (xc mc ng nm : Nat) (hng : gs.length = ng) (hnm : m.length = nm) (h : GatesW w xa xc gs) (hm : CellsW w ma mc m)
    (hG : Good gs) (hs : Sq n gs m) (hn1 : 1 ≤ n) (hn4 : n ≤ 4) (hl : ng + roundC n * 2 ≤ 440) :
    Calls Tryz.prog 36 #[.agg #[.slice xa ng xc], .int .i64 (n : Int), .agg #[.int .i64 2, .slice ma nm mc]] w (Ans w (acR n gs m).1 (acR n gs m).2) := by
  obtain ⟨s1, s2, s3, s4, s5⟩ := smP_ok hG hs hn1 hn4 (by omega)
  have HQ := Lib.hid (fun (U : World) (hU : GatesW U xa xc gs) (hM : CellsW U ma mc m) => smaller_calls U n gs m xa ma xc mc ng nm hng hnm hU hM hG hs hn1 hn4 hl)
  have HAR : Hid (acR n gs m = (acP n (smP n gs m).2).run (smP n gs m).1) := Lib.hid rfl
  obtain ⟨gq, hgq⟩ : ∃ z, (smP n gs m).1 = z := ⟨_, rfl⟩
  obtain ⟨lq, hlq⟩ : ∃ z, (smP n gs m).2 = z := ⟨_, rfl⟩
  rw [hgq, hlq] at HQ HAR
  rw [hgq] at s1 s3 s4
  rw [hlq] at s4
  obtain ⟨nq, hnq⟩ : ∃ z, gq.length = z := ⟨_, rfl⟩
  obtain ⟨nl, hnl⟩ : ∃ z, lq.length = z := ⟨_, rfl⟩
  have HSQ := Lib.hid s4
  have HGQ := Lib.hid s1
  have hnl16 : nl ≤ 16 := by have h1 := s4.len; have : n * n ≤ 4 * 4 := Nat.mul_le_mul hn4 hn4; omega
  have HNL := Lib.hid (show gq.length = nq ∧ lq.length = nl ∧ nl ≤ 16 ∧ nq ≤ 440 ∧ 1 ≤ n ∧ n ≤ 4 from ⟨hnq, hnl, hnl16, by omega, hn1, hn4⟩)
  have HTB := Lib.hid (show ∀ k : Int, inM lq k = false → atM lq k = 1 from fun k hk => inM_not hk)
  obtain ⟨W, b0, b1, b2, hW, hg, hsz, ⟨hb0, hb1, hb2⟩, k0, k1, k2⟩ := boxes3 w xa ng xc 2 ma nm mc
  have HG := Lib.hid hg
  have H0 := Lib.hid k0
  have H1 := Lib.hid k1
  have H2 := Lib.hid k2
  have HN := Lib.hid (show w.heap.size ≤ b0 ∧ b0 < b1 ∧ b1 < b2 ∧ b2 < W.heap.size from by omega)
  have HX := Lib.hid (h.grown hg)
  have HM := Lib.hid (hm.grown hg)
  have HB := Lib.hid (And.intro hb2 (And.intro hb1 hb0))
  clear hg k0 k1 k2 hsz h hm hb0 hb1 hb2 hgq hlq hnq hnl hnl16 hng hnm hG hs hn1 hn4 hl s1 s2 s3 s4 s5
  go_enter Tryz.func36, Tryz.ntmps36
  go_upto_region 1 with fail
  rw [HB.out.1, HB.out.2.1, HB.out.2.2]
  clear hW HB
  have q0 := H0.out.1
  have q1 := H1.out.1
  have r1 := H1.out.2.1
  go_wp2_with fail
  clear q0 q1 r1
  refine (HQ.out W HX.out HM.out).mono ?_
  rintro e V1 ⟨aq, cq, dq, nq2, eqx, rfl, hn2, hr, hm2, gw⟩
  obtain rfl : nl = nq2 := by rw [← hn2, HNL.out.2.1]
  rw [HNL.out.1]
  replace H0 := Lib.hid (H0.out.grown gw)
  replace H1 := Lib.hid (H1.out.grown gw)
  replace H2 := Lib.hid (H2.out.grown gw)
  replace HX := Lib.hid (HX.out.grown gw)
  replace HM := Lib.hid (HM.out.grown gw)
  replace HG := Lib.hid (World.grownBy.trans HG.out gw)
  have HS1 := Lib.hid (World.grownBy.size gw)
  clear gw
  have HR := Lib.hid hr
  have HT := Lib.hid hm2
  clear hr hm2 hn2 HX HM HQ
  have q0 := (H0.out.grown (World.grownBy_alloc V1 (.cells #[.int .i64 0, .slice none 0 0] 35) none)).1
  have f0 := (H0.out.grown (World.grownBy_alloc V1 (.cells #[.int .i64 0, .slice none 0 0] 35) none)).2
  have hne1 : ¬ b0 = V1.heap.size := (by have := HN.out; have := HS1.out; omega)
  have hne2 : ¬ V1.heap.size = b0 := (by have := HN.out; have := HS1.out; omega)
  go_upto_region 2 with fail
  clear q0 f0 hne1 hne2
  have gw := World.grownBy_alloc V1 (.cells #[.int .i64 0, .slice none 0 0] 35) none
  have hb := MF.new V1 0 none 0 0
  obtain ⟨V2, hV⟩ : ∃ z, World.alloc V1 (.cells #[.int .i64 0, .slice none 0 0] 35) = z := ⟨_, rfl⟩
  have hz : V2.heap.size = V1.heap.size + 1 := by rw [← hV]; simp
  rw [hV] at gw hb ⊢
  clear hV
  obtain ⟨b8, hbb⟩ : ∃ z, V1.heap.size = z := ⟨_, rfl⟩
  rw [hbb] at hb ⊢
  have HS2 := Lib.hid (show V1.heap.size = b8 ∧ V2.heap.size = b8 + 1 from by omega)
  clear hz hbb
  replace H0 := Lib.hid (H0.out.grown gw)
  replace H1 := Lib.hid (H1.out.grown gw)
  replace H2 := Lib.hid (H2.out.grown gw)
  replace HR := Lib.hid (HR.out.grown gw)
  replace HT := Lib.hid (HT.out.grown gw)
  replace HG := Lib.hid (World.grownBy.trans HG.out gw)
  have HS3 := Lib.hid (World.grownBy.size gw)
  clear gw
  have H8 := Lib.hid hb
  clear hb
  have nw0 := H0.out.put aq nq cq
  have nw1 := H0.out.mf (.slice aq nq cq) H1.out
  have nw2 := H0.out.cf (.slice aq nq cq) H2.out (by have := HN.out; have := HS1.out; have := HS2.out; have := HS3.out; omega)
  have nwR := H0.out.gates (.slice aq nq cq) HR.out
  have nwT := H0.out.cells (.slice aq nq cq) HT.out
  have nw8 := H0.out.mf (.slice aq nq cq) H8.out
  have nG := CF.grows HG.out (by have := HN.out; have := HS1.out; have := HS2.out; have := HS3.out; omega) (.slice aq nq cq) (b := b0)
  have nS : (World.setCell V2 ⟨b0, 0, none⟩ (.slice aq nq cq)).heap.size = V2.heap.size := by simp
  obtain ⟨V3, hV⟩ : ∃ z, World.setCell V2 ⟨b0, 0, none⟩ (.slice aq nq cq) = z := ⟨_, rfl⟩
  rw [hV] at nw0 nw1 nw2 nwR nwT nw8 nG nS ⊢
  clear hV
  replace H0 := Lib.hid nw0
  replace H1 := Lib.hid nw1
  replace H2 := Lib.hid nw2
  replace HR := Lib.hid nwR
  replace HT := Lib.hid nwT
  replace H8 := Lib.hid nw8
  replace HG := Lib.hid nG
  have HS4 := Lib.hid nS
  clear nG nS nw0 nw1 nw2 nwR nwT nw8
  have nw0 := H8.out.cf (.int .i64 2) (.slice dq nl eqx) H0.out
  have nw1 := H8.out.mf (.int .i64 2) (.slice dq nl eqx) H1.out (by have := HN.out; have := HS1.out; have := HS2.out; have := HS3.out; have := HS4.out; omega)
  have nw2 := H8.out.cf (.int .i64 2) (.slice dq nl eqx) H2.out
  have nwR := H8.out.gates (.int .i64 2) (.slice dq nl eqx) HR.out
  have nwT := H8.out.cells (.int .i64 2) (.slice dq nl eqx) HT.out
  have nw8 := H8.out.put 2 dq nl eqx
  have nG := MF.grows HG.out (by have := HN.out; have := HS1.out; have := HS2.out; have := HS3.out; have := HS4.out; omega) (.int .i64 2) (.slice dq nl eqx) (b := b8)
  have nS : (World.setCell (World.setCell V3 ⟨b8, 0, none⟩ (.int .i64 2)) ⟨b8, 1, none⟩ (.slice dq nl eqx)).heap.size = V3.heap.size := by simp
  unfold laidX at nw0 nw1 nw2 nwR nwT nw8 nG
  obtain ⟨V4, hV⟩ : ∃ z, World.setCell (World.setCell V3 ⟨b8, 0, none⟩ (.int .i64 2)) ⟨b8, 1, none⟩ (.slice dq nl eqx) = z := ⟨_, rfl⟩
  rw [hV] at nw0 nw1 nw2 nwR nwT nw8 nG nS ⊢
  clear hV
  replace H0 := Lib.hid nw0
  replace H1 := Lib.hid nw1
  replace H2 := Lib.hid nw2
  replace HR := Lib.hid nwR
  replace HT := Lib.hid nwT
  replace H8 := Lib.hid nw8
  replace HG := Lib.hid nG
  have HS5 := Lib.hid nS
  clear nG nS nw0 nw1 nw2 nwR nwT nw8
  have gw := World.grownBy_alloc V4 (.map #[] 0) none
  have hmt := MapT.made V4 (fun _ => (1 : Int))
  obtain ⟨V5, hV⟩ : ∃ z, World.alloc V4 (.map #[] 0) = z := ⟨_, rfl⟩
  have hz : V5.heap.size = V4.heap.size + 1 := by rw [← hV]; simp
  rw [hV] at gw hmt
  obtain ⟨bm, hbm⟩ : ∃ z, V4.heap.size = z := ⟨_, rfl⟩
  rw [hbm] at hmt
  have hmm : (Instr.makeMap 79 none).run Tryz.prog V4 = .ok (.map (some bm)) V5 := by rw [← hV, ← hbm]; rfl
  have HSM := Lib.hid (show V4.heap.size = bm ∧ V5.heap.size = bm + 1 from by omega)
  clear hV hz hbm
  replace H0 := Lib.hid (H0.out.grown gw)
  replace H1 := Lib.hid (H1.out.grown gw)
  replace H2 := Lib.hid (H2.out.grown gw)
  replace HR := Lib.hid (HR.out.grown gw)
  replace HT := Lib.hid (HT.out.grown gw)
  replace H8 := Lib.hid (H8.out.grown gw)
  replace HG := Lib.hid (World.grownBy.trans HG.out gw)
  have HS6 := Lib.hid (World.grownBy.size gw)
  clear gw
  have HP := Lib.hid hmt
  clear hmt
  have q8 := H8.out.1
  have r8 := H8.out.2.1
  go_wp2_with fail
  clear hmm
  clear q8 r8
  have HSA := Lib.hid (show w.heap.size ≤ b0 ∧ b0 < b2 ∧ b2 < b8 ∧ b8 < bm ∧ bm < V5.heap.size from (by have := HN.out; have := HS1.out; have := HS2.out; have := HS3.out; have := HS4.out; have := HS5.out; have := HSM.out; have := HS6.out; omega))
  go_loopg [27] nl (fun gk s27 wr => ∃ i : Nat, s27 = .int .i64 (i : Int) ∧ gk = nl - i ∧ i ≤ nl ∧ w.grownBy wr none ∧ bm < wr.heap.size ∧ CF wr b0 aq nq cq ∧ CF wr b2 none 0 0 ∧ GatesW wr aq cq gq ∧ CellsW wr dq eqx lq ∧ MapT wr bm i (tabB (lq.take i)) (tabV (lq.take i)))
  case atStart => exact ⟨0, rfl, rfl, Nat.zero_le _, HG.out, HSA.out.2.2.2.2, H0.out, H2.out, HR.out, HT.out, HP.out⟩
  case round =>
    clear H0 H1 H2 H8 HR HT HG HP
    obtain ⟨i, rfl, hgi, hi, hg, hbm, h0, h2, hr, ht, hp⟩ := hrel
    have HG := Lib.hid hg
    have H0 := Lib.hid h0
    have H2 := Lib.hid h2
    have HR := Lib.hid hr
    have HT := Lib.hid ht
    have HP := Lib.hid hp
    have HBM := Lib.hid hbm
    have HI := Lib.hid hgi
    clear hg h0 h2 hr ht hp hbm hgi
    by_cases hin : i < nl
    · have f1 : decide (i < nl) = true := decide_eq_true hin
      have f2 : decide ((i : Int) < (nl : Int)) = true := decide_eq_true (by omega)
      have hj0 : (0 : Int) ≤ (i : Int) := by omega
      have hj1 : (i : Int) < (nl : Int) := by omega
      have hk1 : IntKind.i64.wrap ((i : Int) + 1) = ((i + 1 : Nat) : Int) := by rw [IntWalk.i64_in _ (by have := HNL.out; omega)]; omega
      obtain ⟨x, hx⟩ : ∃ r, lq[i]? = some r := ⟨_, List.getElem?_eq_getElem (by rw [HNL.out.2.1]; exact hin)⟩
      obtain ⟨bx, ox, hbx, x0, x1⟩ := HT.out.at hx
      subst hbx
      have hx2 := HSQ.out.2 x (List.mem_of_getElem? hx)
      have hx3 := (HSQ.out.1.2 x (List.mem_of_getElem? hx)).1
      have HXX := Lib.hid hx
      clear hx
      obtain ⟨k, r⟩ := x
      simp only at hx2 hx3 x0 x1
      have hsq : (n : Int) * n ≤ 16 := by have h1 : n * n ≤ 4 * 4 := Nat.mul_le_mul HNL.out.2.2.2.2.2 HNL.out.2.2.2.2.2; omega
      have HKR := Lib.hid (show 0 ≤ k ∧ k ≤ 16 ∧ 0 ≤ r ∧ r ≤ 1000 from by unfold Ok at hx3; have := HNL.out; omega)
      clear hx2 hx3 hsq
      go_upto_region 6 with fail
      clear x0 x1
      have gw := World.grownBy_alloc wr (.cells #[.int .i64 k, .int .i64 r] 70) none
      have hc5 := one_cells wr (.int .i64 k) (.int .i64 r) 70
      obtain ⟨U, hU⟩ : ∃ z, World.alloc wr (.cells #[.int .i64 k, .int .i64 r] 70) = z := ⟨_, rfl⟩
      rw [hU] at gw hc5 ⊢
      clear hU
      obtain ⟨bz, hbz⟩ : ∃ z, wr.heap.size = z := ⟨_, rfl⟩
      rw [hbz] at hc5 ⊢
      clear hbz
      replace H0 := Lib.hid (H0.out.grown gw)
      replace H2 := Lib.hid (H2.out.grown gw)
      replace HR := Lib.hid (HR.out.grown gw)
      replace HT := Lib.hid (HT.out.grown gw)
      replace HP := Lib.hid (HP.out.grown gw)
      replace HG := Lib.hid (World.grownBy.trans HG.out gw)
      have HS51 := Lib.hid (World.grownBy.size gw)
      clear gw
      have y0 := hc5.2.1
      have y1 := hc5.2.2.1
      clear hc5
      obtain ⟨Y, hstr, hm3, hg3⟩ := HP.out.store (by have := HNL.out; omega) (wfK_small HKR.out.1 (by have := HKR.out; omega)) (wfK_small (z := r) HKR.out.2.2.1 (by have := HKR.out; omega))
      go_wp2_with fail
      clear y0 y1 hstr
      have nw0 := HP.out.cf hg3 H0.out
      have nw2 := HP.out.cf hg3 H2.out
      have nwR := HP.out.gates hg3 HR.out
      have nwT := HP.out.cells hg3 HT.out
      have nG := grown_own HG.out hg3 (fun k e => by cases e; exact (by have := HSA.out; omega))
      replace H0 := Lib.hid nw0
      replace H2 := Lib.hid nw2
      replace HR := Lib.hid nwR
      replace HT := Lib.hid nwT
      replace HG := Lib.hid nG
      have HS52 := Lib.hid (World.grownBy.size hg3)
      clear nG nw0 nw2 nwR nwT
      have HPN := Lib.hid (show MapT Y bm (i + 1) (tabB (lq.take (i + 1))) (tabV (lq.take (i + 1))) from by rw [List.take_add_one, HXX.out]; show MapT Y bm (i + 1) (tabB (lq.take i ++ [(k, r)])) (tabV (lq.take i ++ [(k, r)])); rw [tabB_snoc, tabV_snoc]; exact hm3)
      clear hm3 hg3
      go_roundg (nl - (i + 1))
      case measure => rw [HI.out]; omega
      case rel => exact ⟨i + 1, rfl, rfl, by omega, HG.out, (by have := HSA.out; have := HBM.out; have := HS51.out; have := HS52.out; omega), H0.out, H2.out, HR.out, HT.out, HPN.out⟩
    · have f1 : decide (i < nl) = false := decide_eq_false hin
      have f2 : decide ((i : Int) < (nl : Int)) = false := decide_eq_false (by omega)
      obtain rfl : i = nl := by omega
      clear hin hi
      have HPT := Lib.hid (show MapT wr bm i (inM lq) (atM lq) from by
        have h := HP.out
        rw [show lq.take i = lq from by rw [← HNL.out.2.1, List.take_length]] at h
        rw [show tabB lq = inM lq from funext (tabB_in lq), show tabV lq = atM lq from funext (tabV_at lq HSQ.out.1.1)] at h
        exact h)
      clear HP
      go_wp2_with fail
      go_loopg [12, 38] n (fun gk s12 s38 wr => ∃ (x : Nat) (ya : Option Addr) (yc : Nat), s38 = .int .i64 (x : Int) ∧ s12 = .int .i64 ((foldP (acF n lq) (List.range x) 0).run gq).2 ∧ gk = n - x ∧ x ≤ n ∧ w.grownBy wr none ∧ bm < wr.heap.size ∧ CF wr b0 ya ((foldP (acF n lq) (List.range x) 0).run gq).1.length yc ∧ CF wr b2 none 0 0 ∧ GatesW wr ya yc ((foldP (acF n lq) (List.range x) 0).run gq).1 ∧ MapT wr bm i (inM lq) (atM lq))
      case atStart => exact ⟨0, aq, cq, rfl, rfl, rfl, Nat.zero_le _, HG.out, HBM.out, by rw [show (foldP (acF n lq) (List.range 0) 0).run gq = (gq, 0) from rfl, show gq.length = nq from HNL.out.1]; exact H0.out, H2.out, HR.out, HPT.out⟩
      case round =>
        clear H0 H2 HR HT HG HPT HBM
        obtain ⟨x, ya, yc, rfl, rfl, hgx, hx, hg, hbm, h0, h2, hr, hp⟩ := hrel
        obtain ⟨gr, hgr⟩ : ∃ z, (foldP (acF n lq) (List.range x) 0).run gq = z := ⟨_, rfl⟩
        have HGR := Lib.hid hgr
        rw [hgr] at h0 hr ⊢
        clear hgr
        obtain ⟨g, r⟩ := gr
        simp only at h0 hr ⊢
        obtain ⟨ny, hny⟩ : ∃ z, g.length = z := ⟨_, rfl⟩
        rw [hny] at h0
        have HG := Lib.hid hg
        have H0 := Lib.hid h0
        have H2 := Lib.hid h2
        have HR := Lib.hid hr
        have HP := Lib.hid hp
        have HBM := Lib.hid hbm
        have HI2 := Lib.hid hgx
        have HNY := Lib.hid hny
        clear hg h0 h2 hr hp hbm hgx hny
        by_cases hxn : x < n
        · have f1 : decide (x < n) = true := decide_eq_true hxn
          have f2 : decide ((x : Int) < (n : Int)) = true := decide_eq_true (by omega)
          have hk1 : IntKind.i64.wrap ((x : Int) + 1) = ((x + 1 : Nat) : Int) := by rw [IntWalk.i64_in _ (by have := HNL.out; omega)]; omega
          obtain ⟨z, hz⟩ : ∃ z : Nat, x * n = z := ⟨_, rfl⟩
          have hz16 : z ≤ 12 := by rw [← hz]; exact Nat.mul_le_mul (show x ≤ 3 by have := HNL.out; omega) HNL.out.2.2.2.2.2
          have hzi : (x : Int) * (n : Int) = (z : Int) := by rw [← hz]; simp
          have hw1 : IntKind.i64.wrap (z : Int) = (z : Int) := IntWalk.i64_in _ (by omega)
          obtain ⟨y, hy⟩ : ∃ y : Nat, z + x = y := ⟨_, rfl⟩
          have hy16 : y ≤ 16 := by have := HNL.out; omega
          have hw2 : IntKind.i64.wrap ((z : Int) + (x : Int)) = (y : Int) := by rw [IntWalk.i64_in _ (by have := HNL.out; omega)]; omega
          have HZ := Lib.hid hzi
          have HY := Lib.hid hy
          obtain ⟨c, hlk, hc⟩ := HP.out.look (k := (y : Int)) (wfK_small (by omega) (by omega))
          obtain ⟨hI, hhI⟩ : ∃ q, inM lq (y : Int) = q := ⟨_, rfl⟩
          rw [hhI] at hlk hc
          have HHI := Lib.hid hhI
          clear hz hz16 hhI hy hy16
          have HAT : Hid (ite (hI = true) c 1 = atM lq (y : Int)) := Lib.hid (by
            cases hI with
            | true => simpa using hc rfl
            | false => simpa using (HTB.out _ HHI.out).symm)
          clear hc
          obtain ⟨a, ha⟩ : ∃ q, atM lq (y : Int) = q := ⟨_, rfl⟩
          have HA := Lib.hid ha
          rw [ha] at HAT
          clear ha
          have HAO := Lib.hid (show a ≤ 9223372036854775807 from by have h1 := HSQ.out.1.at_ok HGQ.out ((y : Int)); rw [HA.out] at h1; unfold Ok at h1; have := HNL.out; omega)
          have HOK := Lib.hid (show Good g ∧ ny ≤ 450 from by
            have h := acF_ok (n := n) HGQ.out HSQ.out x (by omega) (by have := HNL.out; omega)
            rw [HGR.out] at h
            have h2 : g.length ≤ gq.length + x := h.1.len
            exact ⟨h.1.good, by have := HNL.out; have := HNY.out; omega⟩)
          obtain ⟨gr2, hgr2⟩ : ∃ z, andC g r (notR a) = z := ⟨_, rfl⟩
          obtain ⟨g2, r2⟩ := gr2
          have HGR2 := Lib.hid (show (foldP (acF n lq) (List.range (x + 1)) 0).run gq = (g2, r2) from by rw [run_acF, HGR.out, HZ.out, show (z : Int) + (x : Int) = (y : Int) from by have := HY.out; omega, HA.out, hgr2])
          have HE := Lib.hid hgr2
          clear hgr2
          cases hI with
          | true =>
            obtain rfl : c = a := by simpa using HAT.out
            go_upto_region 15 with fail
            clear hlk f1 f2 hzi hw1 hw2
            have HS := Lib.hid (fun (Wh : World) (_ : True) => (rfl : (fun Wh : World => Wh = Wh) Wh))
            obtain ⟨wd, hwd⟩ : ∃ z, wr.drew = z := ⟨_, rfl⟩
            have gw : wr.grownBy wd none := by rw [← hwd]; exact ⟨rfl, rfl, rfl, Nat.le_refl _, fun _ _ _ => rfl⟩
            replace H0 := Lib.hid (H0.out.grown gw)
            replace H2 := Lib.hid (H2.out.grown gw)
            replace HR := Lib.hid (HR.out.grown gw)
            replace HP := Lib.hid (HP.out.grown gw)
            replace HG := Lib.hid (World.grownBy.trans HG.out gw)
            have HS71 := Lib.hid (World.grownBy.size gw)
            clear gw
            have hdr : True := trivial
            refine wp_region_held_drew (S := (fun Wh : World => Wh = Wh)) (by kernel_rfl) (HS.out _ hdr) (fun hHeld => ?_)
            rw [hwd] at hHeld ⊢
            clear hwd
            refine wpAnyH_take (i := 1) (oi := { dst := some 55, op := Op.move (Operand.tmp 12), type := 3, pos := "closure.go:73", after := #[], guard := none }) (v := ?_) rfl (by kernel_rfl) (by kernel_rfl) (by kernel_rfl) (fun _ _ _ h => h) (Or.inl ⟨by rfl, ?_⟩) (by assumption) ?_
            rotate_left 1
            · (intro W h; (try dsimp only at h); go_simp <;> with_reducible rfl)
            try simp only [Act.put, sA, sB, sC]
            refine wpAnyH_take (i := 2) (oi := { dst := some 56, op := Op.move (Operand.tmp 14), type := 3, pos := "closure.go:73", after := #[], guard := none }) (v := ?_) rfl (by kernel_rfl) (by kernel_rfl) (by kernel_rfl) (fun _ _ _ h => h) (Or.inl ⟨by rfl, ?_⟩) (by assumption) ?_
            rotate_left 1
            · (intro W h; (try dsimp only at h); go_simp <;> with_reducible rfl)
            try simp only [Act.put, sA, sB, sC]
            refine wpAnyH_ready (rs := [0, 3]) (by kernel_rfl) (by simp) ?_
            refine (AllReadyH.cons (o := { dst := some 54, op := Op.load 27 (Operand.tmp 3), type := 27, pos := "closure.go:73", after := #[], guard := none }) rfl (fun K hK => ?_) (AllReadyH.cons (o := { dst := some 57, op := Op.call { callee := Callee.value (Operand.func 62), args := #[Operand.tmp 56], argTypes := #[3] }, type := 3, pos := "closure.go:73", after := #[{ on := 2, ground := Ground.data }], guard := none }) rfl (fun K hK => ?_) AllReadyH.nil))
            · rw [if_pos (by rfl)]
              have q0 := H0.out.1
              go_simp
              clear q0
              refine hK.out _ _ (by first | exact trivial | simp) (fun hHeld => ?_)
              clear hK K
              try simp only [Act.put, sA, sB, sC]
              refine wpAnyH_ready (rs := [3]) (by kernel_rfl) (by simp) ?_
              refine (AllReadyH.cons (o := { dst := some 57, op := Op.call { callee := Callee.value (Operand.func 62), args := #[Operand.tmp 56], argTypes := #[3] }, type := 3, pos := "closure.go:73", after := #[{ on := 2, ground := Ground.data }], guard := none }) rfl (fun K hK => ?_) AllReadyH.nil)
              rw [if_pos (by rfl)]
              go_simp
              go_at_call 62
              refine (not_at c HAO.out).mono ?_
              rintro e wq ⟨rfl, hw⟩
              rw [hw]
              clear hw wq
              go_wp2_with fail
              refine hK.out _ _ (by first | exact trivial | simp) (fun hHeld => ?_)
              clear hK K
              try simp only [Act.put, sA, sB, sC]
              refine wpAnyH_ready (rs := [4]) (by kernel_rfl) (by simp) ?_
              refine (AllReadyH.cons (o := { dst := some 58, op := Op.call { callee := Callee.value (Operand.func 74), args := #[Operand.tmp 54, Operand.tmp 55, Operand.tmp 57], argTypes := #[27, 3, 3] }, type := 54, pos := "closure.go:73", after := #[{ on := 0, ground := Ground.data }, { on := 1, ground := Ground.data }, { on := 3, ground := Ground.data }, { on := 3, ground := Ground.chain }], guard := none }) rfl (fun K hK => ?_) AllReadyH.nil)
              rw [if_pos (by rfl)]
              go_simp
              go_at_call 74
              refine (cand_calls wd g g2 r (notR c) r2 ya yc ny HNY.out HR.out HOK.out.1 (by have := HOK.out; omega) HE.out).mono ?_
              rintro e U ⟨yb, yd, rfl, hr, gw⟩
              replace H0 := Lib.hid (H0.out.grown gw)
              replace H2 := Lib.hid (H2.out.grown gw)
              replace HR := Lib.hid (HR.out.grown gw)
              replace HP := Lib.hid (HP.out.grown gw)
              replace HG := Lib.hid (World.grownBy.trans HG.out gw)
              have HS72 := Lib.hid (World.grownBy.size gw)
              clear gw
              have HR2 := Lib.hid hr
              clear hr
              go_wp2_with fail
              refine hK.out _ _ (by first | exact trivial | simp) (fun hHeld => ?_)
              clear hK K
              try simp only [Act.put, sA, sB, sC]
              refine wpAnyH_take (i := 5) (oi := { dst := some 53, op := Op.move (Operand.tmp 58), type := 54, pos := "closure.go:73", after := #[{ on := 4, ground := Ground.data }], guard := none }) (v := ?_) rfl (by kernel_rfl) (by kernel_rfl) (by kernel_rfl) (fun _ _ _ h => h) (Or.inl ⟨by rfl, ?_⟩) (by assumption) ?_
              rotate_left 1
              · (intro W h; (try dsimp only at h); go_simp <;> with_reducible rfl)
              try simp only [Act.put, sA, sB, sC]
              refine wpAnyH_take (i := 6) (oi := { dst := some 59, op := Op.extract (Operand.tmp 53) 0, type := 27, pos := "closure.go:73", after := #[{ on := 5, ground := Ground.data }], guard := none }) (v := ?_) rfl (by kernel_rfl) (by kernel_rfl) (by kernel_rfl) (fun _ _ _ h => h) (Or.inl ⟨by rfl, ?_⟩) (by assumption) ?_
              rotate_left 1
              · (intro W h; (try dsimp only at h); go_simp <;> with_reducible rfl)
              try simp only [Act.put, sA, sB, sC]
              refine wpAnyH_take (i := 7) (oi := { dst := some 60, op := Op.extract (Operand.tmp 53) 1, type := 3, pos := "closure.go:73", after := #[{ on := 5, ground := Ground.data }, { on := 8, ground := Ground.gcOnly Departure.lateStores }], guard := none }) (v := ?_) rfl (by kernel_rfl) (by kernel_rfl) (by kernel_rfl) (fun _ _ _ h => h) (Or.inl ⟨by rfl, ?_⟩) (by assumption) ?_
              rotate_left 1
              · (intro W h; (try dsimp only at h); go_simp <;> with_reducible rfl)
              try simp only [Act.put, sA, sB, sC]
              refine wpAnyH_ready (rs := [8]) (by kernel_rfl) (by simp) ?_
              refine (AllReadyH.cons (o := { dst := none, op := Op.store 27 (Operand.tmp 3) (Operand.tmp 59), type := 0, pos := "closure.go:73", after := #[{ on := 6, ground := Ground.data }, { on := 4, ground := Ground.chain }, { on := 0, ground := Ground.phase }, { on := 1, ground := Ground.phase }, { on := 2, ground := Ground.phase }, { on := 3, ground := Ground.phase }, { on := 4, ground := Ground.phase }, { on := 5, ground := Ground.phase }, { on := 6, ground := Ground.phase }, { on := 7, ground := Ground.textOnly Departure.lateStores }], guard := none }) rfl (fun K hK => ?_) AllReadyH.nil)
              rw [if_pos (by rfl)]
              have q0 := H0.out.1
              have kf := H0.out.2
              go_simp
              clear q0 kf
              have nw0 := H0.out.put yb g2.length yd
              have nw2 := H0.out.cf (.slice yb g2.length yd) H2.out (by have := HSA.out; have := HBM.out; have := HS71.out; have := HS72.out; omega)
              have nwR := H0.out.gates (.slice yb g2.length yd) HR.out
              have nwP := HP.out.setc (v := (.slice yb g2.length yd)) H0.out
              have nwR2 := H0.out.gates (.slice yb g2.length yd) HR2.out
              have nG := CF.grows HG.out (by have := HSA.out; have := HBM.out; have := HS71.out; have := HS72.out; omega) (.slice yb g2.length yd) (b := b0)
              have nS : (World.setCell U ⟨b0, 0, none⟩ (.slice yb g2.length yd)).heap.size = U.heap.size := by simp
              obtain ⟨V71, hV⟩ : ∃ z, World.setCell U ⟨b0, 0, none⟩ (.slice yb g2.length yd) = z := ⟨_, rfl⟩
              rw [hV] at nw0 nw2 nwR nwP nwR2 nG nS ⊢
              clear hV
              replace H0 := Lib.hid nw0
              replace H2 := Lib.hid nw2
              replace HR := Lib.hid nwR
              replace HP := Lib.hid nwP
              replace HR2 := Lib.hid nwR2
              replace HG := Lib.hid nG
              have HS73 := Lib.hid nS
              clear nG nS nw0 nw2 nwR nwP nwR2
              refine hK.out _ _ (by first | exact trivial | simp) (fun hHeld => ?_)
              clear hK K
              try simp only [Act.put, sA, sB, sC]
              refine wpAnyH_take (i := 9) (oi := { dst := some 12, op := Op.assign (Operand.tmp 60), type := 3, pos := "closure.go:73", after := #[{ on := 7, ground := Ground.data }, { on := 8, ground := Ground.chain }, { on := 0, ground := Ground.phase }, { on := 1, ground := Ground.phase }, { on := 2, ground := Ground.phase }, { on := 3, ground := Ground.phase }, { on := 4, ground := Ground.phase }, { on := 5, ground := Ground.phase }, { on := 6, ground := Ground.phase }, { on := 7, ground := Ground.phase }, { on := 8, ground := Ground.phase }], guard := none }) (v := ?_) rfl (by kernel_rfl) (by kernel_rfl) (by kernel_rfl) (fun _ _ _ h => h) (Or.inl ⟨by rfl, ?_⟩) (by assumption) ?_
              rotate_left 1
              · (intro W h; (try dsimp only at h); go_simp <;> with_reducible rfl)
              try simp only [Act.put, sA, sB, sC]
              refine wpAnyH_done (by kernel_rfl) ?_ _
              have hEND := hdr
              clear hHeld
              go_wp2_with fail
              go_roundg (n - (x + 1))
              case measure => rw [HI2.out]; omega
              case rel => exact ⟨x + 1, yb, yd, rfl, by rw [HGR2.out], rfl, by omega, HG.out, (by have := HSA.out; have := HBM.out; have := HS71.out; have := HS72.out; have := HS73.out; omega), by rw [HGR2.out]; exact H0.out, H2.out, by rw [HGR2.out]; exact HR2.out, HP.out⟩
            · rw [if_pos (by rfl)]
              go_simp
              go_at_call 62
              refine (not_at c HAO.out).mono ?_
              rintro e wq ⟨rfl, hw⟩
              rw [hw]
              clear hw wq
              go_wp2_with fail
              refine hK.out _ _ (by first | exact trivial | simp) (fun hHeld => ?_)
              clear hK K
              try simp only [Act.put, sA, sB, sC]
              refine wpAnyH_ready (rs := [0]) (by kernel_rfl) (by simp) ?_
              refine (AllReadyH.cons (o := { dst := some 54, op := Op.load 27 (Operand.tmp 3), type := 27, pos := "closure.go:73", after := #[], guard := none }) rfl (fun K hK => ?_) AllReadyH.nil)
              rw [if_pos (by rfl)]
              have q0 := H0.out.1
              go_simp
              clear q0
              refine hK.out _ _ (by first | exact trivial | simp) (fun hHeld => ?_)
              clear hK K
              try simp only [Act.put, sA, sB, sC]
              refine wpAnyH_ready (rs := [4]) (by kernel_rfl) (by simp) ?_
              refine (AllReadyH.cons (o := { dst := some 58, op := Op.call { callee := Callee.value (Operand.func 74), args := #[Operand.tmp 54, Operand.tmp 55, Operand.tmp 57], argTypes := #[27, 3, 3] }, type := 54, pos := "closure.go:73", after := #[{ on := 0, ground := Ground.data }, { on := 1, ground := Ground.data }, { on := 3, ground := Ground.data }, { on := 3, ground := Ground.chain }], guard := none }) rfl (fun K hK => ?_) AllReadyH.nil)
              rw [if_pos (by rfl)]
              go_simp
              go_at_call 74
              refine (cand_calls wd g g2 r (notR c) r2 ya yc ny HNY.out HR.out HOK.out.1 (by have := HOK.out; omega) HE.out).mono ?_
              rintro e U ⟨yb, yd, rfl, hr, gw⟩
              replace H0 := Lib.hid (H0.out.grown gw)
              replace H2 := Lib.hid (H2.out.grown gw)
              replace HR := Lib.hid (HR.out.grown gw)
              replace HP := Lib.hid (HP.out.grown gw)
              replace HG := Lib.hid (World.grownBy.trans HG.out gw)
              have HS72 := Lib.hid (World.grownBy.size gw)
              clear gw
              have HR2 := Lib.hid hr
              clear hr
              go_wp2_with fail
              refine hK.out _ _ (by first | exact trivial | simp) (fun hHeld => ?_)
              clear hK K
              try simp only [Act.put, sA, sB, sC]
              refine wpAnyH_take (i := 5) (oi := { dst := some 53, op := Op.move (Operand.tmp 58), type := 54, pos := "closure.go:73", after := #[{ on := 4, ground := Ground.data }], guard := none }) (v := ?_) rfl (by kernel_rfl) (by kernel_rfl) (by kernel_rfl) (fun _ _ _ h => h) (Or.inl ⟨by rfl, ?_⟩) (by assumption) ?_
              rotate_left 1
              · (intro W h; (try dsimp only at h); go_simp <;> with_reducible rfl)
              try simp only [Act.put, sA, sB, sC]
              refine wpAnyH_take (i := 6) (oi := { dst := some 59, op := Op.extract (Operand.tmp 53) 0, type := 27, pos := "closure.go:73", after := #[{ on := 5, ground := Ground.data }], guard := none }) (v := ?_) rfl (by kernel_rfl) (by kernel_rfl) (by kernel_rfl) (fun _ _ _ h => h) (Or.inl ⟨by rfl, ?_⟩) (by assumption) ?_
              rotate_left 1
              · (intro W h; (try dsimp only at h); go_simp <;> with_reducible rfl)
              try simp only [Act.put, sA, sB, sC]
              refine wpAnyH_take (i := 7) (oi := { dst := some 60, op := Op.extract (Operand.tmp 53) 1, type := 3, pos := "closure.go:73", after := #[{ on := 5, ground := Ground.data }, { on := 8, ground := Ground.gcOnly Departure.lateStores }], guard := none }) (v := ?_) rfl (by kernel_rfl) (by kernel_rfl) (by kernel_rfl) (fun _ _ _ h => h) (Or.inl ⟨by rfl, ?_⟩) (by assumption) ?_
              rotate_left 1
              · (intro W h; (try dsimp only at h); go_simp <;> with_reducible rfl)
              try simp only [Act.put, sA, sB, sC]
              refine wpAnyH_ready (rs := [8]) (by kernel_rfl) (by simp) ?_
              refine (AllReadyH.cons (o := { dst := none, op := Op.store 27 (Operand.tmp 3) (Operand.tmp 59), type := 0, pos := "closure.go:73", after := #[{ on := 6, ground := Ground.data }, { on := 4, ground := Ground.chain }, { on := 0, ground := Ground.phase }, { on := 1, ground := Ground.phase }, { on := 2, ground := Ground.phase }, { on := 3, ground := Ground.phase }, { on := 4, ground := Ground.phase }, { on := 5, ground := Ground.phase }, { on := 6, ground := Ground.phase }, { on := 7, ground := Ground.textOnly Departure.lateStores }], guard := none }) rfl (fun K hK => ?_) AllReadyH.nil)
              rw [if_pos (by rfl)]
              have q0 := H0.out.1
              have kf := H0.out.2
              go_simp
              clear q0 kf
              have nw0 := H0.out.put yb g2.length yd
              have nw2 := H0.out.cf (.slice yb g2.length yd) H2.out (by have := HSA.out; have := HBM.out; have := HS71.out; have := HS72.out; omega)
              have nwR := H0.out.gates (.slice yb g2.length yd) HR.out
              have nwP := HP.out.setc (v := (.slice yb g2.length yd)) H0.out
              have nwR2 := H0.out.gates (.slice yb g2.length yd) HR2.out
              have nG := CF.grows HG.out (by have := HSA.out; have := HBM.out; have := HS71.out; have := HS72.out; omega) (.slice yb g2.length yd) (b := b0)
              have nS : (World.setCell U ⟨b0, 0, none⟩ (.slice yb g2.length yd)).heap.size = U.heap.size := by simp
              obtain ⟨V71, hV⟩ : ∃ z, World.setCell U ⟨b0, 0, none⟩ (.slice yb g2.length yd) = z := ⟨_, rfl⟩
              rw [hV] at nw0 nw2 nwR nwP nwR2 nG nS ⊢
              clear hV
              replace H0 := Lib.hid nw0
              replace H2 := Lib.hid nw2
              replace HR := Lib.hid nwR
              replace HP := Lib.hid nwP
              replace HR2 := Lib.hid nwR2
              replace HG := Lib.hid nG
              have HS73 := Lib.hid nS
              clear nG nS nw0 nw2 nwR nwP nwR2
              refine hK.out _ _ (by first | exact trivial | simp) (fun hHeld => ?_)
              clear hK K
              try simp only [Act.put, sA, sB, sC]
              refine wpAnyH_take (i := 9) (oi := { dst := some 12, op := Op.assign (Operand.tmp 60), type := 3, pos := "closure.go:73", after := #[{ on := 7, ground := Ground.data }, { on := 8, ground := Ground.chain }, { on := 0, ground := Ground.phase }, { on := 1, ground := Ground.phase }, { on := 2, ground := Ground.phase }, { on := 3, ground := Ground.phase }, { on := 4, ground := Ground.phase }, { on := 5, ground := Ground.phase }, { on := 6, ground := Ground.phase }, { on := 7, ground := Ground.phase }, { on := 8, ground := Ground.phase }], guard := none }) (v := ?_) rfl (by kernel_rfl) (by kernel_rfl) (by kernel_rfl) (fun _ _ _ h => h) (Or.inl ⟨by rfl, ?_⟩) (by assumption) ?_
              rotate_left 1
              · (intro W h; (try dsimp only at h); go_simp <;> with_reducible rfl)
              try simp only [Act.put, sA, sB, sC]
              refine wpAnyH_done (by kernel_rfl) ?_ _
              have hEND := hdr
              clear hHeld
              go_wp2_with fail
              go_roundg (n - (x + 1))
              case measure => rw [HI2.out]; omega
              case rel => exact ⟨x + 1, yb, yd, rfl, by rw [HGR2.out], rfl, by omega, HG.out, (by have := HSA.out; have := HBM.out; have := HS71.out; have := HS72.out; have := HS73.out; omega), by rw [HGR2.out]; exact H0.out, H2.out, by rw [HGR2.out]; exact HR2.out, HP.out⟩
          | false =>
            obtain rfl : (1 : Int) = a := by simpa using HAT.out
            go_upto_region 15 with fail
            clear hlk f1 f2 hzi hw1 hw2
            have HS := Lib.hid (fun (Wh : World) (_ : True) => (rfl : (fun Wh : World => Wh = Wh) Wh))
            obtain ⟨wd, hwd⟩ : ∃ z, wr.drew = z := ⟨_, rfl⟩
            have gw : wr.grownBy wd none := by rw [← hwd]; exact ⟨rfl, rfl, rfl, Nat.le_refl _, fun _ _ _ => rfl⟩
            replace H0 := Lib.hid (H0.out.grown gw)
            replace H2 := Lib.hid (H2.out.grown gw)
            replace HR := Lib.hid (HR.out.grown gw)
            replace HP := Lib.hid (HP.out.grown gw)
            replace HG := Lib.hid (World.grownBy.trans HG.out gw)
            have HS71 := Lib.hid (World.grownBy.size gw)
            clear gw
            have hdr : True := trivial
            refine wp_region_held_drew (S := (fun Wh : World => Wh = Wh)) (by kernel_rfl) (HS.out _ hdr) (fun hHeld => ?_)
            rw [hwd] at hHeld ⊢
            clear hwd
            refine wpAnyH_take (i := 1) (oi := { dst := some 55, op := Op.move (Operand.tmp 12), type := 3, pos := "closure.go:73", after := #[], guard := none }) (v := ?_) rfl (by kernel_rfl) (by kernel_rfl) (by kernel_rfl) (fun _ _ _ h => h) (Or.inl ⟨by rfl, ?_⟩) (by assumption) ?_
            rotate_left 1
            · (intro W h; (try dsimp only at h); go_simp <;> with_reducible rfl)
            try simp only [Act.put, sA, sB, sC]
            refine wpAnyH_take (i := 2) (oi := { dst := some 56, op := Op.move (Operand.tmp 14), type := 3, pos := "closure.go:73", after := #[], guard := none }) (v := ?_) rfl (by kernel_rfl) (by kernel_rfl) (by kernel_rfl) (fun _ _ _ h => h) (Or.inl ⟨by rfl, ?_⟩) (by assumption) ?_
            rotate_left 1
            · (intro W h; (try dsimp only at h); go_simp <;> with_reducible rfl)
            try simp only [Act.put, sA, sB, sC]
            refine wpAnyH_ready (rs := [0, 3]) (by kernel_rfl) (by simp) ?_
            refine (AllReadyH.cons (o := { dst := some 54, op := Op.load 27 (Operand.tmp 3), type := 27, pos := "closure.go:73", after := #[], guard := none }) rfl (fun K hK => ?_) (AllReadyH.cons (o := { dst := some 57, op := Op.call { callee := Callee.value (Operand.func 62), args := #[Operand.tmp 56], argTypes := #[3] }, type := 3, pos := "closure.go:73", after := #[{ on := 2, ground := Ground.data }], guard := none }) rfl (fun K hK => ?_) AllReadyH.nil))
            · rw [if_pos (by rfl)]
              have q0 := H0.out.1
              go_simp
              clear q0
              refine hK.out _ _ (by first | exact trivial | simp) (fun hHeld => ?_)
              clear hK K
              try simp only [Act.put, sA, sB, sC]
              refine wpAnyH_ready (rs := [3]) (by kernel_rfl) (by simp) ?_
              refine (AllReadyH.cons (o := { dst := some 57, op := Op.call { callee := Callee.value (Operand.func 62), args := #[Operand.tmp 56], argTypes := #[3] }, type := 3, pos := "closure.go:73", after := #[{ on := 2, ground := Ground.data }], guard := none }) rfl (fun K hK => ?_) AllReadyH.nil)
              rw [if_pos (by rfl)]
              go_simp
              go_at_call 62
              refine (not_at 1 HAO.out).mono ?_
              rintro e wq ⟨rfl, hw⟩
              rw [hw]
              clear hw wq
              go_wp2_with fail
              refine hK.out _ _ (by first | exact trivial | simp) (fun hHeld => ?_)
              clear hK K
              try simp only [Act.put, sA, sB, sC]
              refine wpAnyH_ready (rs := [4]) (by kernel_rfl) (by simp) ?_
              refine (AllReadyH.cons (o := { dst := some 58, op := Op.call { callee := Callee.value (Operand.func 74), args := #[Operand.tmp 54, Operand.tmp 55, Operand.tmp 57], argTypes := #[27, 3, 3] }, type := 54, pos := "closure.go:73", after := #[{ on := 0, ground := Ground.data }, { on := 1, ground := Ground.data }, { on := 3, ground := Ground.data }, { on := 3, ground := Ground.chain }], guard := none }) rfl (fun K hK => ?_) AllReadyH.nil)
              rw [if_pos (by rfl)]
              go_simp
              go_at_call 74
              refine (cand_calls wd g g2 r (notR 1) r2 ya yc ny HNY.out HR.out HOK.out.1 (by have := HOK.out; omega) HE.out).mono ?_
              rintro e U ⟨yb, yd, rfl, hr, gw⟩
              replace H0 := Lib.hid (H0.out.grown gw)
              replace H2 := Lib.hid (H2.out.grown gw)
              replace HR := Lib.hid (HR.out.grown gw)
              replace HP := Lib.hid (HP.out.grown gw)
              replace HG := Lib.hid (World.grownBy.trans HG.out gw)
              have HS72 := Lib.hid (World.grownBy.size gw)
              clear gw
              have HR2 := Lib.hid hr
              clear hr
              go_wp2_with fail
              refine hK.out _ _ (by first | exact trivial | simp) (fun hHeld => ?_)
              clear hK K
              try simp only [Act.put, sA, sB, sC]
              refine wpAnyH_take (i := 5) (oi := { dst := some 53, op := Op.move (Operand.tmp 58), type := 54, pos := "closure.go:73", after := #[{ on := 4, ground := Ground.data }], guard := none }) (v := ?_) rfl (by kernel_rfl) (by kernel_rfl) (by kernel_rfl) (fun _ _ _ h => h) (Or.inl ⟨by rfl, ?_⟩) (by assumption) ?_
              rotate_left 1
              · (intro W h; (try dsimp only at h); go_simp <;> with_reducible rfl)
              try simp only [Act.put, sA, sB, sC]
              refine wpAnyH_take (i := 6) (oi := { dst := some 59, op := Op.extract (Operand.tmp 53) 0, type := 27, pos := "closure.go:73", after := #[{ on := 5, ground := Ground.data }], guard := none }) (v := ?_) rfl (by kernel_rfl) (by kernel_rfl) (by kernel_rfl) (fun _ _ _ h => h) (Or.inl ⟨by rfl, ?_⟩) (by assumption) ?_
              rotate_left 1
              · (intro W h; (try dsimp only at h); go_simp <;> with_reducible rfl)
              try simp only [Act.put, sA, sB, sC]
              refine wpAnyH_take (i := 7) (oi := { dst := some 60, op := Op.extract (Operand.tmp 53) 1, type := 3, pos := "closure.go:73", after := #[{ on := 5, ground := Ground.data }, { on := 8, ground := Ground.gcOnly Departure.lateStores }], guard := none }) (v := ?_) rfl (by kernel_rfl) (by kernel_rfl) (by kernel_rfl) (fun _ _ _ h => h) (Or.inl ⟨by rfl, ?_⟩) (by assumption) ?_
              rotate_left 1
              · (intro W h; (try dsimp only at h); go_simp <;> with_reducible rfl)
              try simp only [Act.put, sA, sB, sC]
              refine wpAnyH_ready (rs := [8]) (by kernel_rfl) (by simp) ?_
              refine (AllReadyH.cons (o := { dst := none, op := Op.store 27 (Operand.tmp 3) (Operand.tmp 59), type := 0, pos := "closure.go:73", after := #[{ on := 6, ground := Ground.data }, { on := 4, ground := Ground.chain }, { on := 0, ground := Ground.phase }, { on := 1, ground := Ground.phase }, { on := 2, ground := Ground.phase }, { on := 3, ground := Ground.phase }, { on := 4, ground := Ground.phase }, { on := 5, ground := Ground.phase }, { on := 6, ground := Ground.phase }, { on := 7, ground := Ground.textOnly Departure.lateStores }], guard := none }) rfl (fun K hK => ?_) AllReadyH.nil)
              rw [if_pos (by rfl)]
              have q0 := H0.out.1
              have kf := H0.out.2
              go_simp
              clear q0 kf
              have nw0 := H0.out.put yb g2.length yd
              have nw2 := H0.out.cf (.slice yb g2.length yd) H2.out (by have := HSA.out; have := HBM.out; have := HS71.out; have := HS72.out; omega)
              have nwR := H0.out.gates (.slice yb g2.length yd) HR.out
              have nwP := HP.out.setc (v := (.slice yb g2.length yd)) H0.out
              have nwR2 := H0.out.gates (.slice yb g2.length yd) HR2.out
              have nG := CF.grows HG.out (by have := HSA.out; have := HBM.out; have := HS71.out; have := HS72.out; omega) (.slice yb g2.length yd) (b := b0)
              have nS : (World.setCell U ⟨b0, 0, none⟩ (.slice yb g2.length yd)).heap.size = U.heap.size := by simp
              obtain ⟨V71, hV⟩ : ∃ z, World.setCell U ⟨b0, 0, none⟩ (.slice yb g2.length yd) = z := ⟨_, rfl⟩
              rw [hV] at nw0 nw2 nwR nwP nwR2 nG nS ⊢
              clear hV
              replace H0 := Lib.hid nw0
              replace H2 := Lib.hid nw2
              replace HR := Lib.hid nwR
              replace HP := Lib.hid nwP
              replace HR2 := Lib.hid nwR2
              replace HG := Lib.hid nG
              have HS73 := Lib.hid nS
              clear nG nS nw0 nw2 nwR nwP nwR2
              refine hK.out _ _ (by first | exact trivial | simp) (fun hHeld => ?_)
              clear hK K
              try simp only [Act.put, sA, sB, sC]
              refine wpAnyH_take (i := 9) (oi := { dst := some 12, op := Op.assign (Operand.tmp 60), type := 3, pos := "closure.go:73", after := #[{ on := 7, ground := Ground.data }, { on := 8, ground := Ground.chain }, { on := 0, ground := Ground.phase }, { on := 1, ground := Ground.phase }, { on := 2, ground := Ground.phase }, { on := 3, ground := Ground.phase }, { on := 4, ground := Ground.phase }, { on := 5, ground := Ground.phase }, { on := 6, ground := Ground.phase }, { on := 7, ground := Ground.phase }, { on := 8, ground := Ground.phase }], guard := none }) (v := ?_) rfl (by kernel_rfl) (by kernel_rfl) (by kernel_rfl) (fun _ _ _ h => h) (Or.inl ⟨by rfl, ?_⟩) (by assumption) ?_
              rotate_left 1
              · (intro W h; (try dsimp only at h); go_simp <;> with_reducible rfl)
              try simp only [Act.put, sA, sB, sC]
              refine wpAnyH_done (by kernel_rfl) ?_ _
              have hEND := hdr
              clear hHeld
              go_wp2_with fail
              go_roundg (n - (x + 1))
              case measure => rw [HI2.out]; omega
              case rel => exact ⟨x + 1, yb, yd, rfl, by rw [HGR2.out], rfl, by omega, HG.out, (by have := HSA.out; have := HBM.out; have := HS71.out; have := HS72.out; have := HS73.out; omega), by rw [HGR2.out]; exact H0.out, H2.out, by rw [HGR2.out]; exact HR2.out, HP.out⟩
            · rw [if_pos (by rfl)]
              go_simp
              go_at_call 62
              refine (not_at 1 HAO.out).mono ?_
              rintro e wq ⟨rfl, hw⟩
              rw [hw]
              clear hw wq
              go_wp2_with fail
              refine hK.out _ _ (by first | exact trivial | simp) (fun hHeld => ?_)
              clear hK K
              try simp only [Act.put, sA, sB, sC]
              refine wpAnyH_ready (rs := [0]) (by kernel_rfl) (by simp) ?_
              refine (AllReadyH.cons (o := { dst := some 54, op := Op.load 27 (Operand.tmp 3), type := 27, pos := "closure.go:73", after := #[], guard := none }) rfl (fun K hK => ?_) AllReadyH.nil)
              rw [if_pos (by rfl)]
              have q0 := H0.out.1
              go_simp
              clear q0
              refine hK.out _ _ (by first | exact trivial | simp) (fun hHeld => ?_)
              clear hK K
              try simp only [Act.put, sA, sB, sC]
              refine wpAnyH_ready (rs := [4]) (by kernel_rfl) (by simp) ?_
              refine (AllReadyH.cons (o := { dst := some 58, op := Op.call { callee := Callee.value (Operand.func 74), args := #[Operand.tmp 54, Operand.tmp 55, Operand.tmp 57], argTypes := #[27, 3, 3] }, type := 54, pos := "closure.go:73", after := #[{ on := 0, ground := Ground.data }, { on := 1, ground := Ground.data }, { on := 3, ground := Ground.data }, { on := 3, ground := Ground.chain }], guard := none }) rfl (fun K hK => ?_) AllReadyH.nil)
              rw [if_pos (by rfl)]
              go_simp
              go_at_call 74
              refine (cand_calls wd g g2 r (notR 1) r2 ya yc ny HNY.out HR.out HOK.out.1 (by have := HOK.out; omega) HE.out).mono ?_
              rintro e U ⟨yb, yd, rfl, hr, gw⟩
              replace H0 := Lib.hid (H0.out.grown gw)
              replace H2 := Lib.hid (H2.out.grown gw)
              replace HR := Lib.hid (HR.out.grown gw)
              replace HP := Lib.hid (HP.out.grown gw)
              replace HG := Lib.hid (World.grownBy.trans HG.out gw)
              have HS72 := Lib.hid (World.grownBy.size gw)
              clear gw
              have HR2 := Lib.hid hr
              clear hr
              go_wp2_with fail
              refine hK.out _ _ (by first | exact trivial | simp) (fun hHeld => ?_)
              clear hK K
              try simp only [Act.put, sA, sB, sC]
              refine wpAnyH_take (i := 5) (oi := { dst := some 53, op := Op.move (Operand.tmp 58), type := 54, pos := "closure.go:73", after := #[{ on := 4, ground := Ground.data }], guard := none }) (v := ?_) rfl (by kernel_rfl) (by kernel_rfl) (by kernel_rfl) (fun _ _ _ h => h) (Or.inl ⟨by rfl, ?_⟩) (by assumption) ?_
              rotate_left 1
              · (intro W h; (try dsimp only at h); go_simp <;> with_reducible rfl)
              try simp only [Act.put, sA, sB, sC]
              refine wpAnyH_take (i := 6) (oi := { dst := some 59, op := Op.extract (Operand.tmp 53) 0, type := 27, pos := "closure.go:73", after := #[{ on := 5, ground := Ground.data }], guard := none }) (v := ?_) rfl (by kernel_rfl) (by kernel_rfl) (by kernel_rfl) (fun _ _ _ h => h) (Or.inl ⟨by rfl, ?_⟩) (by assumption) ?_
              rotate_left 1
              · (intro W h; (try dsimp only at h); go_simp <;> with_reducible rfl)
              try simp only [Act.put, sA, sB, sC]
              refine wpAnyH_take (i := 7) (oi := { dst := some 60, op := Op.extract (Operand.tmp 53) 1, type := 3, pos := "closure.go:73", after := #[{ on := 5, ground := Ground.data }, { on := 8, ground := Ground.gcOnly Departure.lateStores }], guard := none }) (v := ?_) rfl (by kernel_rfl) (by kernel_rfl) (by kernel_rfl) (fun _ _ _ h => h) (Or.inl ⟨by rfl, ?_⟩) (by assumption) ?_
              rotate_left 1
              · (intro W h; (try dsimp only at h); go_simp <;> with_reducible rfl)
              try simp only [Act.put, sA, sB, sC]
              refine wpAnyH_ready (rs := [8]) (by kernel_rfl) (by simp) ?_
              refine (AllReadyH.cons (o := { dst := none, op := Op.store 27 (Operand.tmp 3) (Operand.tmp 59), type := 0, pos := "closure.go:73", after := #[{ on := 6, ground := Ground.data }, { on := 4, ground := Ground.chain }, { on := 0, ground := Ground.phase }, { on := 1, ground := Ground.phase }, { on := 2, ground := Ground.phase }, { on := 3, ground := Ground.phase }, { on := 4, ground := Ground.phase }, { on := 5, ground := Ground.phase }, { on := 6, ground := Ground.phase }, { on := 7, ground := Ground.textOnly Departure.lateStores }], guard := none }) rfl (fun K hK => ?_) AllReadyH.nil)
              rw [if_pos (by rfl)]
              have q0 := H0.out.1
              have kf := H0.out.2
              go_simp
              clear q0 kf
              have nw0 := H0.out.put yb g2.length yd
              have nw2 := H0.out.cf (.slice yb g2.length yd) H2.out (by have := HSA.out; have := HBM.out; have := HS71.out; have := HS72.out; omega)
              have nwR := H0.out.gates (.slice yb g2.length yd) HR.out
              have nwP := HP.out.setc (v := (.slice yb g2.length yd)) H0.out
              have nwR2 := H0.out.gates (.slice yb g2.length yd) HR2.out
              have nG := CF.grows HG.out (by have := HSA.out; have := HBM.out; have := HS71.out; have := HS72.out; omega) (.slice yb g2.length yd) (b := b0)
              have nS : (World.setCell U ⟨b0, 0, none⟩ (.slice yb g2.length yd)).heap.size = U.heap.size := by simp
              obtain ⟨V71, hV⟩ : ∃ z, World.setCell U ⟨b0, 0, none⟩ (.slice yb g2.length yd) = z := ⟨_, rfl⟩
              rw [hV] at nw0 nw2 nwR nwP nwR2 nG nS ⊢
              clear hV
              replace H0 := Lib.hid nw0
              replace H2 := Lib.hid nw2
              replace HR := Lib.hid nwR
              replace HP := Lib.hid nwP
              replace HR2 := Lib.hid nwR2
              replace HG := Lib.hid nG
              have HS73 := Lib.hid nS
              clear nG nS nw0 nw2 nwR nwP nwR2
              refine hK.out _ _ (by first | exact trivial | simp) (fun hHeld => ?_)
              clear hK K
              try simp only [Act.put, sA, sB, sC]
              refine wpAnyH_take (i := 9) (oi := { dst := some 12, op := Op.assign (Operand.tmp 60), type := 3, pos := "closure.go:73", after := #[{ on := 7, ground := Ground.data }, { on := 8, ground := Ground.chain }, { on := 0, ground := Ground.phase }, { on := 1, ground := Ground.phase }, { on := 2, ground := Ground.phase }, { on := 3, ground := Ground.phase }, { on := 4, ground := Ground.phase }, { on := 5, ground := Ground.phase }, { on := 6, ground := Ground.phase }, { on := 7, ground := Ground.phase }, { on := 8, ground := Ground.phase }], guard := none }) (v := ?_) rfl (by kernel_rfl) (by kernel_rfl) (by kernel_rfl) (fun _ _ _ h => h) (Or.inl ⟨by rfl, ?_⟩) (by assumption) ?_
              rotate_left 1
              · (intro W h; (try dsimp only at h); go_simp <;> with_reducible rfl)
              try simp only [Act.put, sA, sB, sC]
              refine wpAnyH_done (by kernel_rfl) ?_ _
              have hEND := hdr
              clear hHeld
              go_wp2_with fail
              go_roundg (n - (x + 1))
              case measure => rw [HI2.out]; omega
              case rel => exact ⟨x + 1, yb, yd, rfl, by rw [HGR2.out], rfl, by omega, HG.out, (by have := HSA.out; have := HBM.out; have := HS71.out; have := HS72.out; have := HS73.out; omega), by rw [HGR2.out]; exact H0.out, H2.out, by rw [HGR2.out]; exact HR2.out, HP.out⟩
        · have f1 : decide (x < n) = false := decide_eq_false hxn
          have f2 : decide ((x : Int) < (n : Int)) = false := decide_eq_false (by omega)
          obtain rfl : x = n := by omega
          have HGF := Lib.hid (show acR x gs m = (g, r) from by rw [HAR.out]; exact HGR.out)
          clear hxn hx
          go_upto_region 17 with fail
          clear f1 f2
          have q0 := H0.out.1
          have q2 := H2.out.1
          have f2 := H2.out.2
          have hne1 : ¬ b0 = b2 := (by have := HSA.out; have := HBM.out; omega)
          have hne2 : ¬ b2 = b0 := (by have := HSA.out; have := HBM.out; omega)
          go_wp2_with fail
          clear q0 q2 f2 hne1 hne2
          have nw0 := H2.out.cf (.slice ya ny yc) H0.out (by have := HSA.out; have := HBM.out; omega)
          have nw2 := H2.out.put ya ny yc
          have nwR := H2.out.gates (.slice ya ny yc) HR.out
          have nwP := HP.out.setc (v := (.slice ya ny yc)) H2.out
          have nG := CF.grows HG.out (by have := HSA.out; have := HBM.out; omega) (.slice ya ny yc) (b := b2)
          have nS : (World.setCell wr ⟨b2, 0, none⟩ (.slice ya ny yc)).heap.size = wr.heap.size := by simp
          obtain ⟨V81, hV⟩ : ∃ z, World.setCell wr ⟨b2, 0, none⟩ (.slice ya ny yc) = z := ⟨_, rfl⟩
          rw [hV] at nw0 nw2 nwR nwP nG nS ⊢
          clear hV
          replace H0 := Lib.hid nw0
          replace H2 := Lib.hid nw2
          replace HR := Lib.hid nwR
          replace HP := Lib.hid nwP
          replace HG := Lib.hid nG
          have HS81 := Lib.hid nS
          clear nG nS nw0 nw2 nwR nwP
          refine bodyPost_ret (resU62 _ _ b2 ya ny yc _ rfl rfl H2.out.1) rfl ?_
          rw [HGF.out]
          exact ⟨ya, yc, by rw [HNY.out]; rfl, HR.out, HG.out⟩
end Go.Proofs.YthdhmflodiincaaGreat

namespace Go.Proofs.YthdhmflodiincaaGreat
open Go.RowKit Go.Maps

theorem const2_at {w : World} {a : Option Addr} {c : Nat} (ar x y : Int) (h : IntsW w a c [x, y]) : Calls Tryz.prog 27 #[.agg #[.int .i64 ar, .slice a 2 c]] w fun e w' => ∃ b d, e = .returned (.agg #[.int .i64 ar, .slice b 2 d]) ∧ CellsW w' b d [(x, 0), (y, 0)] ∧ w.grownBy w' none := const_calls [x, y] ar a c w h (by simp)
section
variable {Q : Exit → Act → World → Prop} {V W : World} {bc ba bb bd bu be bi bf bg : Nat} {ac : Option Addr} {cc : Nat} {L : Array Bool} {t : Nat → Value}
end
end Go.Proofs.YthdhmflodiincaaGreat

namespace Go.Proofs.YthdhmflodiincaaGreat
open Go.RowKit Go.Maps

theorem h_eq_at {w : World} {a b : Option Addr} {c d n : Nat} {l : List Int} (ar : Int) (e : l.length = n) (h1 : IntsW w a c l) (h2 : IntsW w b d l) (hl : n ≤ 2000) : Calls Tryz.prog 16 #[.agg #[.int .i64 ar, .slice a n c], .agg #[.int .i64 ar, .slice b n d]] w fun e w' => e = .returned (.bool true) ∧ w.grownBy w' none := by
  subst e
  have h := relEqual_calls (ar, l) (ar, l) a b c d w h1 h2 (by show (l.length : Int) ≤ _; omega)
  rw [decide_eq_true rfl] at h
  exact h
end Go.Proofs.YthdhmflodiincaaGreat
