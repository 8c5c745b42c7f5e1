/- ClosureAcyclic is proved: for every input, the law returns true and leaves its arguments as they were (Acyclic is true exactly where the closure relates no atom to itself); there are no further conditions. -/
import Derived.Test.YthdhmflodiincaaGreatCA20
import Derived.Test.YthdhmflodiincaaGreatCA23
import Derived.Test.YthdhmflodiincaaGreatCA25
import Derived.Deep.DeepCutAuto
import Derived.Test.YthdhmflodiincaaGreatCA13
set_option maxRecDepth 100000
set_option maxHeartbeats 8000000
namespace Go.Proofs.YthdhmflodiincaaGreat
open Go.RowKit Go.Maps

theorem eval8_at {g : List Gt} {vs : List Bool} {a va : Option Addr} {c vc : Nat} {q : Bool} {w : World} (x : Int) (e : evalC g vs x = q) (h8 : vs.length = 8) (hl : g.length ≤ 900) (hb : ∀ g' ∈ g, g'.2.1 ≤ 9223372036854775807 ∧ g'.2.2 ≤ 9223372036854775807) (hr : x ≤ 9223372036854775807) (h : GatesW w a c g) (hv : BoolsW w va vc vs) :
    Calls Tryz.prog 38 #[.agg #[.slice a g.length c], .slice va 8 vc, .int .i64 x] w fun x w' => x = .returned (.bool q) ∧ w.grownBy w' none := by
  have h1 := eval_at x e (by omega) (by omega) hb hr h hv
  rw [h8] at h1
  exact h1
theorem acyclic15_calls (s bt : Nat) (l : List Stp) (X : List Nat) (nl nx : Nat) (sa xa : Option Addr) (sc xc : Nat) (w : World) (hs : s < 256) (hbt : bt < 256) (hnl : l.length = nl) (hnx : X.length = nx)
    (hl : StpsW w sa sc l) (ho : ∀ s ∈ l, StpOk s) (hx : U8W w xa xc X) (hxb : ∀ z ∈ X, z < 256) (hxm : (X.length : Int) ≤ 9223372036854775807) :
    Calls Tryz.prog 6 #[.int .u8 (s : Int), .slice sa nl sc, .slice xa nx xc, .int .u8 (bt : Int)] w fun e w' => e = .returned (.bool true) ∧ w.grownBy w' none := by
  have HG := Lib.hid (grown_refl w none)
  obtain ⟨n, hn⟩ : ∃ z, s % 4 + 1 = z := ⟨_, rfl⟩
  have HNK := Lib.hid (show 1 ≤ n ∧ n ≤ 4 ∧ s < 256 ∧ s % 4 + 1 = n from by omega)
  clear hn
  have HL := Lib.hid hl
  have HX := Lib.hid hx
  have HSO := Lib.hid ho
  have HXB := Lib.hid (And.intro hxb hxm)
  have HLN := Lib.hid (And.intro hnl hnx)
  clear hl hx ho hxb hxm hnl hnx hs
  have HV := Lib.hid (fun (U : World) => values15_calls bt hbt U)
  go_enter Tryz.func6, Tryz.ntmps6
  go_wp2_with fail
  refine (head15_calls _).mono ?_
  rintro e V1 ⟨rfl, g⟩
  replace HL := Lib.hid (HL.out.grown g)
  replace HX := Lib.hid (HX.out.grown g)
  replace HG := Lib.hid (World.grownBy.trans HG.out g)
  clear g
  by_cases hbig : 20 < nl
  · have f1 : decide (20 < nl) = true := decide_eq_true hbig
    have f2 : decide ((20 : Int) < (nl : Int)) = true := decide_eq_true (by omega)
    go_wp2_with fail
    go_ret
    exact ⟨rfl, HG.out⟩
  · have f1 : decide (20 < nl) = false := decide_eq_false hbig
    have f2 : decide ((20 : Int) < (nl : Int)) = false := decide_eq_false (by omega)
    obtain ⟨qb, hqb⟩ : ∃ z, buildC l = z := ⟨_, rfl⟩
    obtain ⟨g, refs⟩ := qb
    have hbu := built l (by rw [HLN.out.1]; omega)
    rw [hqb] at hbu
    have HBU := Lib.hid (show Good g ∧ g.length ≤ 61 ∧ refs.length ≤ 20 ∧ ∀ r ∈ refs, Ok g r from ⟨hbu.good, by have h1 := hbu.len; have h2 := HLN.out.1; simp only at h1; omega, by have h1 := hbu.refs; have h2 := HLN.out.1; simp only at h1; omega, hbu.ok⟩)
    obtain ⟨t, ht⟩ : ∃ z, min (n ^ 2) nx = z := ⟨_, rfl⟩
    have hT : t ≤ n ^ 2 := by rw [← ht]; exact Nat.min_le_left _ _
    have hM := made_mat HBU.out.1.pos HBU.out.2.2.2 X t
    have hR := (madeC_all refs X t).2
    obtain ⟨A, hA⟩ : ∃ z, madeC refs X t = z := ⟨_, rfl⟩
    rw [hA] at hM hR
    have HMA := Lib.hid (show Sq n g A from ⟨hM, fun c hc => ⟨(hR c hc).1, by have h1 := (hR c hc).2.1; have h3 : (t : Int) ≤ ((n ^ 2 : Nat) : Int) := Int.ofNat_le.2 hT; rw [Nat.pow_two, Int.natCast_mul] at h3; exact Int.lt_of_lt_of_le h1 h3⟩⟩)
    have HBC := Lib.hid (fun (U : World) (hU : w.grownBy U none) (h1 : StpsW U sa sc l) (h2 : U8W U xa xc X) => made15_calls s n l X g refs A nl nx g.length sa xa sc xc U HNK.out.2.2.1 HNK.out.2.2.2 HLN.out.1 HLN.out.2 rfl (by omega) h1 HSO.out h2 HXB.out.1 (by have := HXB.out.2; omega) hqb (by rw [ht]; exact hA))
    have hrc := roundC_le HNK.out.2.1
    have HRC := Lib.hid (show g.length + roundC n * 2 ≤ 440 from by have := HBU.out.2.1; omega)
    clear hqb hbu hbig hM hR hT ht hA hrc
    go_wp2_with fail
    clear f1 f2
    refine (HBC.out _ HG.out HL.out HX.out).mono ?_
    rintro e V2 ⟨a0, c0, aA, mA, cA, rfl, hlA, hr, hm, g1⟩
    clear HBC HL HX
    replace HG := Lib.hid (World.grownBy.trans HG.out g1)
    clear g1
    go_upto_region 5 with fail
    have h1 := CB.new hr
    have gw := World.grownBy_alloc V2 (.cells #[.slice a0 g.length c0] 27) none
    obtain ⟨V3, hU⟩ : ∃ z, World.alloc V2 (.cells #[.slice a0 g.length c0] 27) = z := ⟨_, rfl⟩
    have hsU : V3.heap.size = V2.heap.size + 1 := by rw [← hU]; simp
    rw [hU] at gw h1 ⊢
    clear hU
    obtain ⟨bc, hbb⟩ : ∃ b, V2.heap.size = b := ⟨_, rfl⟩
    rw [hbb] at h1 hsU ⊢
    clear hbb
    replace hm := hm.grown gw
    replace HG := Lib.hid (World.grownBy.trans HG.out gw)
    clear gw
    have hb := XB.new (2 : Int) hm hlA
    have gw := World.grownBy_alloc V3 (.cells #[.int .i64 2, .slice aA mA cA] 35) none
    obtain ⟨V4, hU⟩ : ∃ z, World.alloc V3 (.cells #[.int .i64 2, .slice aA mA cA] 35) = z := ⟨_, rfl⟩
    rw [hU] at gw hb ⊢
    clear hU
    rw [hsU] at hb
    clear hsU
    obtain ⟨ba, hbb⟩ : ∃ b, bc + 1 = b := ⟨_, rfl⟩
    rw [hbb] at hb ⊢
    clear hbb
    replace h1 := h1.grown gw
    replace HG := Lib.hid (World.grownBy.trans HG.out gw)
    clear gw
    have Hc := Lib.hid h1
    clear h1
    have Ha := Lib.hid hb
    clear hb
    clear hr hm hlA
    have qc := Hc.out.1
    have qa := Ha.out.1
    have ra := Ha.out.2.1
    go_wp2_with fail
    clear qc qa ra
    refine (HV.out _).mono ?_
    rintro e V5 ⟨av, cv, rfl, hv, g1⟩
    obtain ⟨vs, hvs⟩ : ∃ z, valsL bt = z := ⟨_, rfl⟩
    have HVL := Lib.hid (show vs.length = 8 from by rw [← hvs]; exact valsL_len bt)
    rw [hvs] at hv
    clear hvs HV
    replace Hc := Lib.hid (Hc.out.grown g1)
    replace Ha := Lib.hid (Ha.out.grown g1)
    replace HG := Lib.hid (World.grownBy.trans HG.out g1)
    clear g1
    have HVV := Lib.hid hv
    clear hv
    have o := acR_ok HBU.out.1 HMA.out HNK.out.1 HNK.out.2.1 (by have := HBU.out; omega)
    have ov := acR_val HBU.out.1 HMA.out HNK.out.1 HNK.out.2.1 (by have := HBU.out; omega) vs
    have hc := acyclic_calls V5 n g A a0 aA c0 cA g.length mA rfl Ha.out.2.2.1 Hc.out.2.2 Ha.out.2.2.2 HBU.out.1 HMA.out HNK.out.1 HNK.out.2.1 HRC.out
    obtain ⟨qd, hqd⟩ : ∃ z, acR n g A = z := ⟨_, rfl⟩
    obtain ⟨gd, rd⟩ := qd
    rw [hqd] at o ov hc
    simp only at o ov hc
    have HUD := Lib.hid (show Good gd ∧ gd.length ≤ 900 ∧ Ok gd rd from ⟨o.1, by have h1 := o.2.1; have h2 := HRC.out; have := HNK.out; omega, o.2.2⟩)
    have HOV := Lib.hid ov
    have HCD := Lib.hid hc
    clear o ov hc hqd
    have qc := Hc.out.1
    have qa := Ha.out.1
    have ra := Ha.out.2.1
    go_wp2_with fail
    clear qc qa ra
    refine HCD.out.mono ?_
    rintro e V6 ⟨ad, cd, rfl, hr, g1⟩
    clear HCD
    replace Hc := Lib.hid (Hc.out.grown g1)
    replace Ha := Lib.hid (Ha.out.grown g1)
    replace HVV := Lib.hid (HVV.out.grown g1)
    replace HG := Lib.hid (World.grownBy.trans HG.out g1)
    clear g1
    have qc := Hc.out.1
    have qa := Ha.out.1
    have ra := Ha.out.2.1
    go_upto_region 7 with fail
    clear qc qa ra
    have hb := CB.new hr
    have gw := World.grownBy_alloc V6 (.cells #[.slice ad gd.length cd] 27) none
    obtain ⟨V7, hV7⟩ : ∃ z, World.alloc V6 (.cells #[.slice ad gd.length cd] 27) = z := ⟨_, rfl⟩
    have hsV7 : V7.heap.size = V6.heap.size + 1 := by rw [← hV7]; simp
    rw [hV7] at gw hb ⊢
    clear hV7
    obtain ⟨bd, hbb⟩ : ∃ b, V6.heap.size = b := ⟨_, rfl⟩
    rw [hbb] at hb hsV7 ⊢
    clear hbb
    replace Hc := Lib.hid (Hc.out.grown gw)
    replace Ha := Lib.hid (Ha.out.grown gw)
    replace HVV := Lib.hid (HVV.out.grown gw)
    replace HG := Lib.hid (World.grownBy.trans HG.out gw)
    clear gw
    have Hd := Lib.hid hb
    clear hb
    clear hr hsV7
    have qc := Hc.out.1
    have qa := Ha.out.1
    have ra := Ha.out.2.1
    have qd := Hd.out.1
    go_wp2_with fail
    clear qc qa ra qd
    have hlA16 : A.length ≤ 16 := by have h1 := HMA.out.len; have : n * n ≤ 4 * 4 := Nat.mul_le_mul HNK.out.2.1 HNK.out.2.1; omega
    have HLA := Lib.hid hlA16
    clear hlA16
    refine (value_at 2 Ha.out.2.2.1 HVL.out HBU.out.1 (by have := HBU.out; omega) (fun c hc => (HMA.out.1.2 c hc).1) (by have := HLA.out; have := Ha.out.2.2.1; omega) Hc.out.2.2 Ha.out.2.2.2 HVV.out).mono ?_
    rintro e V8 ⟨aP, nP, cP, rfl, hlP, hr, g1⟩
    replace Hc := Lib.hid (Hc.out.grown g1)
    replace Ha := Lib.hid (Ha.out.grown g1)
    replace Hd := Lib.hid (Hd.out.grown g1)
    replace HVV := Lib.hid (HVV.out.grown g1)
    replace HG := Lib.hid (World.grownBy.trans HG.out g1)
    clear g1
    have hpp := val_pairs HMA.out vs
    have q1 := HOV.out
    clear HOV
    have hPl : (valL g vs A).length ≤ 16 := by have h1 := HLA.out; unfold valL; rw [List.length_map]; exact Nat.le_trans (List.length_filter_le _ _) h1
    obtain ⟨P, hP⟩ : ∃ z, valL g vs A = z := ⟨_, rfl⟩
    rw [hP] at hlP hr hpp q1 hPl
    clear hP
    have hPx : ∀ x ∈ P, 0 ≤ x ∧ x ≤ 2000 := fun x hx => by
      obtain ⟨u, v, hu, hv, rfl⟩ := hpp x hx
      have h1 : u * n + v ≤ 3 * 4 + 3 := by have h2 : u * n ≤ 3 * 4 := Nat.mul_le_mul (by have := HNK.out; omega) HNK.out.2.1; have := HNK.out; omega
      omega
    have hcl := relClos_calls n 2 P aP cP V8 hr (by omega) (by have := HNK.out; omega) hPx
    rw [hlP] at hcl
    obtain ⟨C, hC⟩ : ∃ z, uniq (closS n P) = z := ⟨_, rfl⟩
    rw [hC] at hcl q1
    obtain ⟨nC, hnC⟩ : ∃ z, C.length = z := ⟨_, rfl⟩
    rw [hnC] at hcl
    have hC16 : nC ≤ 2000 := by
      have h1 := runM_len n n P
      have h2 : n * (n * n) ≤ 4 * 16 := Nat.mul_le_mul HNK.out.2.1 (Nat.mul_le_mul HNK.out.2.1 HNK.out.2.1)
      have h3 : (uniq (closS n P)).length ≤ (closS n P).length := ofTo_len
      rw [hC, hnC] at h3
      unfold closS at h3
      omega
    obtain ⟨I, hI⟩ : ∃ z, idenL n = z := ⟨_, rfl⟩
    obtain ⟨nI, hnI⟩ : ∃ z, I.length = z := ⟨_, rfl⟩
    obtain ⟨nX, hnX⟩ : ∃ z, (interL C I).length = z := ⟨_, rfl⟩
    have hI4 : nI ≤ 4 := by rw [← hnI, ← hI, upTo_len]; exact HNK.out.2.1
    rw [hI, hnX] at q1
    have hid := fun (U : World) => iden_calls n U (by have := HNK.out; omega)
    rw [hI, hnI] at hid
    have hin := fun (U : World) (b c : Option Addr) (d q : Nat) (h1 : IntsW U b d C) (h2 : IntsW U c q I) => inter_calls 2 2 C I b c d q U h1 h2 (by omega) (by omega)
    rw [hnC, hnI, hnX] at hin
    obtain ⟨Q, hQ⟩ : ∃ z, decide (nX = 0) = z := ⟨_, rfl⟩
    rw [hQ] at q1
    have hqi : ((nX : Int) == 0) = Q := by rw [← hQ, Bool.eq_iff_iff, decide_eq_true_iff, beq_iff_eq]; omega
    have HEV := Lib.hid q1
    have HQI := Lib.hid hqi
    have HID := Lib.hid hid
    have HIN := Lib.hid hin
    have HCL := Lib.hid (And.intro hnC hC16)
    have HCC := Lib.hid hcl
    clear hlP hr hpp hPl hPx hcl hC hnC hC16 q1 hQ hqi hid hin hI hnI hnX hI4
    have qc := Hc.out.1
    have qa := Ha.out.1
    have ra := Ha.out.2.1
    have qd := Hd.out.1
    go_wp2_with fail
    clear qc qa ra qd
    refine HCC.out.mono ?_
    rintro e V9 ⟨aC, cC, rfl, hsp, g1⟩
    have hr := hsp.here
    clear hsp HCC
    replace Hc := Lib.hid (Hc.out.grown g1)
    replace Ha := Lib.hid (Ha.out.grown g1)
    replace Hd := Lib.hid (Hd.out.grown g1)
    replace HVV := Lib.hid (HVV.out.grown g1)
    replace HG := Lib.hid (World.grownBy.trans HG.out g1)
    clear g1
    have qc := Hc.out.1
    have qa := Ha.out.1
    have ra := Ha.out.2.1
    have qd := Hd.out.1
    go_upto_region 8 with fail
    clear qc qa ra qd
    have hb := YB.new (2 : Int) hr HCL.out.1
    have gw := World.grownBy_alloc V9 (.cells #[.int .i64 2, .slice aC nC cC] 40) none
    obtain ⟨V10, hV10⟩ : ∃ z, World.alloc V9 (.cells #[.int .i64 2, .slice aC nC cC] 40) = z := ⟨_, rfl⟩
    have hsV10 : V10.heap.size = V9.heap.size + 1 := by rw [← hV10]; simp
    rw [hV10] at gw hb ⊢
    clear hV10
    obtain ⟨by1, hbb⟩ : ∃ b, V9.heap.size = b := ⟨_, rfl⟩
    rw [hbb] at hb hsV10 ⊢
    clear hbb
    replace Hc := Lib.hid (Hc.out.grown gw)
    replace Ha := Lib.hid (Ha.out.grown gw)
    replace Hd := Lib.hid (Hd.out.grown gw)
    replace HVV := Lib.hid (HVV.out.grown gw)
    replace HG := Lib.hid (World.grownBy.trans HG.out gw)
    clear gw
    have Hy := Lib.hid hb
    clear hb
    clear hr hsV10
    have hqi := HQI.out
    have HS := Lib.hid (fun (Wh : World) (hWh : V10.grownBy Wh none) => (⟨hWh, hWh.cell Hd.out.1 (by simp), hWh.cell Hy.out.1 (by simp), hWh.cell Hy.out.2.1 (by simp)⟩ : (fun Wh : World => V10.grownBy Wh none ∧ Wh.cell? ⟨bd, 0, none⟩ = some (.slice ad gd.length cd) ∧ Wh.cell? ⟨by1, 0, none⟩ = some (.int .i64 2) ∧ Wh.cell? ⟨by1, 1, none⟩ = some (.slice aC nC cC)) Wh))
    have hdr : V10.grownBy V10.drew none := ⟨rfl, rfl, rfl, Nat.le_refl _, fun _ _ _ => rfl⟩
    refine wp_region_held_drew (S := (fun Wh : World => V10.grownBy Wh none ∧ Wh.cell? ⟨bd, 0, none⟩ = some (.slice ad gd.length cd) ∧ Wh.cell? ⟨by1, 0, none⟩ = some (.int .i64 2) ∧ Wh.cell? ⟨by1, 1, none⟩ = some (.slice aC nC cC))) (by kernel_rfl) (HS.out _ hdr) (fun hHeld => ?_)
    refine wpAnyH_take (i := 0) (oi := { dst := some 45, op := Op.move (Operand.tmp 9), type := 4, pos := "law.go:120", after := #[], guard := none }) (v := ?_) rfl (by kernel_rfl) (by kernel_rfl) (by kernel_rfl) (fun _ _ _ h => h) (Or.inl ⟨by rfl, ?_⟩) (by assumption) ?_
    rotate_left 1
    · (intro W h; (try dsimp only at h); go_simp <;> with_reducible rfl)
    try simp only [Act.put, sA, sB, sC]
    refine wpAnyH_take (i := 1) (oi := { dst := some 46, op := Op.move (Operand.tmp 45), type := 4, pos := "law.go:120", after := #[{ on := 0, ground := Ground.data }], guard := none }) (v := ?_) rfl (by kernel_rfl) (by kernel_rfl) (by kernel_rfl) (fun _ _ _ h => h) (Or.inl ⟨by rfl, ?_⟩) (by assumption) ?_
    rotate_left 1
    · (intro W h; (try dsimp only at h); go_simp <;> with_reducible rfl)
    try simp only [Act.put, sA, sB, sC]
    refine wpAnyH_take (i := 2) (oi := { dst := some 47, op := Op.load 27 (Operand.tmp 14), type := 27, pos := "law.go:120", after := #[{ on := 1, ground := Ground.guard }], guard := some (1, true) }) (v := ?_) rfl (by kernel_rfl) (by kernel_rfl) (by kernel_rfl) (fun _ _ _ h => h) (Or.inl ⟨by rfl, ?_⟩) (by assumption) ?_
    rotate_left 1
    · (intro W h; (try dsimp only at h); go_simp <;> with_reducible rfl)
    try simp only [Act.put, sA, sB, sC]
    refine wpAnyH_take (i := 3) (oi := { dst := some 48, op := Op.move (Operand.tmp 13), type := 37, pos := "law.go:120", after := #[{ on := 1, ground := Ground.guard }], guard := some (1, true) }) (v := ?_) rfl (by kernel_rfl) (by kernel_rfl) (by kernel_rfl) (fun _ _ _ h => h) (Or.inl ⟨by rfl, ?_⟩) (by assumption) ?_
    rotate_left 1
    · (intro W h; (try dsimp only at h); go_simp <;> with_reducible rfl)
    try simp only [Act.put, sA, sB, sC]
    refine wpAnyH_take (i := 4) (oi := { dst := some 49, op := Op.move (Operand.tmp 15), type := 3, pos := "law.go:120", after := #[{ on := 1, ground := Ground.guard }], guard := some (1, true) }) (v := ?_) rfl (by kernel_rfl) (by kernel_rfl) (by kernel_rfl) (fun _ _ _ h => h) (Or.inl ⟨by rfl, ?_⟩) (by assumption) ?_
    rotate_left 1
    · (intro W h; (try dsimp only at h); go_simp <;> with_reducible rfl)
    try simp only [Act.put, sA, sB, sC]
    refine wpAnyH_take (i := 6) (oi := { dst := some 51, op := Op.load 40 (Operand.tmp 16), type := 40, pos := "law.go:120", after := #[{ on := 1, ground := Ground.guard }], guard := some (1, true) }) (v := ?_) rfl (by kernel_rfl) (by kernel_rfl) (by kernel_rfl) (fun _ _ _ h => h) (Or.inl ⟨by rfl, ?_⟩) (by assumption) ?_
    rotate_left 1
    · (intro W h; (try dsimp only at h); go_simp <;> with_reducible rfl)
    try simp only [Act.put, sA, sB, sC]
    refine wpAnyH_take (i := 7) (oi := { dst := some 52, op := Op.move (Operand.tmp 11), type := 3, pos := "law.go:120", after := #[{ on := 1, ground := Ground.guard }], guard := some (1, true) }) (v := ?_) rfl (by kernel_rfl) (by kernel_rfl) (by kernel_rfl) (fun _ _ _ h => h) (Or.inl ⟨by rfl, ?_⟩) (by assumption) ?_
    rotate_left 1
    · (intro W h; (try dsimp only at h); go_simp <;> with_reducible rfl)
    try simp only [Act.put, sA, sB, sC]
    refine wpAnyH_ready (rs := [5]) (by kernel_rfl) (by simp) ?_
    refine (AllReadyH.cons (o := { dst := some 50, op := Op.call { callee := Callee.value (Operand.func 38), args := #[Operand.tmp 47, Operand.tmp 48, Operand.tmp 49], argTypes := #[27, 37, 3] }, type := 4, pos := "law.go:120", after := #[{ on := 2, ground := Ground.data }, { on := 3, ground := Ground.data }, { on := 4, ground := Ground.data }, { on := 1, ground := Ground.chain }, { on := 1, ground := Ground.guard }], guard := some (1, true) }) rfl (fun K hK => ?_) AllReadyH.nil)
    rw [if_pos (by rfl)]
    go_simp
    go_at_call 38
    refine (eval8_at rd HEV.out HVL.out HUD.out.2.1 (good_bounds HUD.out.1 (by have := HUD.out; omega)) (by have h1 := HUD.out.2.2; have := HUD.out; unfold Ok at h1; omega) (Hd.out.grown hdr).2.2 (HVV.out.grown hdr)).mono ?_
    rintro e wc1 ⟨rfl, gc1⟩
    have hgr1 := World.grownBy.trans hdr gc1
    go_wp2_with fail
    refine hK.out _ _ (HS.out _ hgr1) (fun hHeld => ?_)
    clear hK K
    try simp only [Act.put, sA, sB, sC]
    refine wpAnyH_ready (rs := [8]) (by kernel_rfl) (by simp) ?_
    refine (AllReadyH.cons (o := { dst := some 53, op := Op.call { callee := Callee.value (Operand.func 40), args := #[Operand.tmp 52], argTypes := #[3] }, type := 40, pos := "law.go:120", after := #[{ on := 7, ground := Ground.data }, { on := 5, ground := Ground.chain }, { on := 1, ground := Ground.guard }], guard := some (1, true) }) rfl (fun K hK => ?_) AllReadyH.nil)
    rw [if_pos (by rfl)]
    go_simp
    go_at_call 40
    refine (HID.out _).mono ?_
    rintro e wc2 ⟨aI, cI, rfl, hsI, gc2⟩
    have hgr2 := World.grownBy.trans hgr1 gc2
    have hI := hsI.here
    clear hsI
    go_wp2_with fail
    refine hK.out _ _ (HS.out _ hgr2) (fun hHeld => ?_)
    clear hK K
    try simp only [Act.put, sA, sB, sC]
    refine wpAnyH_ready (rs := [9]) (by kernel_rfl) (by simp) ?_
    refine (AllReadyH.cons (o := { dst := some 54, op := Op.call { callee := Callee.value (Operand.func 39), args := #[Operand.tmp 51, Operand.tmp 53], argTypes := #[40, 40] }, type := 40, pos := "law.go:120", after := #[{ on := 6, ground := Ground.data }, { on := 8, ground := Ground.data }, { on := 8, ground := Ground.chain }, { on := 1, ground := Ground.guard }], guard := some (1, true) }) rfl (fun K hK => ?_) AllReadyH.nil)
    rw [if_pos (by rfl)]
    go_simp
    go_at_call 39
    refine (HIN.out _ _ _ _ _ (Hy.out.grown hgr2).2.2.2 hI).mono ?_
    rintro e wc3 ⟨aX, cX, rfl, hsX, gc3⟩
    have hgr3 := World.grownBy.trans hgr2 gc3
    have hfd : ∀ W : World, (Instr.field 40 (.agg #[.int .i64 2, .slice aX nX cX]) 1).run Tryz.prog W = .ok (.slice aX nX cX) W := fun W => by kernel_rfl
    go_wp2_with fail
    refine hK.out _ _ (HS.out _ hgr3) (fun hHeld => ?_)
    clear hK K
    try simp only [Act.put, sA, sB, sC]
    refine wpAnyH_take (i := 10) (oi := { dst := some 55, op := Op.field 40 (Operand.tmp 54) 1, type := 28, pos := "law.go:120", after := #[{ on := 9, ground := Ground.data }, { on := 1, ground := Ground.guard }], guard := some (1, true) }) (v := ?_) rfl (by kernel_rfl) (by kernel_rfl) (by kernel_rfl) (fun _ _ _ h => h) (Or.inl ⟨by rfl, ?_⟩) (by assumption) ?_
    rotate_left 1
    · (intro W h; (try dsimp only at h); go_simp <;> with_reducible rfl)
    try simp only [Act.put, sA, sB, sC]
    refine wpAnyH_take (i := 11) (oi := { dst := some 56, op := Op.call { callee := Callee.builtin Builtin.len, args := #[Operand.tmp 55], argTypes := #[28] }, type := 3, pos := "law.go:120", after := #[{ on := 10, ground := Ground.data }, { on := 1, ground := Ground.guard }], guard := some (1, true) }) (v := ?_) rfl (by kernel_rfl) (by kernel_rfl) (by kernel_rfl) (fun _ _ _ h => h) (Or.inl ⟨by rfl, ?_⟩) (by assumption) ?_
    rotate_left 1
    · (intro W h; (try dsimp only at h); go_simp <;> with_reducible rfl)
    try simp only [Act.put, sA, sB, sC]
    refine wpAnyH_take (i := 12) (oi := { dst := some 57, op := Op.binOp BinOp.eql 3 (Operand.tmp 56) (Operand.const (Value.int IntKind.i64 0)) 3, type := 4, pos := "law.go:120", after := #[{ on := 11, ground := Ground.data }, { on := 1, ground := Ground.guard }], guard := some (1, true) }) (v := ?_) rfl (by kernel_rfl) (by kernel_rfl) (by kernel_rfl) (fun _ _ _ h => h) (Or.inl ⟨by rfl, ?_⟩) (by assumption) ?_
    rotate_left 1
    · (intro W h; (try dsimp only at h); go_simp <;> with_reducible rfl)
    try simp only [Act.put, sA, sB, sC]
    refine wpAnyH_take (i := 13) (oi := { dst := some 58, op := Op.binOp BinOp.eql 4 (Operand.tmp 50) (Operand.tmp 57) 4, type := 4, pos := "law.go:120", after := #[{ on := 5, ground := Ground.data }, { on := 12, ground := Ground.data }, { on := 1, ground := Ground.guard }], guard := some (1, true) }) (v := ?_) rfl (by kernel_rfl) (by kernel_rfl) (by kernel_rfl) (fun _ _ _ h => h) (Or.inl ⟨by rfl, ?_⟩) (by assumption) ?_
    rotate_left 1
    · (intro W h; (try dsimp only at h); go_simp <;> with_reducible rfl)
    try simp only [Act.put, sA, sB, sC]
    refine wpAnyH_take (i := 14) (oi := { dst := some 59, op := Op.pick (Operand.tmp 46) (Operand.tmp 58) (Operand.const (Value.bool false)), type := 4, pos := "law.go:120", after := #[{ on := 1, ground := Ground.data }, { on := 13, ground := Ground.data }], guard := none }) (v := ?_) rfl (by kernel_rfl) (by kernel_rfl) (by kernel_rfl) (fun _ _ _ h => h) (Or.inl ⟨by rfl, ?_⟩) (by assumption) ?_
    rotate_left 1
    · (intro W h; (try dsimp only at h); go_simp <;> with_reducible rfl)
    try simp only [Act.put, sA, sB, sC]
    refine wpAnyH_take (i := 15) (oi := { dst := some 8, op := Op.assign (Operand.tmp 59), type := 4, pos := "law.go:120", after := #[{ on := 14, ground := Ground.data }, { on := 9, ground := Ground.chain }, { on := 0, ground := Ground.phase }, { on := 1, ground := Ground.phase }, { on := 2, ground := Ground.phase }, { on := 3, ground := Ground.phase }, { on := 4, ground := Ground.phase }, { on := 5, ground := Ground.phase }, { on := 6, ground := Ground.phase }, { on := 7, ground := Ground.phase }, { on := 8, ground := Ground.phase }, { on := 9, ground := Ground.phase }, { on := 10, ground := Ground.phase }, { on := 11, ground := Ground.phase }, { on := 12, ground := Ground.phase }, { on := 13, ground := Ground.phase }, { on := 14, ground := Ground.phase }], guard := none }) (v := ?_) rfl (by kernel_rfl) (by kernel_rfl) (by kernel_rfl) (fun _ _ _ h => h) (Or.inl ⟨by rfl, ?_⟩) (by assumption) ?_
    rotate_left 1
    · (intro W h; (try dsimp only at h); go_simp <;> with_reducible rfl)
    try simp only [Act.put, sA, sB, sC]
    refine wpAnyH_done (by kernel_rfl) ?_ _
    have hEND := hgr3
    clear hHeld
    go_wp2_with fail
    go_ret
    exact ⟨rfl, World.grownBy.trans HG.out hEND⟩
end Go.Proofs.YthdhmflodiincaaGreat

namespace Go.Proofs.YthdhmflodiincaaGreat
open Go.ChangeShapes Go.WideShapes Go.ChangeAt Go.WideMaps Go.WideElems Go.RowKit

theorem closureAcyclic_lifted (os : Os) (started : os.Started) (H : Type) (enc : TypeId × Value → H) :
    ReturnsInHanded {} Tryz.checked os 6 .any (Rows.closureAcyclicSpec.pre6 enc Tryz.prog Tryz.f6 [] false) (Rows.closureAcyclicSpec.post enc Tryz.prog Tryz.f6 false true false false) := by
  refine returnsInHanded_of_change (C := Tryz.checked) own started (by kernel_rfl) Tryz.func6
    (ChangeSpec.witness6 (enc := enc) (C := Tryz.checked) false ⟨#[], #[.int .u8 0, .slice none 0 0, .slice none 0 0, .int .u8 0], []⟩ 8 (by kernel_rfl) (by kernel_rfl) (by kernel_rfl) (by kernel_rfl)) ?_
  intro W base args ds gs before hval0 hW _ _
  have hval : ∀ (j : Nat) t v, Tryz.f6.params[j]? = some t → args[j]? = some v → Value.okWide Tryz.prog W .any base t v := hval0
  have hW' := hW
  obtain ⟨p, q, hA0, hV, rfl, _, _⟩ := hW
  have hA : DataW.TrodAll enc Tryz.prog W 0 (fun _ => true) true Tryz.f6.params.toList args.toList ds p := hA0
  rw [Tryz.params6] at hA hval
  have hpl : ∀ x ∈ p, x.block < W.heap.size := fun x hx => hW'.lt x (by simp [hx])
  have hA2 := hA
  obtain ⟨v0, v1, v2, v3, d0, d1, d2, d3, p0, p1, p2, p3, rfl, rfl, rfl, h0, h1, h2, h3⟩ := trodAll_four hA
  obtain ⟨rfl, rfl⟩ := trodVars_none hV
  obtain ⟨z0, rfl, hz0⟩ := open_u8 (hval 0 5 v0 rfl rfl) h0
  obtain ⟨l1, sa1, sc1, rfl, hs1, ho1, hm1⟩ := open_stps (hval 1 22 v1 rfl rfl) h1
  obtain ⟨l2, sa2, sc2, rfl, hs2, ho2, hm2⟩ := open_u8s (hval 2 23 v2 rfl rfl) h2
  obtain ⟨z3, rfl, hz3⟩ := open_u8 (hval 3 5 v3 rfl rfl) h3
  refine (acyclic15_calls z0 z3 l1 l2 _ _ sa1 sa2 sc1 sc2 W hz0 hz3 rfl rfl hs1 ho1 hs2 ho2 hm2).mono fun e W' ⟨he, hw⟩ => ?_
  subst he
  have hbl := below_of hw
  exact ⟨_, rfl, _, _, _, [], _, [], hW', trodAll_mk1 (shut_bool Tryz.underlying4 _), trodAll_below hbl (by decide +kernel) hA2 hpl, rfl, hbl.frame _, fun h => by cases h⟩

theorem closureAcyclic_holds : Rows.ClosureAcyclicSaid :=
  OpenClaim.holds_of_wide 6 Tryz.f6 rfl rfl rfl rfl rfl rfl rfl ⟨rfl, rfl, rfl, rfl, rfl⟩ rfl rfl rfl rfl rfl (by kernel_rfl) Tryz.func6 (by kernel_rfl)
    (of_decide_eq_true (by kernel_rfl)) (by unfold Func.isWrapper; rw [if_neg (of_decide_eq_false (by kernel_rfl))]; exact ⟨rfl, rfl⟩)
    (fun os started H enc _ => closureAcyclic_lifted os started H enc)
end Go.Proofs.YthdhmflodiincaaGreat
