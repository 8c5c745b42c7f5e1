/- The examples. -/
import Derived.Test.YtllljcbdinckgaaH3
namespace Go.Proofs.Ytllljcbdinckgaa
open Go.RowKit

theorem head_plain : ∃ g0 g1 g2 g3 g4 : List Gt, g0 = [(0, 0, 0)] ∧ inputC g0 3 = (g1, 2) ∧ inputC g1 1 = (g2, 4) ∧ andC g2 4 2 = (g3, 6) ∧ iffC g3 2 4 = (g4, 12) ∧ andC g4 2 (notR 2) = (g4, 1) ∧ inputC g4 0 = (g4, -1) ∧ andC g4 99 2 = (g4, -1) ∧ g4 = [(0, 0, 0), (1, 3, 0), (1, 1, 0), (2, 2, 4), (2, 2, 5), (2, 3, 4), (2, 9, 11)] ∧
    evalC g4 [true, false, true] 6 = true ∧ evalC g4 [true, false, true] 12 = true ∧ evalC g4 [true] 6 = false ∧ evalC g4 [] 1 = false ∧ g0.length ≤ 7 ∧ g1.length ≤ 7 ∧ g2.length ≤ 7 ∧ g3.length ≤ 7 ∧ g4.length ≤ 7 ∧ notR (-5) = -1 :=
  ⟨_, [(0, 0, 0), (1, 3, 0)], [(0, 0, 0), (1, 3, 0), (1, 1, 0)], [(0, 0, 0), (1, 3, 0), (1, 1, 0), (2, 2, 4)], [(0, 0, 0), (1, 3, 0), (1, 1, 0), (2, 2, 4), (2, 2, 5), (2, 3, 4), (2, 9, 11)], rfl, by decide, by decide, by decide, by decide, by decide, by decide, by decide, rfl, by decide, by decide, by decide, by decide, by decide, by decide, by decide, by decide, by decide, by decide⟩
theorem bools_lit3 (w : World) : BoolsW (w.alloc (.cells #[.bool true, .bool false, .bool true] 4)) (some ⟨w.heap.size, 0, none⟩) 3 [true, false, true] :=
  ⟨by decide, .inr ⟨_, 0, rfl, fun j z hj => by
    match j, hj with
    | 0, hj => simp at hj; subst hj; go_simp
    | 1, hj => simp at hj; subst hj; go_simp
    | 2, hj => simp at hj; subst hj; go_simp
    | j + 3, hj => simp at hj⟩⟩
theorem bools_one {w : World} {a : Option Addr} (h : BoolsW w a 3 [true, false, true]) : BoolsW w a 3 [true] := by
  obtain ⟨_, h | ⟨b, o, ha, hz⟩⟩ := h
  · cases h
  · exact ⟨by decide, .inr ⟨b, o, ha, fun j z hj => by
      cases j with
      | zero => exact hz 0 z (by simpa using hj)
      | succ j => simp at hj⟩⟩
theorem gates_lit7 (w : World) : GatesW (w.alloc (.cells #[.int .i64 0, .int .i64 0, .int .i64 0, .int .i64 1, .int .i64 3, .int .i64 0, .int .i64 1, .int .i64 1, .int .i64 0, .int .i64 2, .int .i64 2, .int .i64 4, .int .i64 2, .int .i64 2, .int .i64 5, .int .i64 2, .int .i64 3, .int .i64 4, .int .i64 2, .int .i64 9, .int .i64 11] 47)) (some ⟨w.heap.size, 0, none⟩) 7 [(0, 0, 0), (1, 3, 0), (1, 1, 0), (2, 2, 4), (2, 2, 5), (2, 3, 4), (2, 9, 11)] :=
  ⟨by decide, .inr ⟨_, 0, rfl, ty_alloc w _, fun j z hj => by
    match j, hj with
    | 0, hj => simp at hj; subst hj; exact ⟨by go_simp, by go_simp, by go_simp⟩
    | 1, hj => simp at hj; subst hj; exact ⟨by go_simp, by go_simp, by go_simp⟩
    | 2, hj => simp at hj; subst hj; exact ⟨by go_simp, by go_simp, by go_simp⟩
    | 3, hj => simp at hj; subst hj; exact ⟨by go_simp, by go_simp, by go_simp⟩
    | 4, hj => simp at hj; subst hj; exact ⟨by go_simp, by go_simp, by go_simp⟩
    | 5, hj => simp at hj; subst hj; exact ⟨by go_simp, by go_simp, by go_simp⟩
    | 6, hj => simp at hj; subst hj; exact ⟨by go_simp, by go_simp, by go_simp⟩
    | j + 7, hj => simp at hj⟩⟩
theorem valid_nil_calls (w : World) : Calls Try.prog 21 #[.agg #[.slice none 0 0]] w fun x w' => x = .returned (.bool false) ∧ w.grownBy w' none :=
  (valid_calls [] none 0 w (gatesR_nil _ _ _) (by simp) (by simp)).mono fun x w' hx => by
    obtain ⟨b, rfl, hb, hg⟩ := hx
    cases b with
    | false => exact ⟨rfl, hg⟩
    | true => have := (hb.1 rfl).pos; simp at this

set_option maxRecDepth 100000 in
set_option maxHeartbeats 4000000 in
theorem head_calls (w : World) : Calls Try.prog 10 #[] w fun e w' => e = .returned (.bool true) ∧ w.grownBy w' none := by
  obtain ⟨g0, g1, g2, g3, g4, e0, e1, e2, e3, e4, e5, e6, e7, el, v1, v2, v3, v4, l0, l1, l2, l3, l4, en⟩ := head_plain
  have EL := Lib.hid el
  have HE := Lib.hid (And.intro e1 (And.intro e2 (And.intro e3 (And.intro e4 (And.intro e5 (And.intro e6 e7))))))
  have HV := Lib.hid (And.intro v1 (And.intro v2 (And.intro v3 (And.intro v4 en))))
  have G0 := Lib.hid (show Good g0 by rw [e0]; exact good_new)
  have E0 := Lib.hid e0
  have G1 := Lib.hid (show Good g1 from by have := (step_input G0.out 3).good; rw [e1] at this; exact this)
  have G2 := Lib.hid (show Good g2 from by have := (step_input G1.out 1).good; rw [e2] at this; exact this)
  have G3 := Lib.hid (show Good g3 from by have := (step_and G2.out 4 2).good; rw [e3] at this; exact this)
  have G4 := Lib.hid (show Good g4 from by have := (step_iff G3.out 2 4).good; rw [e4] at this; exact this)
  have HL := Lib.hid (And.intro l0 (And.intro l1 (And.intro l2 (And.intro l3 l4))))
  clear e0 e1 e2 e3 e4 e5 e6 e7 el v1 v2 v3 v4 l0 l1 l2 l3 l4 en
  have HG := Lib.hid (grown_refl w none)
  go_enter Try.func10, Try.ntmps10
  go_wp2_with fail
  refine (cnew_calls _).mono ?_
  rintro e V1 ⟨y, rfl, hy, g⟩
  rw [← E0.out] at hy
  obtain ⟨a0, c0, rfl, hr⟩ := hy
  replace HG := Lib.hid (World.grownBy.trans HG.out g)
  clear g
  go_wp2_with fail
  go_at_call 12
  refine (input_at 3 HE.out.1 G0.out (by have := HL.out.1; omega) hr).mono ?_
  rintro e V2 ⟨a2, c2, rfl, hr2, g⟩
  replace HG := Lib.hid (World.grownBy.trans HG.out g)
  clear g
  replace hr := hr2
  clear hr2
  go_upto_region 2 with fail
  have hb := CB.new hr
  have g := World.grownBy_alloc V2 (.cells #[.slice a2 g1.length c2] 25) none
  obtain ⟨V3, hV3⟩ : ∃ z, World.alloc V2 (.cells #[.slice a2 g1.length c2] 25) = z := ⟨_, rfl⟩
  rw [hV3] at g hb ⊢
  clear hV3 hr
  obtain ⟨bc, hbb⟩ : ∃ b, V2.heap.size = b := ⟨_, rfl⟩
  rw [hbb] at hb ⊢
  have Lc := Lib.hid (Nat.le_of_eq hbb)
  have Zc := Lib.hid (Nat.le_trans (World.grownBy.size HG.out) (Nat.le_of_eq hbb))
  clear hbb
  replace HG := Lib.hid (World.grownBy.trans HG.out g)
  clear g
  have Hc := Lib.hid hb
  clear hb
  have qc := Hc.out.1
  have fc := Hc.out.2.1
  go_wp2_with fail
  clear qc fc
  go_at_call 12
  refine (input_at 1 HE.out.2.1 G1.out (by have := HL.out.2.1; omega) Hc.out.2.2).mono ?_
  rintro e V4 ⟨a4, c4, rfl, hr, g⟩
  replace Hc := Lib.hid (Hc.out.grown g)
  replace HG := Lib.hid (World.grownBy.trans HG.out g)
  clear g
  have qc := Hc.out.1
  have fc := Hc.out.2.1
  go_upto_region 3 with fail
  clear qc fc
  have hb := CB.put hr Hc.out.1 Hc.out.2.1
  have hg := grown_own HG.out (grown_set V4 bc 0 (.slice a4 g2.length c4)) (fun k e => by cases e; exact Zc.out)
  obtain ⟨V5, hV5⟩ : ∃ z, World.setCell V4 ⟨bc, 0, none⟩ (.slice a4 g2.length c4) = z := ⟨_, rfl⟩
  rw [hV5] at hb hg ⊢
  clear hV5 hr
  replace HG := Lib.hid hg
  replace Hc := Lib.hid hb
  clear hb hg
  have qc := Hc.out.1
  have fc := Hc.out.2.1
  go_wp2_with fail
  clear qc fc
  go_at_call 14
  refine (and_at 4 2 HE.out.2.2.1 G2.out (by have := HL.out.2.2.1; omega) (by omega) (by omega) Hc.out.2.2).mono ?_
  rintro e V6 ⟨a6, c6, rfl, hr, g⟩
  replace Hc := Lib.hid (Hc.out.grown g)
  replace HG := Lib.hid (World.grownBy.trans HG.out g)
  clear g
  have qc := Hc.out.1
  have fc := Hc.out.2.1
  go_upto_region 4 with fail
  clear qc fc
  have hb := CB.put hr Hc.out.1 Hc.out.2.1
  have hg := grown_own HG.out (grown_set V6 bc 0 (.slice a6 g3.length c6)) (fun k e => by cases e; exact Zc.out)
  obtain ⟨V7, hV7⟩ : ∃ z, World.setCell V6 ⟨bc, 0, none⟩ (.slice a6 g3.length c6) = z := ⟨_, rfl⟩
  rw [hV7] at hb hg ⊢
  clear hV7 hr
  replace HG := Lib.hid hg
  replace Hc := Lib.hid hb
  clear hb hg
  have qc := Hc.out.1
  have fc := Hc.out.2.1
  go_wp2_with fail
  clear qc fc
  go_at_call 18
  refine (iff_at 2 4 HE.out.2.2.2.1 G3.out (by have := HL.out.2.2.2.1; omega) (by omega) (by omega) Hc.out.2.2).mono ?_
  rintro e V8 ⟨a8, c8, rfl, hr, g⟩
  replace Hc := Lib.hid (Hc.out.grown g)
  replace HG := Lib.hid (World.grownBy.trans HG.out g)
  clear g
  have qc := Hc.out.1
  have fc := Hc.out.2.1
  go_upto_region 5 with fail
  clear qc fc
  have hb := CB.put hr Hc.out.1 Hc.out.2.1
  have hg := grown_own HG.out (grown_set V8 bc 0 (.slice a8 g4.length c8)) (fun k e => by cases e; exact Zc.out)
  obtain ⟨V9, hV9⟩ : ∃ z, World.setCell V8 ⟨bc, 0, none⟩ (.slice a8 g4.length c8) = z := ⟨_, rfl⟩
  rw [hV9] at hb hg ⊢
  clear hV9 hr
  replace HG := Lib.hid hg
  replace Hc := Lib.hid hb
  clear hb hg
  go_cut [6, 7] (fun s0 s1 wx => ∃ b a c, s0 = .pointer (some ⟨b, 0, none⟩) ∧ s1 = .int .i64 (1) ∧ V9.heap.size ≤ b ∧ CB wx b a c g4 ∧ V9.grownBy wx none)
  case first =>
    have HS := Lib.hid (fun (Wh : World) (hWh : V9.grownBy Wh none) => (⟨hWh, hWh.cell Hc.out.1 (by simp)⟩ : (fun Wh : World => V9.grownBy Wh none ∧ Wh.cell? ⟨bc, 0, none⟩ = some (.slice a8 g4.length c8)) Wh))
    have hdr : V9.grownBy V9.drew none := ⟨rfl, rfl, rfl, Nat.le_refl _, fun _ _ _ => rfl⟩
    refine wp_region_held_drew (S := (fun Wh : World => V9.grownBy Wh none ∧ Wh.cell? ⟨bc, 0, none⟩ = some (.slice a8 g4.length c8))) (by kernel_rfl) (HS.out _ hdr) (fun hHeld => ?_)
    refine wpAnyH_take (i := 0) (oi := { dst := some 40, op := Op.load 25 (Operand.tmp 1), type := 25, pos := "law.go:19", after := #[], guard := none }) (v := ?_) rfl (by kernel_rfl) (by kernel_rfl) (by kernel_rfl) (fun _ _ _ h => h) (Or.inl ⟨by rfl, ?_⟩) (by assumption) ?_
    rotate_left 1
    · (intro W hSW; (try dsimp only at hSW); first | (go_simp; done) | (go_simp; with_reducible rfl))
    try simp only [Act.put, List.setIfInBounds_toArray, List.set_cons_zero, List.set_cons_succ]
    refine wpAnyH_take (i := 1) (oi := { dst := some 41, op := Op.move (Operand.tmp 2), type := 3, pos := "law.go:19", after := #[], guard := none }) (v := ?_) rfl (by kernel_rfl) (by kernel_rfl) (by kernel_rfl) (fun _ _ _ h => h) (Or.inl ⟨by rfl, ?_⟩) (by assumption) ?_
    rotate_left 1
    · (intro W hSW; (try dsimp only at hSW); first | (go_simp; done) | (go_simp; with_reducible rfl))
    try simp only [Act.put, List.setIfInBounds_toArray, List.set_cons_zero, List.set_cons_succ]
    refine wpAnyH_take (i := 2) (oi := { dst := some 42, op := Op.move (Operand.tmp 2), type := 3, pos := "law.go:19", after := #[], guard := none }) (v := ?_) rfl (by kernel_rfl) (by kernel_rfl) (by kernel_rfl) (fun _ _ _ h => h) (Or.inl ⟨by rfl, ?_⟩) (by assumption) ?_
    rotate_left 1
    · (intro W hSW; (try dsimp only at hSW); first | (go_simp; done) | (go_simp; with_reducible rfl))
    try simp only [Act.put, List.setIfInBounds_toArray, List.set_cons_zero, List.set_cons_succ]
    refine wpAnyH_ready (rs := [3, 8]) (by kernel_rfl) (by simp) ?_
    refine (AllReadyH.cons (o := { dst := some 43, op := Op.call { callee := Callee.value (Operand.func 25), args := #[Operand.tmp 42], argTypes := #[3] }, type := 3, pos := "law.go:19", after := #[{ on := 2, ground := Ground.data }], guard := none }) rfl (fun K hK => ?_) (AllReadyH.cons (o := { dst := some 6, op := Op.alloc 25, type := 0, pos := "law.go:19", after := #[], guard := none }) rfl (fun K hK => ?_) AllReadyH.nil))
    · rw [if_pos (by rfl)]
      go_simp
      go_at_call 25
      refine (not_at 2 (by omega)).mono ?_
      rintro e w9 ⟨rfl, hw9⟩
      rw [hw9]
      clear hw9 w9
      go_wp2_with fail
      refine hK.out _ _ (HS.out _ hdr) (fun hHeld => ?_)
      clear hK K
      try simp only [Act.put, List.setIfInBounds_toArray, List.set_cons_zero, List.set_cons_succ]
      refine wpAnyH_ready (rs := [4, 8]) (by kernel_rfl) (by simp) ?_
      refine (AllReadyH.cons (o := { dst := some 44, op := Op.call { callee := Callee.value (Operand.func 14), args := #[Operand.tmp 40, Operand.tmp 41, Operand.tmp 43], argTypes := #[25, 3, 3] }, type := 31, pos := "law.go:19", after := #[{ on := 0, ground := Ground.data }, { on := 1, ground := Ground.data }, { on := 3, ground := Ground.data }, { on := 3, ground := Ground.chain }], guard := none }) rfl (fun K hK => ?_) (AllReadyH.cons (o := { dst := some 6, op := Op.alloc 25, type := 0, pos := "law.go:19", after := #[], guard := none }) rfl (fun K hK => ?_) AllReadyH.nil))
      · rw [if_pos (by rfl)]
        go_simp
        go_at_call 14
        refine (and_at 2 (notR 2) HE.out.2.2.2.2.1 G4.out (by have := HL.out.2.2.2.2; omega) (by omega) (by decide) ((Hc.out.grown hdr)).2.2).mono ?_
        rintro e wM ⟨aM, cM, rfl, hr, gM⟩
        have hgM := World.grownBy.trans hdr gM
        go_wp2_with fail
        refine hK.out _ _ (HS.out _ hgM) (fun hHeld => ?_)
        clear hK K
        try simp only [Act.put, List.setIfInBounds_toArray, List.set_cons_zero, List.set_cons_succ]
        refine wpAnyH_take (i := 5) (oi := { dst := some 39, op := Op.move (Operand.tmp 44), type := 31, pos := "law.go:19", after := #[{ on := 4, ground := Ground.data }], guard := none }) (v := ?_) rfl (by kernel_rfl) (by kernel_rfl) (by kernel_rfl) (fun _ _ _ h => h) (Or.inl ⟨by rfl, ?_⟩) (by assumption) ?_
        rotate_left 1
        · (intro W hSW; (try dsimp only at hSW); first | (go_simp; done) | (go_simp; with_reducible rfl))
        try simp only [Act.put, List.setIfInBounds_toArray, List.set_cons_zero, List.set_cons_succ]
        refine wpAnyH_take (i := 6) (oi := { dst := some 45, op := Op.extract (Operand.tmp 39) 0, type := 25, pos := "law.go:19", after := #[{ on := 5, ground := Ground.data }], guard := none }) (v := ?_) rfl (by kernel_rfl) (by kernel_rfl) (by kernel_rfl) (fun _ _ _ h => h) (Or.inl ⟨by rfl, ?_⟩) (by assumption) ?_
        rotate_left 1
        · (intro W hSW; (try dsimp only at hSW); first | (go_simp; done) | (go_simp; with_reducible rfl))
        try simp only [Act.put, List.setIfInBounds_toArray, List.set_cons_zero, List.set_cons_succ]
        refine wpAnyH_take (i := 7) (oi := { dst := some 46, op := Op.extract (Operand.tmp 39) 1, type := 3, pos := "law.go:19", after := #[{ on := 5, ground := Ground.data }, { on := 9, ground := Ground.gcOnly Departure.lateStores }], guard := none }) (v := ?_) rfl (by kernel_rfl) (by kernel_rfl) (by kernel_rfl) (fun _ _ _ h => h) (Or.inl ⟨by rfl, ?_⟩) (by assumption) ?_
        rotate_left 1
        · (intro W hSW; (try dsimp only at hSW); first | (go_simp; done) | (go_simp; with_reducible rfl))
        try simp only [Act.put, List.setIfInBounds_toArray, List.set_cons_zero, List.set_cons_succ]
        refine wpAnyH_ready (rs := [8]) (by kernel_rfl) (by simp) ?_
        refine (AllReadyH.cons (o := { dst := some 6, op := Op.alloc 25, type := 0, pos := "law.go:19", after := #[], guard := none }) rfl (fun K hK => ?_) AllReadyH.nil)
        rw [if_pos (by rfl)]
        go_simp
        have hgA : V9.grownBy (World.alloc wM (.cells #[.slice none 0 0] 25)) none := World.grownBy.trans hgM (World.grownBy_alloc wM (.cells #[.slice none 0 0] 25) none)
        have hz : BoxZ (World.alloc wM (.cells #[.slice none 0 0] 25)) (wM.heap.size) := BoxZ.new wM
        have hge0 : V9.heap.size ≤ wM.heap.size := World.grownBy.size hgM
        have hge : ∀ p, wM.heap.size = p → V9.heap.size ≤ p := fun p e => by rw [← e]; exact hge0
        clear hge0
        replace hr := hr.grown (World.grownBy_alloc wM (.cells #[.slice none 0 0] 25) none)
        obtain ⟨WA, hWA⟩ : ∃ z, World.alloc wM (.cells #[.slice none 0 0] 25) = z := ⟨_, rfl⟩
        rw [hWA] at hgA hz ⊢
        rw [hWA] at hr
        clear hWA
        obtain ⟨pA, hpA⟩ : ∃ p, wM.heap.size = p := ⟨_, rfl⟩
        replace hge := hge pA hpA
        rw [hpA] at hz ⊢
        clear hpA
        refine hK.out _ _ (HS.out _ hgA) (fun hHeld => ?_)
        clear hK K
        try simp only [Act.put, List.setIfInBounds_toArray, List.set_cons_zero, List.set_cons_succ]
        refine wpAnyH_ready (rs := [9]) (by kernel_rfl) (by simp) ?_
        refine (AllReadyH.cons (o := { dst := none, op := Op.store 25 (Operand.tmp 6) (Operand.tmp 45), type := 0, pos := "law.go:19", after := #[{ on := 8, ground := Ground.data }, { on := 6, ground := Ground.data }, { on := 4, ground := Ground.chain }, { on := 0, ground := Ground.phase }, { on := 1, ground := Ground.phase }, { on := 2, ground := Ground.phase }, { on := 3, ground := Ground.phase }, { on := 4, ground := Ground.phase }, { on := 5, ground := Ground.phase }, { on := 6, ground := Ground.phase }, { on := 7, ground := Ground.textOnly Departure.lateStores }, { on := 8, ground := Ground.phase }], guard := none }) rfl (fun K hK => ?_) AllReadyH.nil)
        rw [if_pos (by rfl)]
        have z0 := hz.1
        have zf := hz.2
        go_simp
        clear z0 zf
        have hcb := CB.put hr hz.1 hz.2
        have hgS := grown_own hgA (grown_set WA pA 0 (.slice aM g4.length cM)) (fun k hk => by cases hk; exact hge)
        obtain ⟨WS, hWS⟩ : ∃ z, World.setCell WA ⟨pA, 0, none⟩ (.slice aM g4.length cM) = z := ⟨_, rfl⟩
        rw [hWS] at hcb hgS ⊢
        clear hWS
        refine hK.out _ _ (HS.out _ hgS) (fun hHeld => ?_)
        clear hK K
        try simp only [Act.put, List.setIfInBounds_toArray, List.set_cons_zero, List.set_cons_succ]
        refine wpAnyH_take (i := 10) (oi := { dst := some 7, op := Op.assign (Operand.tmp 46), type := 3, pos := "law.go:19", after := #[{ on := 7, ground := Ground.data }, { on := 9, ground := Ground.chain }, { on := 0, ground := Ground.phase }, { on := 1, ground := Ground.phase }, { on := 2, ground := Ground.phase }, { on := 3, ground := Ground.phase }, { on := 4, ground := Ground.phase }, { on := 5, ground := Ground.phase }, { on := 6, ground := Ground.phase }, { on := 7, ground := Ground.phase }, { on := 8, ground := Ground.phase }, { on := 9, ground := Ground.phase }], guard := none }) (v := ?_) rfl (by kernel_rfl) (by kernel_rfl) (by kernel_rfl) (fun _ _ _ h => h) (Or.inl ⟨by rfl, ?_⟩) (by assumption) ?_
        rotate_left 1
        · (intro W hSW; (try dsimp only at hSW); first | (go_simp; done) | (go_simp; with_reducible rfl))
        try simp only [Act.put, List.setIfInBounds_toArray, List.set_cons_zero, List.set_cons_succ]
        refine wpAnyH_done (by kernel_rfl) ?_ _
        have hEND := hgS
        clear hHeld
        go_wp2_with fail
        go_meet
        exact ⟨pA, aM, cM, rfl, rfl, hge, hcb, hEND⟩
      · rw [if_pos (by rfl)]
        go_simp
        have hgA : V9.grownBy ((World.alloc V9 (.cells #[.slice none 0 0] 25)).drew) none := World.grownBy.trans (World.grownBy_alloc V9 (.cells #[.slice none 0 0] 25) none) (⟨rfl, rfl, rfl, Nat.le_refl _, fun _ _ _ => rfl⟩ : (World.alloc V9 (.cells #[.slice none 0 0] 25)).grownBy (World.alloc V9 (.cells #[.slice none 0 0] 25)).drew none)
        have hz : BoxZ ((World.alloc V9 (.cells #[.slice none 0 0] 25)).drew) (V9.heap.size) := (BoxZ.new V9).grown (⟨rfl, rfl, rfl, Nat.le_refl _, fun _ _ _ => rfl⟩ : (World.alloc V9 (.cells #[.slice none 0 0] 25)).grownBy (World.alloc V9 (.cells #[.slice none 0 0] 25)).drew none)
        have hge0 : V9.heap.size ≤ V9.heap.size := Nat.le_refl _
        have hge : ∀ p, V9.heap.size = p → V9.heap.size ≤ p := fun p e => by rw [← e]; exact hge0
        clear hge0
        obtain ⟨WA, hWA⟩ : ∃ z, (World.alloc V9 (.cells #[.slice none 0 0] 25)).drew = z := ⟨_, rfl⟩
        rw [hWA] at hgA hz ⊢
        clear hWA
        obtain ⟨pA, hpA⟩ : ∃ p, V9.heap.size = p := ⟨_, rfl⟩
        replace hge := hge pA hpA
        rw [hpA] at hz ⊢
        clear hpA
        refine hK.out _ _ (HS.out _ hgA) (fun hHeld => ?_)
        clear hK K
        try simp only [Act.put, List.setIfInBounds_toArray, List.set_cons_zero, List.set_cons_succ]
        refine wpAnyH_ready (rs := [4]) (by kernel_rfl) (by simp) ?_
        refine (AllReadyH.cons (o := { dst := some 44, op := Op.call { callee := Callee.value (Operand.func 14), args := #[Operand.tmp 40, Operand.tmp 41, Operand.tmp 43], argTypes := #[25, 3, 3] }, type := 31, pos := "law.go:19", after := #[{ on := 0, ground := Ground.data }, { on := 1, ground := Ground.data }, { on := 3, ground := Ground.data }, { on := 3, ground := Ground.chain }], guard := none }) rfl (fun K hK => ?_) AllReadyH.nil)
        rw [if_pos (by rfl)]
        go_simp
        go_at_call 14
        refine (and_at 2 (notR 2) HE.out.2.2.2.2.1 G4.out (by have := HL.out.2.2.2.2; omega) (by omega) (by decide) ((Hc.out.grown hgA)).2.2).mono ?_
        rintro e wM ⟨aM, cM, rfl, hr, gM⟩
        have hgM := World.grownBy.trans hgA gM
        replace hz := hz.grown gM
        go_wp2_with fail
        refine hK.out _ _ (HS.out _ hgM) (fun hHeld => ?_)
        clear hK K
        try simp only [Act.put, List.setIfInBounds_toArray, List.set_cons_zero, List.set_cons_succ]
        refine wpAnyH_take (i := 5) (oi := { dst := some 39, op := Op.move (Operand.tmp 44), type := 31, pos := "law.go:19", after := #[{ on := 4, ground := Ground.data }], guard := none }) (v := ?_) rfl (by kernel_rfl) (by kernel_rfl) (by kernel_rfl) (fun _ _ _ h => h) (Or.inl ⟨by rfl, ?_⟩) (by assumption) ?_
        rotate_left 1
        · (intro W hSW; (try dsimp only at hSW); first | (go_simp; done) | (go_simp; with_reducible rfl))
        try simp only [Act.put, List.setIfInBounds_toArray, List.set_cons_zero, List.set_cons_succ]
        refine wpAnyH_take (i := 6) (oi := { dst := some 45, op := Op.extract (Operand.tmp 39) 0, type := 25, pos := "law.go:19", after := #[{ on := 5, ground := Ground.data }], guard := none }) (v := ?_) rfl (by kernel_rfl) (by kernel_rfl) (by kernel_rfl) (fun _ _ _ h => h) (Or.inl ⟨by rfl, ?_⟩) (by assumption) ?_
        rotate_left 1
        · (intro W hSW; (try dsimp only at hSW); first | (go_simp; done) | (go_simp; with_reducible rfl))
        try simp only [Act.put, List.setIfInBounds_toArray, List.set_cons_zero, List.set_cons_succ]
        refine wpAnyH_take (i := 7) (oi := { dst := some 46, op := Op.extract (Operand.tmp 39) 1, type := 3, pos := "law.go:19", after := #[{ on := 5, ground := Ground.data }, { on := 9, ground := Ground.gcOnly Departure.lateStores }], guard := none }) (v := ?_) rfl (by kernel_rfl) (by kernel_rfl) (by kernel_rfl) (fun _ _ _ h => h) (Or.inl ⟨by rfl, ?_⟩) (by assumption) ?_
        rotate_left 1
        · (intro W hSW; (try dsimp only at hSW); first | (go_simp; done) | (go_simp; with_reducible rfl))
        try simp only [Act.put, List.setIfInBounds_toArray, List.set_cons_zero, List.set_cons_succ]
        refine wpAnyH_ready (rs := [9]) (by kernel_rfl) (by simp) ?_
        refine (AllReadyH.cons (o := { dst := none, op := Op.store 25 (Operand.tmp 6) (Operand.tmp 45), type := 0, pos := "law.go:19", after := #[{ on := 8, ground := Ground.data }, { on := 6, ground := Ground.data }, { on := 4, ground := Ground.chain }, { on := 0, ground := Ground.phase }, { on := 1, ground := Ground.phase }, { on := 2, ground := Ground.phase }, { on := 3, ground := Ground.phase }, { on := 4, ground := Ground.phase }, { on := 5, ground := Ground.phase }, { on := 6, ground := Ground.phase }, { on := 7, ground := Ground.textOnly Departure.lateStores }, { on := 8, ground := Ground.phase }], guard := none }) rfl (fun K hK => ?_) AllReadyH.nil)
        rw [if_pos (by rfl)]
        have z0 := hz.1
        have zf := hz.2
        go_simp
        clear z0 zf
        have hcb := CB.put hr hz.1 hz.2
        have hgS := grown_own hgM (grown_set wM pA 0 (.slice aM g4.length cM)) (fun k hk => by cases hk; exact hge)
        obtain ⟨WS, hWS⟩ : ∃ z, World.setCell wM ⟨pA, 0, none⟩ (.slice aM g4.length cM) = z := ⟨_, rfl⟩
        rw [hWS] at hcb hgS ⊢
        clear hWS
        refine hK.out _ _ (HS.out _ hgS) (fun hHeld => ?_)
        clear hK K
        try simp only [Act.put, List.setIfInBounds_toArray, List.set_cons_zero, List.set_cons_succ]
        refine wpAnyH_take (i := 10) (oi := { dst := some 7, op := Op.assign (Operand.tmp 46), type := 3, pos := "law.go:19", after := #[{ on := 7, ground := Ground.data }, { on := 9, ground := Ground.chain }, { on := 0, ground := Ground.phase }, { on := 1, ground := Ground.phase }, { on := 2, ground := Ground.phase }, { on := 3, ground := Ground.phase }, { on := 4, ground := Ground.phase }, { on := 5, ground := Ground.phase }, { on := 6, ground := Ground.phase }, { on := 7, ground := Ground.phase }, { on := 8, ground := Ground.phase }, { on := 9, ground := Ground.phase }], guard := none }) (v := ?_) rfl (by kernel_rfl) (by kernel_rfl) (by kernel_rfl) (fun _ _ _ h => h) (Or.inl ⟨by rfl, ?_⟩) (by assumption) ?_
        rotate_left 1
        · (intro W hSW; (try dsimp only at hSW); first | (go_simp; done) | (go_simp; with_reducible rfl))
        try simp only [Act.put, List.setIfInBounds_toArray, List.set_cons_zero, List.set_cons_succ]
        refine wpAnyH_done (by kernel_rfl) ?_ _
        have hEND := hgS
        clear hHeld
        go_wp2_with fail
        go_meet
        exact ⟨pA, aM, cM, rfl, rfl, hge, hcb, hEND⟩
    · rw [if_pos (by rfl)]
      go_simp
      have hgA : V9.grownBy ((World.alloc V9 (.cells #[.slice none 0 0] 25)).drew) none := World.grownBy.trans (World.grownBy_alloc V9 (.cells #[.slice none 0 0] 25) none) (⟨rfl, rfl, rfl, Nat.le_refl _, fun _ _ _ => rfl⟩ : (World.alloc V9 (.cells #[.slice none 0 0] 25)).grownBy (World.alloc V9 (.cells #[.slice none 0 0] 25)).drew none)
      have hz : BoxZ ((World.alloc V9 (.cells #[.slice none 0 0] 25)).drew) (V9.heap.size) := (BoxZ.new V9).grown (⟨rfl, rfl, rfl, Nat.le_refl _, fun _ _ _ => rfl⟩ : (World.alloc V9 (.cells #[.slice none 0 0] 25)).grownBy (World.alloc V9 (.cells #[.slice none 0 0] 25)).drew none)
      have hge0 : V9.heap.size ≤ V9.heap.size := Nat.le_refl _
      have hge : ∀ p, V9.heap.size = p → V9.heap.size ≤ p := fun p e => by rw [← e]; exact hge0
      clear hge0
      obtain ⟨WA, hWA⟩ : ∃ z, (World.alloc V9 (.cells #[.slice none 0 0] 25)).drew = z := ⟨_, rfl⟩
      rw [hWA] at hgA hz ⊢
      clear hWA
      obtain ⟨pA, hpA⟩ : ∃ p, V9.heap.size = p := ⟨_, rfl⟩
      replace hge := hge pA hpA
      rw [hpA] at hz ⊢
      clear hpA
      refine hK.out _ _ (HS.out _ hgA) (fun hHeld => ?_)
      clear hK K
      try simp only [Act.put, List.setIfInBounds_toArray, List.set_cons_zero, List.set_cons_succ]
      refine wpAnyH_ready (rs := [3]) (by kernel_rfl) (by simp) ?_
      refine (AllReadyH.cons (o := { dst := some 43, op := Op.call { callee := Callee.value (Operand.func 25), args := #[Operand.tmp 42], argTypes := #[3] }, type := 3, pos := "law.go:19", after := #[{ on := 2, ground := Ground.data }], guard := none }) rfl (fun K hK => ?_) AllReadyH.nil)
      rw [if_pos (by rfl)]
      go_simp
      go_at_call 25
      refine (not_at 2 (by omega)).mono ?_
      rintro e w9 ⟨rfl, hw9⟩
      rw [hw9]
      clear hw9 w9
      go_wp2_with fail
      refine hK.out _ _ (HS.out _ hgA) (fun hHeld => ?_)
      clear hK K
      try simp only [Act.put, List.setIfInBounds_toArray, List.set_cons_zero, List.set_cons_succ]
      refine wpAnyH_ready (rs := [4]) (by kernel_rfl) (by simp) ?_
      refine (AllReadyH.cons (o := { dst := some 44, op := Op.call { callee := Callee.value (Operand.func 14), args := #[Operand.tmp 40, Operand.tmp 41, Operand.tmp 43], argTypes := #[25, 3, 3] }, type := 31, pos := "law.go:19", after := #[{ on := 0, ground := Ground.data }, { on := 1, ground := Ground.data }, { on := 3, ground := Ground.data }, { on := 3, ground := Ground.chain }], guard := none }) rfl (fun K hK => ?_) AllReadyH.nil)
      rw [if_pos (by rfl)]
      go_simp
      go_at_call 14
      refine (and_at 2 (notR 2) HE.out.2.2.2.2.1 G4.out (by have := HL.out.2.2.2.2; omega) (by omega) (by decide) ((Hc.out.grown hgA)).2.2).mono ?_
      rintro e wM ⟨aM, cM, rfl, hr, gM⟩
      have hgM := World.grownBy.trans hgA gM
      replace hz := hz.grown gM
      go_wp2_with fail
      refine hK.out _ _ (HS.out _ hgM) (fun hHeld => ?_)
      clear hK K
      try simp only [Act.put, List.setIfInBounds_toArray, List.set_cons_zero, List.set_cons_succ]
      refine wpAnyH_take (i := 5) (oi := { dst := some 39, op := Op.move (Operand.tmp 44), type := 31, pos := "law.go:19", after := #[{ on := 4, ground := Ground.data }], guard := none }) (v := ?_) rfl (by kernel_rfl) (by kernel_rfl) (by kernel_rfl) (fun _ _ _ h => h) (Or.inl ⟨by rfl, ?_⟩) (by assumption) ?_
      rotate_left 1
      · (intro W hSW; (try dsimp only at hSW); first | (go_simp; done) | (go_simp; with_reducible rfl))
      try simp only [Act.put, List.setIfInBounds_toArray, List.set_cons_zero, List.set_cons_succ]
      refine wpAnyH_take (i := 6) (oi := { dst := some 45, op := Op.extract (Operand.tmp 39) 0, type := 25, pos := "law.go:19", after := #[{ on := 5, ground := Ground.data }], guard := none }) (v := ?_) rfl (by kernel_rfl) (by kernel_rfl) (by kernel_rfl) (fun _ _ _ h => h) (Or.inl ⟨by rfl, ?_⟩) (by assumption) ?_
      rotate_left 1
      · (intro W hSW; (try dsimp only at hSW); first | (go_simp; done) | (go_simp; with_reducible rfl))
      try simp only [Act.put, List.setIfInBounds_toArray, List.set_cons_zero, List.set_cons_succ]
      refine wpAnyH_take (i := 7) (oi := { dst := some 46, op := Op.extract (Operand.tmp 39) 1, type := 3, pos := "law.go:19", after := #[{ on := 5, ground := Ground.data }, { on := 9, ground := Ground.gcOnly Departure.lateStores }], guard := none }) (v := ?_) rfl (by kernel_rfl) (by kernel_rfl) (by kernel_rfl) (fun _ _ _ h => h) (Or.inl ⟨by rfl, ?_⟩) (by assumption) ?_
      rotate_left 1
      · (intro W hSW; (try dsimp only at hSW); first | (go_simp; done) | (go_simp; with_reducible rfl))
      try simp only [Act.put, List.setIfInBounds_toArray, List.set_cons_zero, List.set_cons_succ]
      refine wpAnyH_ready (rs := [9]) (by kernel_rfl) (by simp) ?_
      refine (AllReadyH.cons (o := { dst := none, op := Op.store 25 (Operand.tmp 6) (Operand.tmp 45), type := 0, pos := "law.go:19", after := #[{ on := 8, ground := Ground.data }, { on := 6, ground := Ground.data }, { on := 4, ground := Ground.chain }, { on := 0, ground := Ground.phase }, { on := 1, ground := Ground.phase }, { on := 2, ground := Ground.phase }, { on := 3, ground := Ground.phase }, { on := 4, ground := Ground.phase }, { on := 5, ground := Ground.phase }, { on := 6, ground := Ground.phase }, { on := 7, ground := Ground.textOnly Departure.lateStores }, { on := 8, ground := Ground.phase }], guard := none }) rfl (fun K hK => ?_) AllReadyH.nil)
      rw [if_pos (by rfl)]
      have z0 := hz.1
      have zf := hz.2
      go_simp
      clear z0 zf
      have hcb := CB.put hr hz.1 hz.2
      have hgS := grown_own hgM (grown_set wM pA 0 (.slice aM g4.length cM)) (fun k hk => by cases hk; exact hge)
      obtain ⟨WS, hWS⟩ : ∃ z, World.setCell wM ⟨pA, 0, none⟩ (.slice aM g4.length cM) = z := ⟨_, rfl⟩
      rw [hWS] at hcb hgS ⊢
      clear hWS
      refine hK.out _ _ (HS.out _ hgS) (fun hHeld => ?_)
      clear hK K
      try simp only [Act.put, List.setIfInBounds_toArray, List.set_cons_zero, List.set_cons_succ]
      refine wpAnyH_take (i := 10) (oi := { dst := some 7, op := Op.assign (Operand.tmp 46), type := 3, pos := "law.go:19", after := #[{ on := 7, ground := Ground.data }, { on := 9, ground := Ground.chain }, { on := 0, ground := Ground.phase }, { on := 1, ground := Ground.phase }, { on := 2, ground := Ground.phase }, { on := 3, ground := Ground.phase }, { on := 4, ground := Ground.phase }, { on := 5, ground := Ground.phase }, { on := 6, ground := Ground.phase }, { on := 7, ground := Ground.phase }, { on := 8, ground := Ground.phase }, { on := 9, ground := Ground.phase }], guard := none }) (v := ?_) rfl (by kernel_rfl) (by kernel_rfl) (by kernel_rfl) (fun _ _ _ h => h) (Or.inl ⟨by rfl, ?_⟩) (by assumption) ?_
      rotate_left 1
      · (intro W hSW; (try dsimp only at hSW); first | (go_simp; done) | (go_simp; with_reducible rfl))
      try simp only [Act.put, List.setIfInBounds_toArray, List.set_cons_zero, List.set_cons_succ]
      refine wpAnyH_done (by kernel_rfl) ?_ _
      have hEND := hgS
      clear hHeld
      go_wp2_with fail
      go_meet
      exact ⟨pA, aM, cM, rfl, rfl, hge, hcb, hEND⟩
  case rest =>
    obtain ⟨bd, a10, c10, rfl, rfl, hle, hb, g⟩ := hcut
    obtain ⟨V10, rfl⟩ : ∃ z, z = wc := ⟨_, rfl⟩
    have SZd := Lib.hid (show V9.heap.size ≤ V10.heap.size from World.grownBy.size g)
    replace Hc := Lib.hid (Hc.out.grown g)
    replace HG := Lib.hid (World.grownBy.trans HG.out g)
    clear g
    have Hd := Lib.hid hb
    have Ld := Lib.hid hle
    clear hb hle
    have qc := Hc.out.1
    have fc := Hc.out.2.1
    have qd := Hd.out.1
    have fd := Hd.out.2.1
    go_upto_region 6 with fail
    clear qc fc qd fd
    have qc := Hc.out.1
    have fc := Hc.out.2.1
    have qd := Hd.out.1
    have fd := Hd.out.2.1
    go_wp2_with fail
    clear qc fc qd fd
    go_at_call 12
    refine (input_at 0 HE.out.2.2.2.2.2.1 G4.out (by have := HL.out.2.2.2.2; omega) Hc.out.2.2).mono ?_
    rintro e V11 ⟨a11, c11, rfl, hr, g⟩
    replace Hc := Lib.hid (Hc.out.grown g)
    replace Hd := Lib.hid (Hd.out.grown g)
    replace HG := Lib.hid (World.grownBy.trans HG.out g)
    clear g
    have qc := Hc.out.1
    have fc := Hc.out.2.1
    have qd := Hd.out.1
    have fd := Hd.out.2.1
    go_upto_region 7 with fail
    clear qc fc qd fd
    have hb := CB.new hr
    have g := World.grownBy_alloc V11 (.cells #[.slice a11 g4.length c11] 25) none
    obtain ⟨V12, hV12⟩ : ∃ z, World.alloc V11 (.cells #[.slice a11 g4.length c11] 25) = z := ⟨_, rfl⟩
    rw [hV12] at g hb ⊢
    clear hV12 hr
    obtain ⟨be, hbb⟩ : ∃ b, V11.heap.size = b := ⟨_, rfl⟩
    rw [hbb] at hb ⊢
    have Le := Lib.hid (Nat.le_of_eq hbb)
    have Ze := Lib.hid (Nat.le_trans (World.grownBy.size HG.out) (Nat.le_of_eq hbb))
    clear hbb
    replace Hc := Lib.hid (Hc.out.grown g)
    replace Hd := Lib.hid (Hd.out.grown g)
    replace HG := Lib.hid (World.grownBy.trans HG.out g)
    clear g
    have He := Lib.hid hb
    clear hb
    have qc := Hc.out.1
    have fc := Hc.out.2.1
    have qd := Hd.out.1
    have fd := Hd.out.2.1
    have qe := He.out.1
    have fe := He.out.2.1
    go_wp2_with fail
    clear qc fc qd fd qe fe
    go_at_call 14
    refine (and_at 99 2 HE.out.2.2.2.2.2.2 G4.out (by have := HL.out.2.2.2.2; omega) (by omega) (by omega) Hc.out.2.2).mono ?_
    rintro e V13 ⟨a13, c13, rfl, hr, g⟩
    replace Hc := Lib.hid (Hc.out.grown g)
    replace Hd := Lib.hid (Hd.out.grown g)
    replace He := Lib.hid (He.out.grown g)
    replace HG := Lib.hid (World.grownBy.trans HG.out g)
    clear g
    have qc := Hc.out.1
    have fc := Hc.out.2.1
    have qd := Hd.out.1
    have fd := Hd.out.2.1
    have qe := He.out.1
    have fe := He.out.2.1
    go_upto_region 8 with fail
    clear qc fc qd fd qe fe
    have hb := CB.new hr
    have g := World.grownBy_alloc V13 (.cells #[.slice a13 g4.length c13] 25) none
    obtain ⟨V14, hV14⟩ : ∃ z, World.alloc V13 (.cells #[.slice a13 g4.length c13] 25) = z := ⟨_, rfl⟩
    rw [hV14] at g hb ⊢
    clear hV14 hr
    obtain ⟨bo, hbb⟩ : ∃ b, V13.heap.size = b := ⟨_, rfl⟩
    rw [hbb] at hb ⊢
    have Lo := Lib.hid (Nat.le_of_eq hbb)
    have Zo := Lib.hid (Nat.le_trans (World.grownBy.size HG.out) (Nat.le_of_eq hbb))
    clear hbb
    replace Hc := Lib.hid (Hc.out.grown g)
    replace Hd := Lib.hid (Hd.out.grown g)
    replace He := Lib.hid (He.out.grown g)
    replace HG := Lib.hid (World.grownBy.trans HG.out g)
    clear g
    have Ho := Lib.hid hb
    clear hb
    have qc := Hc.out.1
    have fc := Hc.out.2.1
    have qd := Hd.out.1
    have fd := Hd.out.2.1
    have qe := He.out.1
    have fe := He.out.2.1
    have qo := Ho.out.1
    have fo := Ho.out.2.1
    go_upto_region 9 with fail
    clear qc fc qd fd qe fe qo fo
    have hr := gates_lit7 V14
    have g := World.grownBy_alloc V14 (.cells #[.int .i64 0, .int .i64 0, .int .i64 0, .int .i64 1, .int .i64 3, .int .i64 0, .int .i64 1, .int .i64 1, .int .i64 0, .int .i64 2, .int .i64 2, .int .i64 4, .int .i64 2, .int .i64 2, .int .i64 5, .int .i64 2, .int .i64 3, .int .i64 4, .int .i64 2, .int .i64 9, .int .i64 11] 47) none
    have hsz : (World.alloc V14 (.cells #[.int .i64 0, .int .i64 0, .int .i64 0, .int .i64 1, .int .i64 3, .int .i64 0, .int .i64 1, .int .i64 1, .int .i64 0, .int .i64 2, .int .i64 2, .int .i64 4, .int .i64 2, .int .i64 2, .int .i64 5, .int .i64 2, .int .i64 3, .int .i64 4, .int .i64 2, .int .i64 9, .int .i64 11] 47)).heap.size = V14.heap.size + 1 := by simp
    obtain ⟨V15, hV15⟩ : ∃ z, World.alloc V14 (.cells #[.int .i64 0, .int .i64 0, .int .i64 0, .int .i64 1, .int .i64 3, .int .i64 0, .int .i64 1, .int .i64 1, .int .i64 0, .int .i64 2, .int .i64 2, .int .i64 4, .int .i64 2, .int .i64 2, .int .i64 5, .int .i64 2, .int .i64 3, .int .i64 4, .int .i64 2, .int .i64 9, .int .i64 11] 47) = z := ⟨_, rfl⟩
    rw [hV15] at g hr hsz ⊢
    clear hV15
    obtain ⟨bl, hbb⟩ : ∃ b, V14.heap.size = b := ⟨_, rfl⟩
    rw [hbb] at hr hsz ⊢
    clear hbb
    replace Hc := Lib.hid (Hc.out.grown g)
    replace Hd := Lib.hid (Hd.out.grown g)
    replace He := Lib.hid (He.out.grown g)
    replace Ho := Lib.hid (Ho.out.grown g)
    replace HG := Lib.hid (World.grownBy.trans HG.out g)
    clear g
    have hb := CB.new hr
    have g := World.grownBy_alloc V15 (.cells #[.slice (some ⟨bl, 0, none⟩) 7 7] 25) none
    have hb7 : CB (World.alloc V15 (.cells #[.slice (some ⟨bl, 0, none⟩) 7 7] 25)) V15.heap.size (some ⟨bl, 0, none⟩) 7 [(0, 0, 0), (1, 3, 0), (1, 1, 0), (2, 2, 4), (2, 2, 5), (2, 3, 4), (2, 9, 11)] := hb
    clear hb
    obtain ⟨V16, hV16⟩ : ∃ z, World.alloc V15 (.cells #[.slice (some ⟨bl, 0, none⟩) 7 7] 25) = z := ⟨_, rfl⟩
    rw [hV16] at g hb7 ⊢
    clear hV16 hr
    rw [hsz] at hb7
    clear hsz
    replace Hc := Lib.hid (Hc.out.grown g)
    replace Hd := Lib.hid (Hd.out.grown g)
    replace He := Lib.hid (He.out.grown g)
    replace Ho := Lib.hid (Ho.out.grown g)
    replace HG := Lib.hid (World.grownBy.trans HG.out g)
    clear g
    have HW := Lib.hid hb7
    clear hb7
    have qc := Hc.out.1
    have fc := Hc.out.2.1
    have qd := Hd.out.1
    have fd := Hd.out.2.1
    have qe := He.out.1
    have fe := He.out.2.1
    have qo := Ho.out.1
    have fo := Ho.out.2.1
    have qw : V16.cell? ⟨bl + 1, 0, none⟩ = some (.slice (some ⟨bl, 0, none⟩) 7 7) := HW.out.1
    go_wp2_with fail
    clear qc fc qd fd qe fe qo fo
    clear qw
    go_at_call 20
    refine (same_at (q := true) (decide_eq_true EL.out) (by have := HL.out.2.2.2.2; omega) (by decide) Hc.out.2.2 HW.out.2.2).mono ?_
    rintro e V17 ⟨rfl, g⟩
    replace Hc := Lib.hid (Hc.out.grown g)
    replace Hd := Lib.hid (Hd.out.grown g)
    replace He := Lib.hid (He.out.grown g)
    replace Ho := Lib.hid (Ho.out.grown g)
    replace HW := Lib.hid (HW.out.grown g)
    replace HG := Lib.hid (World.grownBy.trans HG.out g)
    clear g
    have qc := Hc.out.1
    have fc := Hc.out.2.1
    have qd := Hd.out.1
    have fd := Hd.out.2.1
    have qe := He.out.1
    have fe := He.out.2.1
    have qo := Ho.out.1
    have fo := Ho.out.2.1
    go_wp2_with fail
    clear qc fc qd fd qe fe qo fo
    go_at_call 20
    refine (same_at (q := true) (decide_eq_true rfl) (by have := HL.out.2.2.2.2; omega) (by have := HL.out.2.2.2.2; omega) Hd.out.2.2 Hc.out.2.2).mono ?_
    rintro e V18 ⟨rfl, g⟩
    replace Hc := Lib.hid (Hc.out.grown g)
    replace Hd := Lib.hid (Hd.out.grown g)
    replace He := Lib.hid (He.out.grown g)
    replace Ho := Lib.hid (Ho.out.grown g)
    replace HG := Lib.hid (World.grownBy.trans HG.out g)
    clear g
    have qc := Hc.out.1
    have fc := Hc.out.2.1
    have qd := Hd.out.1
    have fd := Hd.out.2.1
    have qe := He.out.1
    have fe := He.out.2.1
    have qo := Ho.out.1
    have fo := Ho.out.2.1
    go_upto_region 11 with fail
    clear qc fc qd fd qe fe qo fo
    have hr := bools_lit3 V18
    have g := World.grownBy_alloc V18 (.cells #[.bool true, .bool false, .bool true] 4) none
    obtain ⟨V19, hV19⟩ : ∃ z, World.alloc V18 (.cells #[.bool true, .bool false, .bool true] 4) = z := ⟨_, rfl⟩
    rw [hV19] at g hr ⊢
    clear hV19
    obtain ⟨bv, hbb⟩ : ∃ b, V18.heap.size = b := ⟨_, rfl⟩
    rw [hbb] at hr ⊢
    clear hbb
    replace Hc := Lib.hid (Hc.out.grown g)
    replace Hd := Lib.hid (Hd.out.grown g)
    replace He := Lib.hid (He.out.grown g)
    replace Ho := Lib.hid (Ho.out.grown g)
    replace HG := Lib.hid (World.grownBy.trans HG.out g)
    clear g
    have HB := Lib.hid hr
    clear hr
    simp only [List.append_eq, List.cons_append, List.nil_append]
    have HS := Lib.hid (fun (Wh : World) (hWh : V19.grownBy Wh none) => (⟨hWh, hWh.cell Hc.out.1 (by simp)⟩ : (fun Wh : World => V19.grownBy Wh none ∧ Wh.cell? ⟨bc, 0, none⟩ = some (.slice a8 g4.length c8)) Wh))
    have hdr : V19.grownBy V19.drew none := ⟨rfl, rfl, rfl, Nat.le_refl _, fun _ _ _ => rfl⟩
    refine wp_region_held_drew (S := (fun Wh : World => V19.grownBy Wh none ∧ Wh.cell? ⟨bc, 0, none⟩ = some (.slice a8 g4.length c8))) (by kernel_rfl) (HS.out _ hdr) (fun hHeld => ?_)
    refine wpAnyH_take (i := 0) (oi := { dst := some 76, op := Op.move (Operand.tmp 13), type := 4, pos := "law.go:25", after := #[], guard := none }) (v := ?_) rfl (by kernel_rfl) (by kernel_rfl) (by kernel_rfl) (fun _ _ _ h => h) (Or.inl ⟨by rfl, ?_⟩) (by assumption) ?_
    rotate_left 1
    · (intro W hSW; (try dsimp only at hSW); first | (go_simp; done) | (go_simp; with_reducible rfl))
    try simp only [Act.put, List.setIfInBounds_toArray, List.set_cons_zero, List.set_cons_succ]
    refine wpAnyH_take (i := 1) (oi := { dst := some 77, op := Op.move (Operand.tmp 76), type := 4, pos := "law.go:25", after := #[{ on := 0, ground := Ground.data }], guard := none }) (v := ?_) rfl (by kernel_rfl) (by kernel_rfl) (by kernel_rfl) (fun _ _ _ h => h) (Or.inl ⟨by rfl, ?_⟩) (by assumption) ?_
    rotate_left 1
    · (intro W hSW; (try dsimp only at hSW); first | (go_simp; done) | (go_simp; with_reducible rfl))
    try simp only [Act.put, List.setIfInBounds_toArray, List.set_cons_zero, List.set_cons_succ]
    refine wpAnyH_take (i := 2) (oi := { dst := some 78, op := Op.move (Operand.tmp 2), type := 3, pos := "law.go:25", after := #[{ on := 1, ground := Ground.guard }], guard := some (1, true) }) (v := ?_) rfl (by kernel_rfl) (by kernel_rfl) (by kernel_rfl) (fun _ _ _ h => h) (Or.inl ⟨by rfl, ?_⟩) (by assumption) ?_
    rotate_left 1
    · (intro W hSW; (try dsimp only at hSW); first | (go_simp; done) | (go_simp; with_reducible rfl))
    try simp only [Act.put, List.setIfInBounds_toArray, List.set_cons_zero, List.set_cons_succ]
    refine wpAnyH_take (i := 3) (oi := { dst := some 79, op := Op.binOp BinOp.eql 3 (Operand.tmp 78) (Operand.const (Value.int IntKind.i64 2)) 3, type := 4, pos := "law.go:25", after := #[{ on := 2, ground := Ground.data }, { on := 1, ground := Ground.guard }], guard := some (1, true) }) (v := ?_) rfl (by kernel_rfl) (by kernel_rfl) (by kernel_rfl) (fun _ _ _ h => h) (Or.inl ⟨by rfl, ?_⟩) (by assumption) ?_
    rotate_left 1
    · (intro W hSW; (try dsimp only at hSW); first | (go_simp; done) | (go_simp; with_reducible rfl))
    try simp only [Act.put, List.setIfInBounds_toArray, List.set_cons_zero, List.set_cons_succ]
    refine wpAnyH_take (i := 4) (oi := { dst := some 80, op := Op.pick (Operand.tmp 77) (Operand.tmp 79) (Operand.const (Value.bool false)), type := 4, pos := "law.go:25", after := #[{ on := 1, ground := Ground.data }, { on := 3, ground := Ground.data }], guard := none }) (v := ?_) rfl (by kernel_rfl) (by kernel_rfl) (by kernel_rfl) (fun _ _ _ h => h) (Or.inl ⟨by rfl, ?_⟩) (by assumption) ?_
    rotate_left 1
    · (intro W hSW; (try dsimp only at hSW); first | (go_simp; done) | (go_simp; with_reducible rfl))
    try simp only [Act.put, List.setIfInBounds_toArray, List.set_cons_zero, List.set_cons_succ]
    refine wpAnyH_take (i := 5) (oi := { dst := some 81, op := Op.move (Operand.tmp 80), type := 4, pos := "law.go:25", after := #[{ on := 4, ground := Ground.data }, { on := 1, ground := Ground.chain }], guard := none }) (v := ?_) rfl (by kernel_rfl) (by kernel_rfl) (by kernel_rfl) (fun _ _ _ h => h) (Or.inl ⟨by rfl, ?_⟩) (by assumption) ?_
    rotate_left 1
    · (intro W hSW; (try dsimp only at hSW); first | (go_simp; done) | (go_simp; with_reducible rfl))
    try simp only [Act.put, List.setIfInBounds_toArray, List.set_cons_zero, List.set_cons_succ]
    refine wpAnyH_take (i := 6) (oi := { dst := some 82, op := Op.move (Operand.tmp 3), type := 3, pos := "law.go:25", after := #[{ on := 5, ground := Ground.guard }], guard := some (5, true) }) (v := ?_) rfl (by kernel_rfl) (by kernel_rfl) (by kernel_rfl) (fun _ _ _ h => h) (Or.inl ⟨by rfl, ?_⟩) (by assumption) ?_
    rotate_left 1
    · (intro W hSW; (try dsimp only at hSW); first | (go_simp; done) | (go_simp; with_reducible rfl))
    try simp only [Act.put, List.setIfInBounds_toArray, List.set_cons_zero, List.set_cons_succ]
    refine wpAnyH_take (i := 7) (oi := { dst := some 83, op := Op.binOp BinOp.eql 3 (Operand.tmp 82) (Operand.const (Value.int IntKind.i64 4)) 3, type := 4, pos := "law.go:25", after := #[{ on := 6, ground := Ground.data }, { on := 5, ground := Ground.guard }], guard := some (5, true) }) (v := ?_) rfl (by kernel_rfl) (by kernel_rfl) (by kernel_rfl) (fun _ _ _ h => h) (Or.inl ⟨by rfl, ?_⟩) (by assumption) ?_
    rotate_left 1
    · (intro W hSW; (try dsimp only at hSW); first | (go_simp; done) | (go_simp; with_reducible rfl))
    try simp only [Act.put, List.setIfInBounds_toArray, List.set_cons_zero, List.set_cons_succ]
    refine wpAnyH_take (i := 8) (oi := { dst := some 84, op := Op.pick (Operand.tmp 81) (Operand.tmp 83) (Operand.const (Value.bool false)), type := 4, pos := "law.go:25", after := #[{ on := 5, ground := Ground.data }, { on := 7, ground := Ground.data }], guard := none }) (v := ?_) rfl (by kernel_rfl) (by kernel_rfl) (by kernel_rfl) (fun _ _ _ h => h) (Or.inl ⟨by rfl, ?_⟩) (by assumption) ?_
    rotate_left 1
    · (intro W hSW; (try dsimp only at hSW); first | (go_simp; done) | (go_simp; with_reducible rfl))
    try simp only [Act.put, List.setIfInBounds_toArray, List.set_cons_zero, List.set_cons_succ]
    refine wpAnyH_take (i := 9) (oi := { dst := some 85, op := Op.move (Operand.tmp 84), type := 4, pos := "law.go:25", after := #[{ on := 8, ground := Ground.data }, { on := 5, ground := Ground.chain }], guard := none }) (v := ?_) rfl (by kernel_rfl) (by kernel_rfl) (by kernel_rfl) (fun _ _ _ h => h) (Or.inl ⟨by rfl, ?_⟩) (by assumption) ?_
    rotate_left 1
    · (intro W hSW; (try dsimp only at hSW); first | (go_simp; done) | (go_simp; with_reducible rfl))
    try simp only [Act.put, List.setIfInBounds_toArray, List.set_cons_zero, List.set_cons_succ]
    refine wpAnyH_take (i := 10) (oi := { dst := some 86, op := Op.move (Operand.tmp 4), type := 3, pos := "law.go:25", after := #[{ on := 9, ground := Ground.guard }], guard := some (9, true) }) (v := ?_) rfl (by kernel_rfl) (by kernel_rfl) (by kernel_rfl) (fun _ _ _ h => h) (Or.inl ⟨by rfl, ?_⟩) (by assumption) ?_
    rotate_left 1
    · (intro W hSW; (try dsimp only at hSW); first | (go_simp; done) | (go_simp; with_reducible rfl))
    try simp only [Act.put, List.setIfInBounds_toArray, List.set_cons_zero, List.set_cons_succ]
    refine wpAnyH_take (i := 11) (oi := { dst := some 87, op := Op.binOp BinOp.eql 3 (Operand.tmp 86) (Operand.const (Value.int IntKind.i64 6)) 3, type := 4, pos := "law.go:25", after := #[{ on := 10, ground := Ground.data }, { on := 9, ground := Ground.guard }], guard := some (9, true) }) (v := ?_) rfl (by kernel_rfl) (by kernel_rfl) (by kernel_rfl) (fun _ _ _ h => h) (Or.inl ⟨by rfl, ?_⟩) (by assumption) ?_
    rotate_left 1
    · (intro W hSW; (try dsimp only at hSW); first | (go_simp; done) | (go_simp; with_reducible rfl))
    try simp only [Act.put, List.setIfInBounds_toArray, List.set_cons_zero, List.set_cons_succ]
    refine wpAnyH_take (i := 12) (oi := { dst := some 88, op := Op.pick (Operand.tmp 85) (Operand.tmp 87) (Operand.const (Value.bool false)), type := 4, pos := "law.go:25", after := #[{ on := 9, ground := Ground.data }, { on := 11, ground := Ground.data }], guard := none }) (v := ?_) rfl (by kernel_rfl) (by kernel_rfl) (by kernel_rfl) (fun _ _ _ h => h) (Or.inl ⟨by rfl, ?_⟩) (by assumption) ?_
    rotate_left 1
    · (intro W hSW; (try dsimp only at hSW); first | (go_simp; done) | (go_simp; with_reducible rfl))
    try simp only [Act.put, List.setIfInBounds_toArray, List.set_cons_zero, List.set_cons_succ]
    refine wpAnyH_take (i := 13) (oi := { dst := some 89, op := Op.move (Operand.tmp 88), type := 4, pos := "law.go:25", after := #[{ on := 12, ground := Ground.data }, { on := 9, ground := Ground.chain }], guard := none }) (v := ?_) rfl (by kernel_rfl) (by kernel_rfl) (by kernel_rfl) (fun _ _ _ h => h) (Or.inl ⟨by rfl, ?_⟩) (by assumption) ?_
    rotate_left 1
    · (intro W hSW; (try dsimp only at hSW); first | (go_simp; done) | (go_simp; with_reducible rfl))
    try simp only [Act.put, List.setIfInBounds_toArray, List.set_cons_zero, List.set_cons_succ]
    refine wpAnyH_take (i := 14) (oi := { dst := some 90, op := Op.move (Operand.tmp 5), type := 3, pos := "law.go:25", after := #[{ on := 13, ground := Ground.guard }], guard := some (13, true) }) (v := ?_) rfl (by kernel_rfl) (by kernel_rfl) (by kernel_rfl) (fun _ _ _ h => h) (Or.inl ⟨by rfl, ?_⟩) (by assumption) ?_
    rotate_left 1
    · (intro W hSW; (try dsimp only at hSW); first | (go_simp; done) | (go_simp; with_reducible rfl))
    try simp only [Act.put, List.setIfInBounds_toArray, List.set_cons_zero, List.set_cons_succ]
    refine wpAnyH_take (i := 15) (oi := { dst := some 91, op := Op.binOp BinOp.eql 3 (Operand.tmp 90) (Operand.const (Value.int IntKind.i64 12)) 3, type := 4, pos := "law.go:25", after := #[{ on := 14, ground := Ground.data }, { on := 13, ground := Ground.guard }], guard := some (13, true) }) (v := ?_) rfl (by kernel_rfl) (by kernel_rfl) (by kernel_rfl) (fun _ _ _ h => h) (Or.inl ⟨by rfl, ?_⟩) (by assumption) ?_
    rotate_left 1
    · (intro W hSW; (try dsimp only at hSW); first | (go_simp; done) | (go_simp; with_reducible rfl))
    try simp only [Act.put, List.setIfInBounds_toArray, List.set_cons_zero, List.set_cons_succ]
    refine wpAnyH_take (i := 16) (oi := { dst := some 92, op := Op.pick (Operand.tmp 89) (Operand.tmp 91) (Operand.const (Value.bool false)), type := 4, pos := "law.go:25", after := #[{ on := 13, ground := Ground.data }, { on := 15, ground := Ground.data }], guard := none }) (v := ?_) rfl (by kernel_rfl) (by kernel_rfl) (by kernel_rfl) (fun _ _ _ h => h) (Or.inl ⟨by rfl, ?_⟩) (by assumption) ?_
    rotate_left 1
    · (intro W hSW; (try dsimp only at hSW); first | (go_simp; done) | (go_simp; with_reducible rfl))
    try simp only [Act.put, List.setIfInBounds_toArray, List.set_cons_zero, List.set_cons_succ]
    refine wpAnyH_take (i := 17) (oi := { dst := some 93, op := Op.move (Operand.tmp 92), type := 4, pos := "law.go:25", after := #[{ on := 16, ground := Ground.data }, { on := 13, ground := Ground.chain }], guard := none }) (v := ?_) rfl (by kernel_rfl) (by kernel_rfl) (by kernel_rfl) (fun _ _ _ h => h) (Or.inl ⟨by rfl, ?_⟩) (by assumption) ?_
    rotate_left 1
    · (intro W hSW; (try dsimp only at hSW); first | (go_simp; done) | (go_simp; with_reducible rfl))
    try simp only [Act.put, List.setIfInBounds_toArray, List.set_cons_zero, List.set_cons_succ]
    refine wpAnyH_take (i := 18) (oi := { dst := some 94, op := Op.move (Operand.tmp 7), type := 3, pos := "law.go:25", after := #[{ on := 17, ground := Ground.guard }], guard := some (17, true) }) (v := ?_) rfl (by kernel_rfl) (by kernel_rfl) (by kernel_rfl) (fun _ _ _ h => h) (Or.inl ⟨by rfl, ?_⟩) (by assumption) ?_
    rotate_left 1
    · (intro W hSW; (try dsimp only at hSW); first | (go_simp; done) | (go_simp; with_reducible rfl))
    try simp only [Act.put, List.setIfInBounds_toArray, List.set_cons_zero, List.set_cons_succ]
    refine wpAnyH_take (i := 19) (oi := { dst := some 95, op := Op.binOp BinOp.eql 3 (Operand.tmp 94) (Operand.const (Value.int IntKind.i64 1)) 3, type := 4, pos := "law.go:25", after := #[{ on := 18, ground := Ground.data }, { on := 17, ground := Ground.guard }], guard := some (17, true) }) (v := ?_) rfl (by kernel_rfl) (by kernel_rfl) (by kernel_rfl) (fun _ _ _ h => h) (Or.inl ⟨by rfl, ?_⟩) (by assumption) ?_
    rotate_left 1
    · (intro W hSW; (try dsimp only at hSW); first | (go_simp; done) | (go_simp; with_reducible rfl))
    try simp only [Act.put, List.setIfInBounds_toArray, List.set_cons_zero, List.set_cons_succ]
    refine wpAnyH_take (i := 20) (oi := { dst := some 96, op := Op.pick (Operand.tmp 93) (Operand.tmp 95) (Operand.const (Value.bool false)), type := 4, pos := "law.go:25", after := #[{ on := 17, ground := Ground.data }, { on := 19, ground := Ground.data }], guard := none }) (v := ?_) rfl (by kernel_rfl) (by kernel_rfl) (by kernel_rfl) (fun _ _ _ h => h) (Or.inl ⟨by rfl, ?_⟩) (by assumption) ?_
    rotate_left 1
    · (intro W hSW; (try dsimp only at hSW); first | (go_simp; done) | (go_simp; with_reducible rfl))
    try simp only [Act.put, List.setIfInBounds_toArray, List.set_cons_zero, List.set_cons_succ]
    refine wpAnyH_take (i := 21) (oi := { dst := some 97, op := Op.move (Operand.tmp 96), type := 4, pos := "law.go:25", after := #[{ on := 20, ground := Ground.data }, { on := 17, ground := Ground.chain }], guard := none }) (v := ?_) rfl (by kernel_rfl) (by kernel_rfl) (by kernel_rfl) (fun _ _ _ h => h) (Or.inl ⟨by rfl, ?_⟩) (by assumption) ?_
    rotate_left 1
    · (intro W hSW; (try dsimp only at hSW); first | (go_simp; done) | (go_simp; with_reducible rfl))
    try simp only [Act.put, List.setIfInBounds_toArray, List.set_cons_zero, List.set_cons_succ]
    refine wpAnyH_take (i := 22) (oi := { dst := some 98, op := Op.move (Operand.tmp 9), type := 3, pos := "law.go:25", after := #[{ on := 21, ground := Ground.guard }], guard := some (21, true) }) (v := ?_) rfl (by kernel_rfl) (by kernel_rfl) (by kernel_rfl) (fun _ _ _ h => h) (Or.inl ⟨by rfl, ?_⟩) (by assumption) ?_
    rotate_left 1
    · (intro W hSW; (try dsimp only at hSW); first | (go_simp; done) | (go_simp; with_reducible rfl))
    try simp only [Act.put, List.setIfInBounds_toArray, List.set_cons_zero, List.set_cons_succ]
    refine wpAnyH_take (i := 23) (oi := { dst := some 99, op := Op.binOp BinOp.eql 3 (Operand.tmp 98) (Operand.const (Value.int IntKind.i64 (-1))) 3, type := 4, pos := "law.go:25", after := #[{ on := 22, ground := Ground.data }, { on := 21, ground := Ground.guard }], guard := some (21, true) }) (v := ?_) rfl (by kernel_rfl) (by kernel_rfl) (by kernel_rfl) (fun _ _ _ h => h) (Or.inl ⟨by rfl, ?_⟩) (by assumption) ?_
    rotate_left 1
    · (intro W hSW; (try dsimp only at hSW); first | (go_simp; done) | (go_simp; with_reducible rfl))
    try simp only [Act.put, List.setIfInBounds_toArray, List.set_cons_zero, List.set_cons_succ]
    refine wpAnyH_take (i := 24) (oi := { dst := some 100, op := Op.pick (Operand.tmp 97) (Operand.tmp 99) (Operand.const (Value.bool false)), type := 4, pos := "law.go:25", after := #[{ on := 21, ground := Ground.data }, { on := 23, ground := Ground.data }], guard := none }) (v := ?_) rfl (by kernel_rfl) (by kernel_rfl) (by kernel_rfl) (fun _ _ _ h => h) (Or.inl ⟨by rfl, ?_⟩) (by assumption) ?_
    rotate_left 1
    · (intro W hSW; (try dsimp only at hSW); first | (go_simp; done) | (go_simp; with_reducible rfl))
    try simp only [Act.put, List.setIfInBounds_toArray, List.set_cons_zero, List.set_cons_succ]
    refine wpAnyH_take (i := 25) (oi := { dst := some 101, op := Op.move (Operand.tmp 100), type := 4, pos := "law.go:25", after := #[{ on := 24, ground := Ground.data }, { on := 21, ground := Ground.chain }], guard := none }) (v := ?_) rfl (by kernel_rfl) (by kernel_rfl) (by kernel_rfl) (fun _ _ _ h => h) (Or.inl ⟨by rfl, ?_⟩) (by assumption) ?_
    rotate_left 1
    · (intro W hSW; (try dsimp only at hSW); first | (go_simp; done) | (go_simp; with_reducible rfl))
    try simp only [Act.put, List.setIfInBounds_toArray, List.set_cons_zero, List.set_cons_succ]
    refine wpAnyH_take (i := 26) (oi := { dst := some 102, op := Op.move (Operand.tmp 11), type := 3, pos := "law.go:25", after := #[{ on := 25, ground := Ground.guard }], guard := some (25, true) }) (v := ?_) rfl (by kernel_rfl) (by kernel_rfl) (by kernel_rfl) (fun _ _ _ h => h) (Or.inl ⟨by rfl, ?_⟩) (by assumption) ?_
    rotate_left 1
    · (intro W hSW; (try dsimp only at hSW); first | (go_simp; done) | (go_simp; with_reducible rfl))
    try simp only [Act.put, List.setIfInBounds_toArray, List.set_cons_zero, List.set_cons_succ]
    refine wpAnyH_take (i := 27) (oi := { dst := some 103, op := Op.binOp BinOp.eql 3 (Operand.tmp 102) (Operand.const (Value.int IntKind.i64 (-1))) 3, type := 4, pos := "law.go:25", after := #[{ on := 26, ground := Ground.data }, { on := 25, ground := Ground.guard }], guard := some (25, true) }) (v := ?_) rfl (by kernel_rfl) (by kernel_rfl) (by kernel_rfl) (fun _ _ _ h => h) (Or.inl ⟨by rfl, ?_⟩) (by assumption) ?_
    rotate_left 1
    · (intro W hSW; (try dsimp only at hSW); first | (go_simp; done) | (go_simp; with_reducible rfl))
    try simp only [Act.put, List.setIfInBounds_toArray, List.set_cons_zero, List.set_cons_succ]
    refine wpAnyH_take (i := 28) (oi := { dst := some 104, op := Op.pick (Operand.tmp 101) (Operand.tmp 103) (Operand.const (Value.bool false)), type := 4, pos := "law.go:25", after := #[{ on := 25, ground := Ground.data }, { on := 27, ground := Ground.data }], guard := none }) (v := ?_) rfl (by kernel_rfl) (by kernel_rfl) (by kernel_rfl) (fun _ _ _ h => h) (Or.inl ⟨by rfl, ?_⟩) (by assumption) ?_
    rotate_left 1
    · (intro W hSW; (try dsimp only at hSW); first | (go_simp; done) | (go_simp; with_reducible rfl))
    try simp only [Act.put, List.setIfInBounds_toArray, List.set_cons_zero, List.set_cons_succ]
    refine wpAnyH_take (i := 29) (oi := { dst := some 105, op := Op.move (Operand.tmp 104), type := 4, pos := "law.go:25", after := #[{ on := 28, ground := Ground.data }, { on := 25, ground := Ground.chain }], guard := none }) (v := ?_) rfl (by kernel_rfl) (by kernel_rfl) (by kernel_rfl) (fun _ _ _ h => h) (Or.inl ⟨by rfl, ?_⟩) (by assumption) ?_
    rotate_left 1
    · (intro W hSW; (try dsimp only at hSW); first | (go_simp; done) | (go_simp; with_reducible rfl))
    try simp only [Act.put, List.setIfInBounds_toArray, List.set_cons_zero, List.set_cons_succ]
    refine wpAnyH_take (i := 30) (oi := { dst := some 106, op := Op.load 25 (Operand.tmp 1), type := 25, pos := "law.go:25", after := #[{ on := 29, ground := Ground.guard }], guard := some (29, true) }) (v := ?_) rfl (by kernel_rfl) (by kernel_rfl) (by kernel_rfl) (fun _ _ _ h => h) (Or.inl ⟨by rfl, ?_⟩) (by assumption) ?_
    rotate_left 1
    · (intro W hSW; (try dsimp only at hSW); first | (go_simp; done) | (go_simp; with_reducible rfl))
    try simp only [Act.put, List.setIfInBounds_toArray, List.set_cons_zero, List.set_cons_succ]
    refine wpAnyH_ready (rs := [31]) (by kernel_rfl) (by simp) ?_
    refine (AllReadyH.cons (o := { dst := some 107, op := Op.call { callee := Callee.value (Operand.func 21), args := #[Operand.tmp 106], argTypes := #[25] }, type := 4, pos := "law.go:25", after := #[{ on := 30, ground := Ground.data }, { on := 29, ground := Ground.chain }, { on := 29, ground := Ground.guard }], guard := some (29, true) }) rfl (fun K hK => ?_) AllReadyH.nil)
    rw [if_pos (by rfl)]
    go_simp
    go_at_call 21
    refine (valid_good_calls G4.out (by have := HL.out.2.2.2.2; omega) (Hc.out.grown hdr).2.2).mono ?_
    rintro e wc1 ⟨rfl, gc1⟩
    have hgr1 := World.grownBy.trans hdr gc1
    go_wp2_with fail
    refine hK.out _ _ (HS.out _ hgr1) (fun hHeld => ?_)
    clear hK K
    try simp only [Act.put, List.setIfInBounds_toArray, List.set_cons_zero, List.set_cons_succ]
    refine wpAnyH_take (i := 32) (oi := { dst := some 108, op := Op.pick (Operand.tmp 105) (Operand.tmp 107) (Operand.const (Value.bool false)), type := 4, pos := "law.go:25", after := #[{ on := 29, ground := Ground.data }, { on := 31, ground := Ground.data }], guard := none }) (v := ?_) rfl (by kernel_rfl) (by kernel_rfl) (by kernel_rfl) (fun _ _ _ h => h) (Or.inl ⟨by rfl, ?_⟩) (by assumption) ?_
    rotate_left 1
    · (intro W hSW; (try dsimp only at hSW); first | (go_simp; done) | (go_simp; with_reducible rfl))
    try simp only [Act.put, List.setIfInBounds_toArray, List.set_cons_zero, List.set_cons_succ]
    refine wpAnyH_take (i := 33) (oi := { dst := some 109, op := Op.move (Operand.tmp 108), type := 4, pos := "law.go:25", after := #[{ on := 32, ground := Ground.data }, { on := 31, ground := Ground.chain }], guard := none }) (v := ?_) rfl (by kernel_rfl) (by kernel_rfl) (by kernel_rfl) (fun _ _ _ h => h) (Or.inl ⟨by rfl, ?_⟩) (by assumption) ?_
    rotate_left 1
    · (intro W hSW; (try dsimp only at hSW); first | (go_simp; done) | (go_simp; with_reducible rfl))
    try simp only [Act.put, List.setIfInBounds_toArray, List.set_cons_zero, List.set_cons_succ]
    refine wpAnyH_take (i := 34) (oi := { dst := some 110, op := Op.build 25 #[], type := 25, pos := "law.go:25", after := #[{ on := 33, ground := Ground.guard }], guard := some (33, true) }) (v := ?_) rfl (by kernel_rfl) (by kernel_rfl) (by kernel_rfl) (fun _ _ _ h => h) (Or.inl ⟨by rfl, ?_⟩) (by assumption) ?_
    rotate_left 1
    · (intro W hSW; (try dsimp only at hSW); first | (go_simp; done) | (go_simp; with_reducible rfl))
    try simp only [Act.put, List.setIfInBounds_toArray, List.set_cons_zero, List.set_cons_succ]
    refine wpAnyH_ready (rs := [35]) (by kernel_rfl) (by simp) ?_
    refine (AllReadyH.cons (o := { dst := some 111, op := Op.call { callee := Callee.value (Operand.func 21), args := #[Operand.tmp 110], argTypes := #[25] }, type := 4, pos := "law.go:25", after := #[{ on := 34, ground := Ground.data }, { on := 33, ground := Ground.chain }, { on := 33, ground := Ground.guard }], guard := some (33, true) }) rfl (fun K hK => ?_) AllReadyH.nil)
    rw [if_pos (by rfl)]
    go_simp
    go_at_call 21
    refine (valid_nil_calls _).mono ?_
    rintro e wc2 ⟨rfl, gc2⟩
    have hgr2 := World.grownBy.trans hgr1 gc2
    go_wp2_with fail
    refine hK.out _ _ (HS.out _ hgr2) (fun hHeld => ?_)
    clear hK K
    try simp only [Act.put, List.setIfInBounds_toArray, List.set_cons_zero, List.set_cons_succ]
    refine wpAnyH_take (i := 36) (oi := { dst := some 112, op := Op.unOp UnOp.not 4 (Operand.tmp 111), type := 4, pos := "law.go:25", after := #[{ on := 35, ground := Ground.data }, { on := 33, ground := Ground.guard }], guard := some (33, true) }) (v := ?_) rfl (by kernel_rfl) (by kernel_rfl) (by kernel_rfl) (fun _ _ _ h => h) (Or.inl ⟨by rfl, ?_⟩) (by assumption) ?_
    rotate_left 1
    · (intro W hSW; (try dsimp only at hSW); first | (go_simp; done) | (go_simp; with_reducible rfl))
    try simp only [Act.put, List.setIfInBounds_toArray, List.set_cons_zero, List.set_cons_succ]
    refine wpAnyH_take (i := 37) (oi := { dst := some 113, op := Op.pick (Operand.tmp 109) (Operand.tmp 112) (Operand.const (Value.bool false)), type := 4, pos := "law.go:25", after := #[{ on := 33, ground := Ground.data }, { on := 36, ground := Ground.data }], guard := none }) (v := ?_) rfl (by kernel_rfl) (by kernel_rfl) (by kernel_rfl) (fun _ _ _ h => h) (Or.inl ⟨by rfl, ?_⟩) (by assumption) ?_
    rotate_left 1
    · (intro W hSW; (try dsimp only at hSW); first | (go_simp; done) | (go_simp; with_reducible rfl))
    try simp only [Act.put, List.setIfInBounds_toArray, List.set_cons_zero, List.set_cons_succ]
    refine wpAnyH_take (i := 38) (oi := { dst := some 114, op := Op.move (Operand.tmp 113), type := 4, pos := "law.go:25", after := #[{ on := 37, ground := Ground.data }, { on := 35, ground := Ground.chain }], guard := none }) (v := ?_) rfl (by kernel_rfl) (by kernel_rfl) (by kernel_rfl) (fun _ _ _ h => h) (Or.inl ⟨by rfl, ?_⟩) (by assumption) ?_
    rotate_left 1
    · (intro W hSW; (try dsimp only at hSW); first | (go_simp; done) | (go_simp; with_reducible rfl))
    try simp only [Act.put, List.setIfInBounds_toArray, List.set_cons_zero, List.set_cons_succ]
    refine wpAnyH_take (i := 39) (oi := { dst := some 115, op := Op.load 25 (Operand.tmp 1), type := 25, pos := "law.go:25", after := #[{ on := 38, ground := Ground.guard }], guard := some (38, true) }) (v := ?_) rfl (by kernel_rfl) (by kernel_rfl) (by kernel_rfl) (fun _ _ _ h => h) (Or.inl ⟨by rfl, ?_⟩) (by assumption) ?_
    rotate_left 1
    · (intro W hSW; (try dsimp only at hSW); first | (go_simp; done) | (go_simp; with_reducible rfl))
    try simp only [Act.put, List.setIfInBounds_toArray, List.set_cons_zero, List.set_cons_succ]
    refine wpAnyH_take (i := 40) (oi := { dst := some 116, op := Op.move (Operand.tmp 14), type := 26, pos := "law.go:25", after := #[{ on := 38, ground := Ground.guard }], guard := some (38, true) }) (v := ?_) rfl (by kernel_rfl) (by kernel_rfl) (by kernel_rfl) (fun _ _ _ h => h) (Or.inl ⟨by rfl, ?_⟩) (by assumption) ?_
    rotate_left 1
    · (intro W hSW; (try dsimp only at hSW); first | (go_simp; done) | (go_simp; with_reducible rfl))
    try simp only [Act.put, List.setIfInBounds_toArray, List.set_cons_zero, List.set_cons_succ]
    refine wpAnyH_take (i := 41) (oi := { dst := some 117, op := Op.move (Operand.tmp 4), type := 3, pos := "law.go:25", after := #[{ on := 38, ground := Ground.guard }], guard := some (38, true) }) (v := ?_) rfl (by kernel_rfl) (by kernel_rfl) (by kernel_rfl) (fun _ _ _ h => h) (Or.inl ⟨by rfl, ?_⟩) (by assumption) ?_
    rotate_left 1
    · (intro W hSW; (try dsimp only at hSW); first | (go_simp; done) | (go_simp; with_reducible rfl))
    try simp only [Act.put, List.setIfInBounds_toArray, List.set_cons_zero, List.set_cons_succ]
    refine wpAnyH_ready (rs := [42]) (by kernel_rfl) (by simp) ?_
    refine (AllReadyH.cons (o := { dst := some 118, op := Op.call { callee := Callee.value (Operand.func 23), args := #[Operand.tmp 115, Operand.tmp 116, Operand.tmp 117], argTypes := #[25, 26, 3] }, type := 4, pos := "law.go:25", after := #[{ on := 39, ground := Ground.data }, { on := 40, ground := Ground.data }, { on := 41, ground := Ground.data }, { on := 38, ground := Ground.chain }, { on := 38, ground := Ground.guard }], guard := some (38, true) }) rfl (fun K hK => ?_) AllReadyH.nil)
    rw [if_pos (by rfl)]
    go_simp
    go_at_call 23
    refine (eval_at 6 HV.out.1 (by have := HL.out.2.2.2.2; omega) (by decide) (good_bounds G4.out (by have := HL.out.2.2.2.2; omega)) (by omega) (Hc.out.grown hgr2).2.2 (HB.out.grown hgr2)).mono ?_
    rintro e wc3 ⟨rfl, gc3⟩
    have hgr3 := World.grownBy.trans hgr2 gc3
    go_wp2_with fail
    refine hK.out _ _ (HS.out _ hgr3) (fun hHeld => ?_)
    clear hK K
    try simp only [Act.put, List.setIfInBounds_toArray, List.set_cons_zero, List.set_cons_succ]
    refine wpAnyH_take (i := 43) (oi := { dst := some 119, op := Op.pick (Operand.tmp 114) (Operand.tmp 118) (Operand.const (Value.bool false)), type := 4, pos := "law.go:25", after := #[{ on := 38, ground := Ground.data }, { on := 42, ground := Ground.data }], guard := none }) (v := ?_) rfl (by kernel_rfl) (by kernel_rfl) (by kernel_rfl) (fun _ _ _ h => h) (Or.inl ⟨by rfl, ?_⟩) (by assumption) ?_
    rotate_left 1
    · (intro W hSW; (try dsimp only at hSW); first | (go_simp; done) | (go_simp; with_reducible rfl))
    try simp only [Act.put, List.setIfInBounds_toArray, List.set_cons_zero, List.set_cons_succ]
    refine wpAnyH_take (i := 44) (oi := { dst := some 120, op := Op.move (Operand.tmp 119), type := 4, pos := "law.go:25", after := #[{ on := 43, ground := Ground.data }, { on := 42, ground := Ground.chain }], guard := none }) (v := ?_) rfl (by kernel_rfl) (by kernel_rfl) (by kernel_rfl) (fun _ _ _ h => h) (Or.inl ⟨by rfl, ?_⟩) (by assumption) ?_
    rotate_left 1
    · (intro W hSW; (try dsimp only at hSW); first | (go_simp; done) | (go_simp; with_reducible rfl))
    try simp only [Act.put, List.setIfInBounds_toArray, List.set_cons_zero, List.set_cons_succ]
    refine wpAnyH_take (i := 45) (oi := { dst := some 121, op := Op.load 25 (Operand.tmp 1), type := 25, pos := "law.go:25", after := #[{ on := 44, ground := Ground.guard }], guard := some (44, true) }) (v := ?_) rfl (by kernel_rfl) (by kernel_rfl) (by kernel_rfl) (fun _ _ _ h => h) (Or.inl ⟨by rfl, ?_⟩) (by assumption) ?_
    rotate_left 1
    · (intro W hSW; (try dsimp only at hSW); first | (go_simp; done) | (go_simp; with_reducible rfl))
    try simp only [Act.put, List.setIfInBounds_toArray, List.set_cons_zero, List.set_cons_succ]
    refine wpAnyH_take (i := 46) (oi := { dst := some 122, op := Op.move (Operand.tmp 14), type := 26, pos := "law.go:25", after := #[{ on := 44, ground := Ground.guard }], guard := some (44, true) }) (v := ?_) rfl (by kernel_rfl) (by kernel_rfl) (by kernel_rfl) (fun _ _ _ h => h) (Or.inl ⟨by rfl, ?_⟩) (by assumption) ?_
    rotate_left 1
    · (intro W hSW; (try dsimp only at hSW); first | (go_simp; done) | (go_simp; with_reducible rfl))
    try simp only [Act.put, List.setIfInBounds_toArray, List.set_cons_zero, List.set_cons_succ]
    refine wpAnyH_take (i := 47) (oi := { dst := some 123, op := Op.move (Operand.tmp 5), type := 3, pos := "law.go:25", after := #[{ on := 44, ground := Ground.guard }], guard := some (44, true) }) (v := ?_) rfl (by kernel_rfl) (by kernel_rfl) (by kernel_rfl) (fun _ _ _ h => h) (Or.inl ⟨by rfl, ?_⟩) (by assumption) ?_
    rotate_left 1
    · (intro W hSW; (try dsimp only at hSW); first | (go_simp; done) | (go_simp; with_reducible rfl))
    try simp only [Act.put, List.setIfInBounds_toArray, List.set_cons_zero, List.set_cons_succ]
    refine wpAnyH_ready (rs := [48]) (by kernel_rfl) (by simp) ?_
    refine (AllReadyH.cons (o := { dst := some 124, op := Op.call { callee := Callee.value (Operand.func 23), args := #[Operand.tmp 121, Operand.tmp 122, Operand.tmp 123], argTypes := #[25, 26, 3] }, type := 4, pos := "law.go:25", after := #[{ on := 45, ground := Ground.data }, { on := 46, ground := Ground.data }, { on := 47, ground := Ground.data }, { on := 44, ground := Ground.chain }, { on := 44, ground := Ground.guard }], guard := some (44, true) }) rfl (fun K hK => ?_) AllReadyH.nil)
    rw [if_pos (by rfl)]
    go_simp
    go_at_call 23
    refine (eval_at 12 HV.out.2.1 (by have := HL.out.2.2.2.2; omega) (by decide) (good_bounds G4.out (by have := HL.out.2.2.2.2; omega)) (by omega) (Hc.out.grown hgr3).2.2 (HB.out.grown hgr3)).mono ?_
    rintro e wc4 ⟨rfl, gc4⟩
    have hgr4 := World.grownBy.trans hgr3 gc4
    go_wp2_with fail
    refine hK.out _ _ (HS.out _ hgr4) (fun hHeld => ?_)
    clear hK K
    try simp only [Act.put, List.setIfInBounds_toArray, List.set_cons_zero, List.set_cons_succ]
    refine wpAnyH_take (i := 49) (oi := { dst := some 125, op := Op.pick (Operand.tmp 120) (Operand.tmp 124) (Operand.const (Value.bool false)), type := 4, pos := "law.go:25", after := #[{ on := 44, ground := Ground.data }, { on := 48, ground := Ground.data }], guard := none }) (v := ?_) rfl (by kernel_rfl) (by kernel_rfl) (by kernel_rfl) (fun _ _ _ h => h) (Or.inl ⟨by rfl, ?_⟩) (by assumption) ?_
    rotate_left 1
    · (intro W hSW; (try dsimp only at hSW); first | (go_simp; done) | (go_simp; with_reducible rfl))
    try simp only [Act.put, List.setIfInBounds_toArray, List.set_cons_zero, List.set_cons_succ]
    refine wpAnyH_take (i := 50) (oi := { dst := some 126, op := Op.move (Operand.tmp 125), type := 4, pos := "law.go:25", after := #[{ on := 49, ground := Ground.data }, { on := 48, ground := Ground.chain }], guard := none }) (v := ?_) rfl (by kernel_rfl) (by kernel_rfl) (by kernel_rfl) (fun _ _ _ h => h) (Or.inl ⟨by rfl, ?_⟩) (by assumption) ?_
    rotate_left 1
    · (intro W hSW; (try dsimp only at hSW); first | (go_simp; done) | (go_simp; with_reducible rfl))
    try simp only [Act.put, List.setIfInBounds_toArray, List.set_cons_zero, List.set_cons_succ]
    refine wpAnyH_take (i := 51) (oi := { dst := some 127, op := Op.load 25 (Operand.tmp 1), type := 25, pos := "law.go:25", after := #[{ on := 50, ground := Ground.guard }], guard := some (50, true) }) (v := ?_) rfl (by kernel_rfl) (by kernel_rfl) (by kernel_rfl) (fun _ _ _ h => h) (Or.inl ⟨by rfl, ?_⟩) (by assumption) ?_
    rotate_left 1
    · (intro W hSW; (try dsimp only at hSW); first | (go_simp; done) | (go_simp; with_reducible rfl))
    try simp only [Act.put, List.setIfInBounds_toArray, List.set_cons_zero, List.set_cons_succ]
    refine wpAnyH_take (i := 52) (oi := { dst := some 128, op := Op.move (Operand.tmp 14), type := 26, pos := "law.go:25", after := #[{ on := 50, ground := Ground.guard }], guard := some (50, true) }) (v := ?_) rfl (by kernel_rfl) (by kernel_rfl) (by kernel_rfl) (fun _ _ _ h => h) (Or.inl ⟨by rfl, ?_⟩) (by assumption) ?_
    rotate_left 1
    · (intro W hSW; (try dsimp only at hSW); first | (go_simp; done) | (go_simp; with_reducible rfl))
    try simp only [Act.put, List.setIfInBounds_toArray, List.set_cons_zero, List.set_cons_succ]
    refine wpAnyH_take (i := 53) (oi := { dst := some 129, op := Op.slice 26 (Operand.tmp 128) none (some (Operand.const (Value.int IntKind.i64 1))) none, type := 26, pos := "law.go:25", after := #[{ on := 52, ground := Ground.data }, { on := 50, ground := Ground.guard }], guard := some (50, true) }) (v := ?_) rfl (by kernel_rfl) (by kernel_rfl) (by kernel_rfl) (fun _ _ _ h => h) (Or.inl ⟨by rfl, ?_⟩) (by assumption) ?_
    rotate_left 1
    · (intro W hSW; (try dsimp only at hSW); first | (go_simp; done) | (go_simp; with_reducible rfl))
    try simp only [Act.put, List.setIfInBounds_toArray, List.set_cons_zero, List.set_cons_succ]
    refine wpAnyH_take (i := 54) (oi := { dst := some 130, op := Op.move (Operand.tmp 4), type := 3, pos := "law.go:25", after := #[{ on := 50, ground := Ground.guard }], guard := some (50, true) }) (v := ?_) rfl (by kernel_rfl) (by kernel_rfl) (by kernel_rfl) (fun _ _ _ h => h) (Or.inl ⟨by rfl, ?_⟩) (by assumption) ?_
    rotate_left 1
    · (intro W hSW; (try dsimp only at hSW); first | (go_simp; done) | (go_simp; with_reducible rfl))
    try simp only [Act.put, List.setIfInBounds_toArray, List.set_cons_zero, List.set_cons_succ]
    refine wpAnyH_ready (rs := [55]) (by kernel_rfl) (by simp) ?_
    refine (AllReadyH.cons (o := { dst := some 131, op := Op.call { callee := Callee.value (Operand.func 23), args := #[Operand.tmp 127, Operand.tmp 129, Operand.tmp 130], argTypes := #[25, 26, 3] }, type := 4, pos := "law.go:25", after := #[{ on := 51, ground := Ground.data }, { on := 53, ground := Ground.data }, { on := 54, ground := Ground.data }, { on := 50, ground := Ground.chain }, { on := 50, ground := Ground.guard }], guard := some (50, true) }) rfl (fun K hK => ?_) AllReadyH.nil)
    rw [if_pos (by rfl)]
    go_simp
    go_at_call 23
    refine (eval_at 6 HV.out.2.2.1 (by have := HL.out.2.2.2.2; omega) (by decide) (good_bounds G4.out (by have := HL.out.2.2.2.2; omega)) (by omega) (Hc.out.grown hgr4).2.2 (bools_one (HB.out.grown hgr4))).mono ?_
    rintro e wc5 ⟨rfl, gc5⟩
    have hgr5 := World.grownBy.trans hgr4 gc5
    go_wp2_with fail
    refine hK.out _ _ (HS.out _ hgr5) (fun hHeld => ?_)
    clear hK K
    try simp only [Act.put, List.setIfInBounds_toArray, List.set_cons_zero, List.set_cons_succ]
    refine wpAnyH_take (i := 56) (oi := { dst := some 132, op := Op.unOp UnOp.not 4 (Operand.tmp 131), type := 4, pos := "law.go:25", after := #[{ on := 55, ground := Ground.data }, { on := 50, ground := Ground.guard }], guard := some (50, true) }) (v := ?_) rfl (by kernel_rfl) (by kernel_rfl) (by kernel_rfl) (fun _ _ _ h => h) (Or.inl ⟨by rfl, ?_⟩) (by assumption) ?_
    rotate_left 1
    · (intro W hSW; (try dsimp only at hSW); first | (go_simp; done) | (go_simp; with_reducible rfl))
    try simp only [Act.put, List.setIfInBounds_toArray, List.set_cons_zero, List.set_cons_succ]
    refine wpAnyH_take (i := 57) (oi := { dst := some 133, op := Op.pick (Operand.tmp 126) (Operand.tmp 132) (Operand.const (Value.bool false)), type := 4, pos := "law.go:25", after := #[{ on := 50, ground := Ground.data }, { on := 56, ground := Ground.data }], guard := none }) (v := ?_) rfl (by kernel_rfl) (by kernel_rfl) (by kernel_rfl) (fun _ _ _ h => h) (Or.inl ⟨by rfl, ?_⟩) (by assumption) ?_
    rotate_left 1
    · (intro W hSW; (try dsimp only at hSW); first | (go_simp; done) | (go_simp; with_reducible rfl))
    try simp only [Act.put, List.setIfInBounds_toArray, List.set_cons_zero, List.set_cons_succ]
    refine wpAnyH_take (i := 58) (oi := { dst := some 134, op := Op.move (Operand.tmp 133), type := 4, pos := "law.go:25", after := #[{ on := 57, ground := Ground.data }, { on := 55, ground := Ground.chain }], guard := none }) (v := ?_) rfl (by kernel_rfl) (by kernel_rfl) (by kernel_rfl) (fun _ _ _ h => h) (Or.inl ⟨by rfl, ?_⟩) (by assumption) ?_
    rotate_left 1
    · (intro W hSW; (try dsimp only at hSW); first | (go_simp; done) | (go_simp; with_reducible rfl))
    try simp only [Act.put, List.setIfInBounds_toArray, List.set_cons_zero, List.set_cons_succ]
    refine wpAnyH_take (i := 59) (oi := { dst := some 135, op := Op.load 25 (Operand.tmp 1), type := 25, pos := "law.go:25", after := #[{ on := 58, ground := Ground.guard }], guard := some (58, true) }) (v := ?_) rfl (by kernel_rfl) (by kernel_rfl) (by kernel_rfl) (fun _ _ _ h => h) (Or.inl ⟨by rfl, ?_⟩) (by assumption) ?_
    rotate_left 1
    · (intro W hSW; (try dsimp only at hSW); first | (go_simp; done) | (go_simp; with_reducible rfl))
    try simp only [Act.put, List.setIfInBounds_toArray, List.set_cons_zero, List.set_cons_succ]
    refine wpAnyH_ready (rs := [60]) (by kernel_rfl) (by simp) ?_
    refine (AllReadyH.cons (o := { dst := some 136, op := Op.call { callee := Callee.value (Operand.func 23), args := #[Operand.tmp 135, Operand.const (Value.slice none 0 0), Operand.const (Value.int IntKind.i64 1)], argTypes := #[25, 26, 3] }, type := 4, pos := "law.go:25", after := #[{ on := 59, ground := Ground.data }, { on := 58, ground := Ground.chain }, { on := 58, ground := Ground.guard }], guard := some (58, true) }) rfl (fun K hK => ?_) AllReadyH.nil)
    rw [if_pos (by rfl)]
    go_simp
    go_at_call 23
    refine (eval_at 1 HV.out.2.2.2.1 (by have := HL.out.2.2.2.2; omega) (by decide) (good_bounds G4.out (by have := HL.out.2.2.2.2; omega)) (by omega) (Hc.out.grown hgr5).2.2 (boolsW_nil _ none 0)).mono ?_
    rintro e wc6 ⟨rfl, gc6⟩
    have hgr6 := World.grownBy.trans hgr5 gc6
    go_wp2_with fail
    refine hK.out _ _ (HS.out _ hgr6) (fun hHeld => ?_)
    clear hK K
    try simp only [Act.put, List.setIfInBounds_toArray, List.set_cons_zero, List.set_cons_succ]
    refine wpAnyH_take (i := 61) (oi := { dst := some 137, op := Op.unOp UnOp.not 4 (Operand.tmp 136), type := 4, pos := "law.go:25", after := #[{ on := 60, ground := Ground.data }, { on := 58, ground := Ground.guard }], guard := some (58, true) }) (v := ?_) rfl (by kernel_rfl) (by kernel_rfl) (by kernel_rfl) (fun _ _ _ h => h) (Or.inl ⟨by rfl, ?_⟩) (by assumption) ?_
    rotate_left 1
    · (intro W hSW; (try dsimp only at hSW); first | (go_simp; done) | (go_simp; with_reducible rfl))
    try simp only [Act.put, List.setIfInBounds_toArray, List.set_cons_zero, List.set_cons_succ]
    refine wpAnyH_take (i := 62) (oi := { dst := some 138, op := Op.pick (Operand.tmp 134) (Operand.tmp 137) (Operand.const (Value.bool false)), type := 4, pos := "law.go:25", after := #[{ on := 58, ground := Ground.data }, { on := 61, ground := Ground.data }], guard := none }) (v := ?_) rfl (by kernel_rfl) (by kernel_rfl) (by kernel_rfl) (fun _ _ _ h => h) (Or.inl ⟨by rfl, ?_⟩) (by assumption) ?_
    rotate_left 1
    · (intro W hSW; (try dsimp only at hSW); first | (go_simp; done) | (go_simp; with_reducible rfl))
    try simp only [Act.put, List.setIfInBounds_toArray, List.set_cons_zero, List.set_cons_succ]
    refine wpAnyH_take (i := 63) (oi := { dst := some 139, op := Op.move (Operand.tmp 138), type := 4, pos := "law.go:25", after := #[{ on := 62, ground := Ground.data }, { on := 60, ground := Ground.chain }], guard := none }) (v := ?_) rfl (by kernel_rfl) (by kernel_rfl) (by kernel_rfl) (fun _ _ _ h => h) (Or.inl ⟨by rfl, ?_⟩) (by assumption) ?_
    rotate_left 1
    · (intro W hSW; (try dsimp only at hSW); first | (go_simp; done) | (go_simp; with_reducible rfl))
    try simp only [Act.put, List.setIfInBounds_toArray, List.set_cons_zero, List.set_cons_succ]
    refine wpAnyH_ready (rs := [64]) (by kernel_rfl) (by simp) ?_
    refine (AllReadyH.cons (o := { dst := some 140, op := Op.call { callee := Callee.value (Operand.func 25), args := #[Operand.const (Value.int IntKind.i64 (-5))], argTypes := #[3] }, type := 3, pos := "law.go:25", after := #[{ on := 63, ground := Ground.chain }, { on := 63, ground := Ground.guard }], guard := some (63, true) }) rfl (fun K hK => ?_) AllReadyH.nil)
    rw [if_pos (by rfl)]
    go_simp
    go_at_call 25
    have hn5 := not_at (w := wc6) (-5) (by omega)
    rw [HV.out.2.2.2.2] at hn5
    refine hn5.mono ?_
    rintro e w9 ⟨rfl, hw9⟩
    rw [hw9]
    clear hw9 w9
    go_wp2_with fail
    refine hK.out _ _ (HS.out _ hgr6) (fun hHeld => ?_)
    clear hK K
    try simp only [Act.put, List.setIfInBounds_toArray, List.set_cons_zero, List.set_cons_succ]
    refine wpAnyH_take (i := 65) (oi := { dst := some 141, op := Op.binOp BinOp.eql 3 (Operand.tmp 140) (Operand.const (Value.int IntKind.i64 (-1))) 3, type := 4, pos := "law.go:25", after := #[{ on := 64, ground := Ground.data }, { on := 63, ground := Ground.guard }], guard := some (63, true) }) (v := ?_) rfl (by kernel_rfl) (by kernel_rfl) (by kernel_rfl) (fun _ _ _ h => h) (Or.inl ⟨by rfl, ?_⟩) (by assumption) ?_
    rotate_left 1
    · (intro W hSW; (try dsimp only at hSW); first | (go_simp; done) | (go_simp; with_reducible rfl))
    try simp only [Act.put, List.setIfInBounds_toArray, List.set_cons_zero, List.set_cons_succ]
    refine wpAnyH_take (i := 66) (oi := { dst := some 142, op := Op.pick (Operand.tmp 139) (Operand.tmp 141) (Operand.const (Value.bool false)), type := 4, pos := "law.go:25", after := #[{ on := 63, ground := Ground.data }, { on := 65, ground := Ground.data }], guard := none }) (v := ?_) rfl (by kernel_rfl) (by kernel_rfl) (by kernel_rfl) (fun _ _ _ h => h) (Or.inl ⟨by rfl, ?_⟩) (by assumption) ?_
    rotate_left 1
    · (intro W hSW; (try dsimp only at hSW); first | (go_simp; done) | (go_simp; with_reducible rfl))
    try simp only [Act.put, List.setIfInBounds_toArray, List.set_cons_zero, List.set_cons_succ]
    refine wpAnyH_take (i := 67) (oi := { dst := some 0, op := Op.assign (Operand.tmp 142), type := 4, pos := "law.go:25", after := ([{ on := 66, ground := Ground.data }, { on := 64, ground := Ground.chain }, { on := 0, ground := Ground.phase }, { on := 1, ground := Ground.phase }, { on := 2, ground := Ground.phase }, { on := 3, ground := Ground.phase }, { on := 4, ground := Ground.phase }, { on := 5, ground := Ground.phase }, { on := 6, ground := Ground.phase }, { on := 7, ground := Ground.phase }, { on := 8, ground := Ground.phase }, { on := 9, ground := Ground.phase }, { on := 10, ground := Ground.phase }, { on := 11, ground := Ground.phase }, { on := 12, ground := Ground.phase }, { on := 13, ground := Ground.phase }, { on := 14, ground := Ground.phase }, { on := 15, ground := Ground.phase }, { on := 16, ground := Ground.phase }, { on := 17, ground := Ground.phase }, { on := 18, ground := Ground.phase }, { on := 19, ground := Ground.phase }, { on := 20, ground := Ground.phase }, { on := 21, ground := Ground.phase }, { on := 22, ground := Ground.phase }, { on := 23, ground := Ground.phase }, { on := 24, ground := Ground.phase }, { on := 25, ground := Ground.phase }, { on := 26, ground := Ground.phase }, { on := 27, ground := Ground.phase }, { on := 28, ground := Ground.phase }, { on := 29, ground := Ground.phase }, { on := 30, ground := Ground.phase }, { on := 31, ground := Ground.phase }].append [{ on := 32, ground := Ground.phase }, { on := 33, ground := Ground.phase }, { on := 34, ground := Ground.phase }, { on := 35, ground := Ground.phase }, { on := 36, ground := Ground.phase }, { on := 37, ground := Ground.phase }, { on := 38, ground := Ground.phase }, { on := 39, ground := Ground.phase }, { on := 40, ground := Ground.phase }, { on := 41, ground := Ground.phase }, { on := 42, ground := Ground.phase }, { on := 43, ground := Ground.phase }, { on := 44, ground := Ground.phase }, { on := 45, ground := Ground.phase }, { on := 46, ground := Ground.phase }, { on := 47, ground := Ground.phase }, { on := 48, ground := Ground.phase }, { on := 49, ground := Ground.phase }, { on := 50, ground := Ground.phase }, { on := 51, ground := Ground.phase }, { on := 52, ground := Ground.phase }, { on := 53, ground := Ground.phase }, { on := 54, ground := Ground.phase }, { on := 55, ground := Ground.phase }, { on := 56, ground := Ground.phase }, { on := 57, ground := Ground.phase }, { on := 58, ground := Ground.phase }, { on := 59, ground := Ground.phase }, { on := 60, ground := Ground.phase }, { on := 61, ground := Ground.phase }, { on := 62, ground := Ground.phase }, { on := 63, ground := Ground.phase }, { on := 64, ground := Ground.phase }, { on := 65, ground := Ground.phase }, { on := 66, ground := Ground.phase }]).toArray, guard := none }) (v := ?_) rfl (by kernel_rfl) (by kernel_rfl) (by kernel_rfl) (fun _ _ _ h => h) (Or.inl ⟨by rfl, ?_⟩) (by assumption) ?_
    rotate_left 1
    · (intro W hSW; (try dsimp only at hSW); first | (go_simp; done) | (go_simp; with_reducible rfl))
    try simp only [Act.put, List.setIfInBounds_toArray, List.set_cons_zero]
    refine wpAnyH_done (by kernel_rfl) ?_ _
    have hEND := hgr6
    clear hHeld
    go_wp2_with fail
    go_ret
    exact ⟨rfl, World.grownBy.trans HG.out hEND⟩
end Go.Proofs.Ytllljcbdinckgaa
