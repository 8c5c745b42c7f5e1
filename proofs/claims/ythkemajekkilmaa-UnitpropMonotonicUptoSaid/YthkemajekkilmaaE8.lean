/- The law on more clauses and assumptions. -/
import Derived.BigRegion
import Derived.Deep.DeepCutAuto
import Derived.Test.YthkemajekkilmaaGA14
namespace Go.Proofs.Ythkemajekkilmaa
open Go.RowKit
set_option maxHeartbeats 16000000 in
set_option maxRecDepth 100000 in
theorem monotonic_calls (V : Int) (C : List (List Int)) (ca : Option Addr) (cc : Nat) (A : List Int) (aa : Option Addr) (ac : Nat) (M : List (List Int)) (ma : Option Addr) (mc : Nat) (X : List Int) (xa : Option Addr) (xc : Nat) (B : List Int) (ba : Option Addr) (bc : Nat) (w : World)
    (h : ClsW w ca cc C) (hA : IntsW w aa ac A) (hM : ClsW w ma mc M) (hX : IntsW w xa xc X) (hB : IntsW w ba bc B) (hbig : C.length + M.length ≤ 2000000) :
    Calls Try.prog 8 #[.agg #[.int .i64 V, .slice ca C.length cc], .slice aa A.length ac, .slice ma M.length mc, .slice xa X.length xc, .slice ba B.length bc] w fun e w' => e = .returned (.bool true) ∧ w.grownBy w' none := by
  obtain ⟨cn, hcn⟩ : ∃ n, C.length = n := ⟨_, rfl⟩
  obtain ⟨an, hAn⟩ : ∃ n, A.length = n := ⟨_, rfl⟩
  obtain ⟨mn, hMn⟩ : ∃ n, M.length = n := ⟨_, rfl⟩
  obtain ⟨xn, hXn⟩ : ∃ n, X.length = n := ⟨_, rfl⟩
  obtain ⟨bn, hBn⟩ : ∃ n, B.length = n := ⟨_, rfl⟩
  obtain ⟨nm, hnm⟩ : ∃ n, cn + mn = n := ⟨_, rfl⟩
  obtain ⟨W1, hW1⟩ : ∃ z, w.alloc (.cells #[.int .i64 V, .slice ca cn cc] 24) = z := ⟨_, rfl⟩
  obtain ⟨q0, q1, hg1⟩ := box_at w _ _ hW1
  obtain ⟨bf, hbf⟩ : ∃ z, w.heap.size = z := ⟨_, rfl⟩
  rw [hbf] at q0 q1
  have HC := Lib.hid (And.intro (h.grown hg1) hcn)
  have HA := Lib.hid (And.intro (hA.grown hg1) hAn)
  have HM := Lib.hid (And.intro (hM.grown hg1) hMn)
  have HX := Lib.hid (And.intro (hX.grown hg1) hXn)
  have HB := Lib.hid (And.intro (hB.grown hg1) hBn)
  have HG1 := Lib.hid hg1
  have HQ := Lib.hid (And.intro q0 q1)
  have HBIG : Hid (0 + cn ≤ 2000000 ∧ cn + mn ≤ 2000000) := Lib.hid ⟨by omega, by omega⟩
  have HNM : Hid (cn + mn = nm ∧ (C ++ M).length = nm) := Lib.hid ⟨hnm, by rw [List.length_append]; omega⟩
  rw [hcn, hAn, hMn, hXn, hBn]
  clear h hA hM hX hB hcn hAn hMn hXn hBn hg1 q0 q1 hbig hnm
  go_enter Try.func8, Try.ntmps8
  go_wp2_with fail
  clear hW1
  refine (head_calls _).mono ?_
  rintro e w2 ⟨rfl, hg2⟩
  have G2 := Lib.hid hg2
  obtain ⟨BB, hBB⟩ : ∃ z, w2.heap.size = z := ⟨_, rfl⟩
  have HBB := Lib.hid hBB
  clear hBB
  have HQ2 := Lib.hid (And.intro (hg2.cell HQ.out.1 (by simp)) (hg2.cell HQ.out.2 (by simp)))
  have HC2 := Lib.hid (And.intro (HC.out.1.grown hg2) HC.out.2)
  have HM2 := Lib.hid (And.intro (HM.out.1.grown hg2) HM.out.2)
  clear hg2
  go_wp2_with fail
  go_cut [12] from 20 to 28 (fun s12 wx => ∃ (bw : Nat) (ra : Option Addr) (rc : Nat), s12 = .pointer (some ⟨bw, 0, none⟩) ∧ wx.cell? ⟨bw, 0, none⟩ = some (.int .i64 V) ∧ wx.cell? ⟨bw, 1, none⟩ = some (.slice ra nm rc) ∧ ClsW wx ra rc (C ++ M) ∧ w2.grownBy wx none)
  case first =>
    refine wp_onlyN ?_
    have HS2 := Lib.hid (fun (Wh : World) (hWh : w2.grownBy Wh none) => (⟨hWh, hWh.cell HQ2.out.1 (by simp), hWh.cell HQ2.out.2 (by simp)⟩ : (fun Wh : World => w2.grownBy Wh none ∧ Wh.cell? ⟨bf, 0, none⟩ = some (.int .i64 V) ∧ Wh.cell? ⟨bf, 1, none⟩ = some (.slice ca cn cc)) Wh))
    have hdr : w2.grownBy w2.drew none := grown_drew w2 none
    refine wp_region_held_drew (S := (fun Wh : World => w2.grownBy Wh none ∧ Wh.cell? ⟨bf, 0, none⟩ = some (.int .i64 V) ∧ Wh.cell? ⟨bf, 1, none⟩ = some (.slice ca cn cc))) (by kernel_rfl) (HS2.out _ hdr) (fun hHeld => ?_)
    refine wpAnyH_take (i := 0) (oi := { dst := some 20, op := Op.fieldAddr 24 (Operand.tmp 5) 0, type := 0, pos := "law.go:234", after := #[], guard := none }) (v := ?_) rfl (by kernel_rfl) (by kernel_rfl) (by kernel_rfl) (fun _ _ _ h => h) (Or.inl ⟨by rfl, ?_⟩) (by assumption) ?_
    rotate_left 1
    · (intro W hSW; (try dsimp only at hSW); first | (go_simp; done) | (go_simp; with_reducible rfl))
    try simp only [Act.put, List.setIfInBounds_toArray, List.set_cons_zero, List.set_cons_succ]
    refine wpAnyH_take (i := 1) (oi := { dst := some 21, op := Op.load 3 (Operand.tmp 20), type := 3, pos := "law.go:234", after := #[{ on := 0, ground := Ground.data }], guard := none }) (v := ?_) rfl (by kernel_rfl) (by kernel_rfl) (by kernel_rfl) (fun _ _ _ h => h) (Or.inl ⟨by rfl, ?_⟩) (by assumption) ?_
    rotate_left 1
    · (intro W hSW; (try dsimp only at hSW); first | (go_simp; done) | (go_simp; with_reducible rfl))
    try simp only [Act.put, List.setIfInBounds_toArray, List.set_cons_zero, List.set_cons_succ]
    refine wpAnyH_take (i := 3) (oi := { dst := some 23, op := Op.fieldAddr 24 (Operand.tmp 5) 1, type := 0, pos := "law.go:234", after := #[], guard := none }) (v := ?_) rfl (by kernel_rfl) (by kernel_rfl) (by kernel_rfl) (fun _ _ _ h => h) (Or.inl ⟨by rfl, ?_⟩) (by assumption) ?_
    rotate_left 1
    · (intro W hSW; (try dsimp only at hSW); first | (go_simp; done) | (go_simp; with_reducible rfl))
    try simp only [Act.put, List.setIfInBounds_toArray, List.set_cons_zero, List.set_cons_succ]
    refine wpAnyH_take (i := 4) (oi := { dst := some 24, op := Op.load 22 (Operand.tmp 23), type := 22, pos := "law.go:234", after := #[{ on := 3, ground := Ground.data }], guard := none }) (v := ?_) rfl (by kernel_rfl) (by kernel_rfl) (by kernel_rfl) (fun _ _ _ h => h) (Or.inl ⟨by rfl, ?_⟩) (by assumption) ?_
    rotate_left 1
    · (intro W hSW; (try dsimp only at hSW); first | (go_simp; done) | (go_simp; with_reducible rfl))
    try simp only [Act.put, List.setIfInBounds_toArray, List.set_cons_zero, List.set_cons_succ]
    refine wpAnyH_take (i := 6) (oi := { dst := some 26, op := Op.move (Operand.tmp 2), type := 22, pos := "law.go:234", after := #[], guard := none }) (v := ?_) rfl (by kernel_rfl) (by kernel_rfl) (by kernel_rfl) (fun _ _ _ h => h) (Or.inl ⟨by rfl, ?_⟩) (by assumption) ?_
    rotate_left 1
    · (intro W hSW; (try dsimp only at hSW); first | (go_simp; done) | (go_simp; with_reducible rfl))
    try simp only [Act.put, List.setIfInBounds_toArray, List.set_cons_zero, List.set_cons_succ]
    refine wpAnyH_ready (rs := [2, 9]) (by kernel_rfl) (by simp) ?_
    refine (AllReadyH.cons (o := { dst := some 22, op := Op.buildSlice 22 0 #[], type := 22, pos := "law.go:234", after := #[], guard := none }) rfl (fun K hK => ?_) (AllReadyH.cons (o := { dst := some 12, op := Op.alloc 24, type := 0, pos := "law.go:234", after := #[], guard := none }) rfl (fun K hK => ?_) AllReadyH.nil))
    · rw [if_pos (by rfl)]
      go_simp
      have hs2 : w2.grownBy ((World.alloc w2 (.cells #[] 25)).drew) none := (World.grownBy_alloc w2 (.cells #[] 25) none).trans (grown_drew _ none)
      have hR2 := (OR.start w2 w2 (B := BB) (Nat.le_of_eq HBB.out.symm)).grown (grown_drew _ none)
      obtain ⟨W2, hW2⟩ : ∃ z, (World.alloc w2 (.cells #[] 25)).drew = z := ⟨_, rfl⟩
      obtain ⟨b2, hb2⟩ : ∃ z, w2.heap.size = z := ⟨_, rfl⟩
      have hl2 : w2.heap.size ≤ b2 := by rw [← hb2]; exact Nat.le_refl _
      rw [hW2] at hs2 hR2 ⊢
      try rw [hb2] at hR2
      try rw [hb2]
      have hG2 : w2.grownBy W2 none := hs2
      refine hK.out _ _ (HS2.out _ hG2) (fun hHeld => ?_)
      clear hW2 hb2
      clear hK K
      try simp only [Act.put, List.setIfInBounds_toArray, List.set_cons_zero, List.set_cons_succ]
      refine wpAnyH_ready (rs := [5, 9]) (by kernel_rfl) (by simp) ?_
      refine (AllReadyH.cons (o := { dst := some 25, op := Op.call { callee := Callee.builtin Builtin.append, args := #[Operand.tmp 22, Operand.tmp 24], argTypes := #[22, 22] }, type := 22, pos := "law.go:234", after := #[{ on := 2, ground := Ground.data }, { on := 4, ground := Ground.data }], guard := none }) rfl (fun K hK => ?_) (AllReadyH.cons (o := { dst := some 12, op := Op.alloc 24, type := 0, pos := "law.go:234", after := #[], guard := none }) rfl (fun K hK => ?_) AllReadyH.nil))
      · rw [if_pos (by rfl)]
        refine wp_app22 (.tmp 22) (.tmp 24) rfl (w0 := w2) BB (hG2) (Nat.le_of_eq HBB.out) _ _ 0 [] C ca cc cn rfl rfl hR2 rfl HC2.out.1 HC2.out.2 HBIG.out.1 (by rw [← HBB.out]; exact (hG2).size) cn (Nat.zero_add _) (fun r5 c5 W5 hR5 hgr5 hG5 => ?_)
        refine hK.out _ _ (HS2.out _ hG5) (fun hHeld => ?_)
        clear hK K
        try simp only [Act.put, List.setIfInBounds_toArray, List.set_cons_zero, List.set_cons_succ]
        refine wpAnyH_ready (rs := [7, 9]) (by kernel_rfl) (by simp) ?_
        refine (AllReadyH.cons (o := { dst := some 27, op := Op.call { callee := Callee.builtin Builtin.append, args := #[Operand.tmp 25, Operand.tmp 26], argTypes := #[22, 22] }, type := 22, pos := "law.go:234", after := #[{ on := 5, ground := Ground.data }, { on := 6, ground := Ground.data }, { on := 5, ground := Ground.chain }], guard := none }) rfl (fun K hK => ?_) (AllReadyH.cons (o := { dst := some 12, op := Op.alloc 24, type := 0, pos := "law.go:234", after := #[], guard := none }) rfl (fun K hK => ?_) AllReadyH.nil))
        · rw [if_pos (by rfl)]
          refine wp_app22 (.tmp 25) (.tmp 26) rfl (w0 := w2) BB (hG5) (Nat.le_of_eq HBB.out) _ _ cn C M ma mc mn rfl rfl hR5 HC2.out.2 HM2.out.1 HM2.out.2 HBIG.out.2 (by rw [← HBB.out]; exact (hG5).size) nm HNM.out.1 (fun r7 c7 W7 hR7 hgr7 hG7 => ?_)
          refine hK.out _ _ (HS2.out _ hG7) (fun hHeld => ?_)
          clear hK K
          try simp only [Act.put, List.setIfInBounds_toArray, List.set_cons_zero, List.set_cons_succ]
          refine wpAnyH_take (i := 8) (oi := { dst := some 28, op := Op.build 24 #[(0, Operand.tmp 21), (1, Operand.tmp 27)], type := 24, pos := "law.go:234", after := #[{ on := 1, ground := Ground.data }, { on := 7, ground := Ground.data }], guard := none }) (v := ?_) rfl (by kernel_rfl) (by kernel_rfl) (by kernel_rfl) (fun _ _ _ h => h) (Or.inl ⟨by rfl, ?_⟩) (by assumption) ?_
          rotate_left 1
          · (intro W hSW; (try dsimp only at hSW); first | (go_simp; done) | (go_simp; with_reducible rfl))
          try simp only [Act.put, List.setIfInBounds_toArray, List.set_cons_zero, List.set_cons_succ]
          refine wpAnyH_ready (rs := [9]) (by kernel_rfl) (by simp) ?_
          refine (AllReadyH.cons (o := { dst := some 12, op := Op.alloc 24, type := 0, pos := "law.go:234", after := #[], guard := none }) rfl (fun K hK => ?_) AllReadyH.nil)
          rw [if_pos (by rfl)]
          go_simp
          have hs9 : W7.grownBy (World.alloc W7 (.cells #[.int .i64 0, .slice none 0 0] 24)) none := World.grownBy_alloc W7 (.cells #[.int .i64 0, .slice none 0 0] 24) none
          have hX9 := ZB.new W7
          have hRn := OR.grown hR7 hs9
          obtain ⟨W9, hW9⟩ : ∃ z, World.alloc W7 (.cells #[.int .i64 0, .slice none 0 0] 24) = z := ⟨_, rfl⟩
          obtain ⟨b9, hb9⟩ : ∃ z, W7.heap.size = z := ⟨_, rfl⟩
          have hl9 : w2.heap.size ≤ b9 := by rw [← hb9]; exact (hG7).size
          rw [hW9] at hs9 hX9 hRn ⊢
          rw [hb9] at hX9 ⊢
          have hG9 : w2.grownBy W9 none := World.grownBy.trans (hG7) hs9
          refine hK.out _ _ (HS2.out _ hG9) (fun hHeld => ?_)
          clear hW9 hb9
          clear hK K
          try simp only [Act.put, List.setIfInBounds_toArray, List.set_cons_zero, List.set_cons_succ]
          refine wpAnyH_ready (rs := [10]) (by kernel_rfl) (by simp) ?_
          refine (AllReadyH.cons (o := { dst := none, op := Op.store 24 (Operand.tmp 12) (Operand.tmp 28), type := 0, pos := "law.go:234", after := #[{ on := 9, ground := Ground.data }, { on := 8, ground := Ground.data }, { on := 7, ground := Ground.chain }, { on := 0, ground := Ground.phase }, { on := 1, ground := Ground.phase }, { on := 2, ground := Ground.phase }, { on := 3, ground := Ground.phase }, { on := 4, ground := Ground.phase }, { on := 5, ground := Ground.phase }, { on := 6, ground := Ground.phase }, { on := 7, ground := Ground.phase }, { on := 8, ground := Ground.phase }, { on := 9, ground := Ground.phase }], guard := none }) rfl (fun K hK => ?_) AllReadyH.nil)
          rw [if_pos (by rfl)]
          have hc0 := hX9.c0
          have hc1 := hX9.c1
          have hf0 := hX9.fr 0
          have hf1 := hX9.fr 1
          go_simp
          clear hc0 hc1 hf0 hf1
          obtain ⟨F, hF⟩ : ∃ z, (W9.setCell ⟨b9, 0, none⟩ (.int .i64 V)).setCell ⟨b9, 1, none⟩ (.slice r7 nm c7) = z := ⟨_, rfl⟩
          have hZ := zb_store hRn HNM.out.2 hX9 hl9 (hG9) hF
          rw [hF]
          clear hF
          refine hK.out _ _ (HS2.out _ hZ.2.2.2) (fun hHeld => ?_)
          clear hK K
          try simp only [Act.put, List.setIfInBounds_toArray, List.set_cons_zero, List.set_cons_succ]
          refine wpAnyH_done (by kernel_rfl) ?_ _
          have hEND := hZ.2.2.2
          clear hHeld
          simp only [onlyN]
          go_wp2_with fail
          go_meet
          exact ⟨b9, r7, c7, rfl, hZ.1, hZ.2.1, hZ.2.2.1, hZ.2.2.2⟩
        · rw [if_pos (by rfl)]
          go_simp
          have hs9 : W5.grownBy (World.alloc W5 (.cells #[.int .i64 0, .slice none 0 0] 24)) none := World.grownBy_alloc W5 (.cells #[.int .i64 0, .slice none 0 0] 24) none
          have hX9 := ZB.new W5
          have hRn := OR.grown hR5 hs9
          obtain ⟨W9, hW9⟩ : ∃ z, World.alloc W5 (.cells #[.int .i64 0, .slice none 0 0] 24) = z := ⟨_, rfl⟩
          obtain ⟨b9, hb9⟩ : ∃ z, W5.heap.size = z := ⟨_, rfl⟩
          have hl9 : w2.heap.size ≤ b9 := by rw [← hb9]; exact (hG5).size
          rw [hW9] at hs9 hX9 hRn ⊢
          rw [hb9] at hX9 ⊢
          have hG9 : w2.grownBy W9 none := World.grownBy.trans (hG5) hs9
          refine hK.out _ _ (HS2.out _ hG9) (fun hHeld => ?_)
          clear hW9 hb9
          clear hK K
          try simp only [Act.put, List.setIfInBounds_toArray, List.set_cons_zero, List.set_cons_succ]
          refine wpAnyH_ready (rs := [7]) (by kernel_rfl) (by simp) ?_
          refine (AllReadyH.cons (o := { dst := some 27, op := Op.call { callee := Callee.builtin Builtin.append, args := #[Operand.tmp 25, Operand.tmp 26], argTypes := #[22, 22] }, type := 22, pos := "law.go:234", after := #[{ on := 5, ground := Ground.data }, { on := 6, ground := Ground.data }, { on := 5, ground := Ground.chain }], guard := none }) rfl (fun K hK => ?_) AllReadyH.nil)
          rw [if_pos (by rfl)]
          refine wp_app22 (.tmp 25) (.tmp 26) rfl (w0 := w2) BB (hG9) (Nat.le_of_eq HBB.out) _ _ cn C M ma mc mn rfl rfl hRn HC2.out.2 HM2.out.1 HM2.out.2 HBIG.out.2 (by rw [← HBB.out]; exact (hG9).size) nm HNM.out.1 (fun r7 c7 W7 hR7 hgr7 hG7 => ?_)
          have hX7 := hX9.off hgr7 (OR.ne hRn hX9)
          refine hK.out _ _ (HS2.out _ hG7) (fun hHeld => ?_)
          clear hK K
          try simp only [Act.put, List.setIfInBounds_toArray, List.set_cons_zero, List.set_cons_succ]
          refine wpAnyH_take (i := 8) (oi := { dst := some 28, op := Op.build 24 #[(0, Operand.tmp 21), (1, Operand.tmp 27)], type := 24, pos := "law.go:234", after := #[{ on := 1, ground := Ground.data }, { on := 7, ground := Ground.data }], guard := none }) (v := ?_) rfl (by kernel_rfl) (by kernel_rfl) (by kernel_rfl) (fun _ _ _ h => h) (Or.inl ⟨by rfl, ?_⟩) (by assumption) ?_
          rotate_left 1
          · (intro W hSW; (try dsimp only at hSW); first | (go_simp; done) | (go_simp; with_reducible rfl))
          try simp only [Act.put, List.setIfInBounds_toArray, List.set_cons_zero, List.set_cons_succ]
          refine wpAnyH_ready (rs := [10]) (by kernel_rfl) (by simp) ?_
          refine (AllReadyH.cons (o := { dst := none, op := Op.store 24 (Operand.tmp 12) (Operand.tmp 28), type := 0, pos := "law.go:234", after := #[{ on := 9, ground := Ground.data }, { on := 8, ground := Ground.data }, { on := 7, ground := Ground.chain }, { on := 0, ground := Ground.phase }, { on := 1, ground := Ground.phase }, { on := 2, ground := Ground.phase }, { on := 3, ground := Ground.phase }, { on := 4, ground := Ground.phase }, { on := 5, ground := Ground.phase }, { on := 6, ground := Ground.phase }, { on := 7, ground := Ground.phase }, { on := 8, ground := Ground.phase }, { on := 9, ground := Ground.phase }], guard := none }) rfl (fun K hK => ?_) AllReadyH.nil)
          rw [if_pos (by rfl)]
          have hc0 := hX7.c0
          have hc1 := hX7.c1
          have hf0 := hX7.fr 0
          have hf1 := hX7.fr 1
          go_simp
          clear hc0 hc1 hf0 hf1
          obtain ⟨F, hF⟩ : ∃ z, (W7.setCell ⟨b9, 0, none⟩ (.int .i64 V)).setCell ⟨b9, 1, none⟩ (.slice r7 nm c7) = z := ⟨_, rfl⟩
          have hZ := zb_store hR7 HNM.out.2 hX7 hl9 (hG7) hF
          rw [hF]
          clear hF
          refine hK.out _ _ (HS2.out _ hZ.2.2.2) (fun hHeld => ?_)
          clear hK K
          try simp only [Act.put, List.setIfInBounds_toArray, List.set_cons_zero, List.set_cons_succ]
          refine wpAnyH_done (by kernel_rfl) ?_ _
          have hEND := hZ.2.2.2
          clear hHeld
          simp only [onlyN]
          go_wp2_with fail
          go_meet
          exact ⟨b9, r7, c7, rfl, hZ.1, hZ.2.1, hZ.2.2.1, hZ.2.2.2⟩
      · rw [if_pos (by rfl)]
        go_simp
        have hs9 : W2.grownBy (World.alloc W2 (.cells #[.int .i64 0, .slice none 0 0] 24)) none := World.grownBy_alloc W2 (.cells #[.int .i64 0, .slice none 0 0] 24) none
        have hX9 := ZB.new W2
        have hRn := hR2.grown hs9
        obtain ⟨W9, hW9⟩ : ∃ z, World.alloc W2 (.cells #[.int .i64 0, .slice none 0 0] 24) = z := ⟨_, rfl⟩
        obtain ⟨b9, hb9⟩ : ∃ z, W2.heap.size = z := ⟨_, rfl⟩
        have hl9 : w2.heap.size ≤ b9 := by rw [← hb9]; exact (hG2).size
        rw [hW9] at hs9 hX9 hRn ⊢
        rw [hb9] at hX9 ⊢
        have hG9 : w2.grownBy W9 none := World.grownBy.trans (hG2) hs9
        refine hK.out _ _ (HS2.out _ hG9) (fun hHeld => ?_)
        clear hW9 hb9
        clear hK K
        try simp only [Act.put, List.setIfInBounds_toArray, List.set_cons_zero, List.set_cons_succ]
        refine wpAnyH_ready (rs := [5]) (by kernel_rfl) (by simp) ?_
        refine (AllReadyH.cons (o := { dst := some 25, op := Op.call { callee := Callee.builtin Builtin.append, args := #[Operand.tmp 22, Operand.tmp 24], argTypes := #[22, 22] }, type := 22, pos := "law.go:234", after := #[{ on := 2, ground := Ground.data }, { on := 4, ground := Ground.data }], guard := none }) rfl (fun K hK => ?_) AllReadyH.nil)
        rw [if_pos (by rfl)]
        refine wp_app22 (.tmp 22) (.tmp 24) rfl (w0 := w2) BB (hG9) (Nat.le_of_eq HBB.out) _ _ 0 [] C ca cc cn rfl rfl hRn rfl HC2.out.1 HC2.out.2 HBIG.out.1 (by rw [← HBB.out]; exact (hG9).size) cn (Nat.zero_add _) (fun r5 c5 W5 hR5 hgr5 hG5 => ?_)
        have hX5 := hX9.off hgr5 (OR.ne hRn hX9)
        refine hK.out _ _ (HS2.out _ hG5) (fun hHeld => ?_)
        clear hK K
        try simp only [Act.put, List.setIfInBounds_toArray, List.set_cons_zero, List.set_cons_succ]
        refine wpAnyH_ready (rs := [7]) (by kernel_rfl) (by simp) ?_
        refine (AllReadyH.cons (o := { dst := some 27, op := Op.call { callee := Callee.builtin Builtin.append, args := #[Operand.tmp 25, Operand.tmp 26], argTypes := #[22, 22] }, type := 22, pos := "law.go:234", after := #[{ on := 5, ground := Ground.data }, { on := 6, ground := Ground.data }, { on := 5, ground := Ground.chain }], guard := none }) rfl (fun K hK => ?_) AllReadyH.nil)
        rw [if_pos (by rfl)]
        refine wp_app22 (.tmp 25) (.tmp 26) rfl (w0 := w2) BB (hG5) (Nat.le_of_eq HBB.out) _ _ cn C M ma mc mn rfl rfl hR5 HC2.out.2 HM2.out.1 HM2.out.2 HBIG.out.2 (by rw [← HBB.out]; exact (hG5).size) nm HNM.out.1 (fun r7 c7 W7 hR7 hgr7 hG7 => ?_)
        have hX7 := hX5.off hgr7 (OR.ne hR5 hX5)
        refine hK.out _ _ (HS2.out _ hG7) (fun hHeld => ?_)
        clear hK K
        try simp only [Act.put, List.setIfInBounds_toArray, List.set_cons_zero, List.set_cons_succ]
        refine wpAnyH_take (i := 8) (oi := { dst := some 28, op := Op.build 24 #[(0, Operand.tmp 21), (1, Operand.tmp 27)], type := 24, pos := "law.go:234", after := #[{ on := 1, ground := Ground.data }, { on := 7, ground := Ground.data }], guard := none }) (v := ?_) rfl (by kernel_rfl) (by kernel_rfl) (by kernel_rfl) (fun _ _ _ h => h) (Or.inl ⟨by rfl, ?_⟩) (by assumption) ?_
        rotate_left 1
        · (intro W hSW; (try dsimp only at hSW); first | (go_simp; done) | (go_simp; with_reducible rfl))
        try simp only [Act.put, List.setIfInBounds_toArray, List.set_cons_zero, List.set_cons_succ]
        refine wpAnyH_ready (rs := [10]) (by kernel_rfl) (by simp) ?_
        refine (AllReadyH.cons (o := { dst := none, op := Op.store 24 (Operand.tmp 12) (Operand.tmp 28), type := 0, pos := "law.go:234", after := #[{ on := 9, ground := Ground.data }, { on := 8, ground := Ground.data }, { on := 7, ground := Ground.chain }, { on := 0, ground := Ground.phase }, { on := 1, ground := Ground.phase }, { on := 2, ground := Ground.phase }, { on := 3, ground := Ground.phase }, { on := 4, ground := Ground.phase }, { on := 5, ground := Ground.phase }, { on := 6, ground := Ground.phase }, { on := 7, ground := Ground.phase }, { on := 8, ground := Ground.phase }, { on := 9, ground := Ground.phase }], guard := none }) rfl (fun K hK => ?_) AllReadyH.nil)
        rw [if_pos (by rfl)]
        have hc0 := hX7.c0
        have hc1 := hX7.c1
        have hf0 := hX7.fr 0
        have hf1 := hX7.fr 1
        go_simp
        clear hc0 hc1 hf0 hf1
        obtain ⟨F, hF⟩ : ∃ z, (W7.setCell ⟨b9, 0, none⟩ (.int .i64 V)).setCell ⟨b9, 1, none⟩ (.slice r7 nm c7) = z := ⟨_, rfl⟩
        have hZ := zb_store hR7 HNM.out.2 hX7 hl9 (hG7) hF
        rw [hF]
        clear hF
        refine hK.out _ _ (HS2.out _ hZ.2.2.2) (fun hHeld => ?_)
        clear hK K
        try simp only [Act.put, List.setIfInBounds_toArray, List.set_cons_zero, List.set_cons_succ]
        refine wpAnyH_done (by kernel_rfl) ?_ _
        have hEND := hZ.2.2.2
        clear hHeld
        simp only [onlyN]
        go_wp2_with fail
        go_meet
        exact ⟨b9, r7, c7, rfl, hZ.1, hZ.2.1, hZ.2.2.1, hZ.2.2.2⟩
    · rw [if_pos (by rfl)]
      go_simp
      have hs9 : w2.grownBy ((World.alloc w2 (.cells #[.int .i64 0, .slice none 0 0] 24)).drew) none := (World.grownBy_alloc w2 (.cells #[.int .i64 0, .slice none 0 0] 24) none).trans (grown_drew _ none)
      have hX9 := (ZB.new w2).off (grown_drew _ none) (by simp)
      obtain ⟨W9, hW9⟩ : ∃ z, (World.alloc w2 (.cells #[.int .i64 0, .slice none 0 0] 24)).drew = z := ⟨_, rfl⟩
      obtain ⟨b9, hb9⟩ : ∃ z, w2.heap.size = z := ⟨_, rfl⟩
      have hl9 : w2.heap.size ≤ b9 := by rw [← hb9]; exact Nat.le_refl _
      rw [hW9] at hs9 hX9 ⊢
      try rw [hb9] at hX9
      try rw [hb9]
      have hG9 : w2.grownBy W9 none := hs9
      refine hK.out _ _ (HS2.out _ hG9) (fun hHeld => ?_)
      clear hW9 hb9
      clear hK K
      try simp only [Act.put, List.setIfInBounds_toArray, List.set_cons_zero, List.set_cons_succ]
      refine wpAnyH_ready (rs := [2]) (by kernel_rfl) (by simp) ?_
      refine (AllReadyH.cons (o := { dst := some 22, op := Op.buildSlice 22 0 #[], type := 22, pos := "law.go:234", after := #[], guard := none }) rfl (fun K hK => ?_) AllReadyH.nil)
      rw [if_pos (by rfl)]
      go_simp
      have hs2 : W9.grownBy (World.alloc W9 (.cells #[] 25)) none := World.grownBy_alloc W9 (.cells #[] 25) none
      have hR2 := OR.start w2 W9 (B := BB) (by rw [← HBB.out]; exact (hG9).size)
      have hX9n := hX9.off hs2 (by simp)
      obtain ⟨W2, hW2⟩ : ∃ z, World.alloc W9 (.cells #[] 25) = z := ⟨_, rfl⟩
      obtain ⟨b2, hb2⟩ : ∃ z, W9.heap.size = z := ⟨_, rfl⟩
      have hl2 : w2.heap.size ≤ b2 := by rw [← hb2]; exact (hG9).size
      rw [hW2] at hs2 hR2 hX9n ⊢
      rw [hb2] at hR2 ⊢
      have hG2 : w2.grownBy W2 none := World.grownBy.trans (hG9) hs2
      refine hK.out _ _ (HS2.out _ hG2) (fun hHeld => ?_)
      clear hW2 hb2
      clear hK K
      try simp only [Act.put, List.setIfInBounds_toArray, List.set_cons_zero, List.set_cons_succ]
      refine wpAnyH_ready (rs := [5]) (by kernel_rfl) (by simp) ?_
      refine (AllReadyH.cons (o := { dst := some 25, op := Op.call { callee := Callee.builtin Builtin.append, args := #[Operand.tmp 22, Operand.tmp 24], argTypes := #[22, 22] }, type := 22, pos := "law.go:234", after := #[{ on := 2, ground := Ground.data }, { on := 4, ground := Ground.data }], guard := none }) rfl (fun K hK => ?_) AllReadyH.nil)
      rw [if_pos (by rfl)]
      refine wp_app22 (.tmp 22) (.tmp 24) rfl (w0 := w2) BB (hG2) (Nat.le_of_eq HBB.out) _ _ 0 [] C ca cc cn rfl rfl hR2 rfl HC2.out.1 HC2.out.2 HBIG.out.1 (by rw [← HBB.out]; exact (hG2).size) cn (Nat.zero_add _) (fun r5 c5 W5 hR5 hgr5 hG5 => ?_)
      have hX5 := hX9n.off hgr5 (OR.ne hR2 hX9n)
      refine hK.out _ _ (HS2.out _ hG5) (fun hHeld => ?_)
      clear hK K
      try simp only [Act.put, List.setIfInBounds_toArray, List.set_cons_zero, List.set_cons_succ]
      refine wpAnyH_ready (rs := [7]) (by kernel_rfl) (by simp) ?_
      refine (AllReadyH.cons (o := { dst := some 27, op := Op.call { callee := Callee.builtin Builtin.append, args := #[Operand.tmp 25, Operand.tmp 26], argTypes := #[22, 22] }, type := 22, pos := "law.go:234", after := #[{ on := 5, ground := Ground.data }, { on := 6, ground := Ground.data }, { on := 5, ground := Ground.chain }], guard := none }) rfl (fun K hK => ?_) AllReadyH.nil)
      rw [if_pos (by rfl)]
      refine wp_app22 (.tmp 25) (.tmp 26) rfl (w0 := w2) BB (hG5) (Nat.le_of_eq HBB.out) _ _ cn C M ma mc mn rfl rfl hR5 HC2.out.2 HM2.out.1 HM2.out.2 HBIG.out.2 (by rw [← HBB.out]; exact (hG5).size) nm HNM.out.1 (fun r7 c7 W7 hR7 hgr7 hG7 => ?_)
      have hX7 := hX5.off hgr7 (OR.ne hR5 hX5)
      refine hK.out _ _ (HS2.out _ hG7) (fun hHeld => ?_)
      clear hK K
      try simp only [Act.put, List.setIfInBounds_toArray, List.set_cons_zero, List.set_cons_succ]
      refine wpAnyH_take (i := 8) (oi := { dst := some 28, op := Op.build 24 #[(0, Operand.tmp 21), (1, Operand.tmp 27)], type := 24, pos := "law.go:234", after := #[{ on := 1, ground := Ground.data }, { on := 7, ground := Ground.data }], guard := none }) (v := ?_) rfl (by kernel_rfl) (by kernel_rfl) (by kernel_rfl) (fun _ _ _ h => h) (Or.inl ⟨by rfl, ?_⟩) (by assumption) ?_
      rotate_left 1
      · (intro W hSW; (try dsimp only at hSW); first | (go_simp; done) | (go_simp; with_reducible rfl))
      try simp only [Act.put, List.setIfInBounds_toArray, List.set_cons_zero, List.set_cons_succ]
      refine wpAnyH_ready (rs := [10]) (by kernel_rfl) (by simp) ?_
      refine (AllReadyH.cons (o := { dst := none, op := Op.store 24 (Operand.tmp 12) (Operand.tmp 28), type := 0, pos := "law.go:234", after := #[{ on := 9, ground := Ground.data }, { on := 8, ground := Ground.data }, { on := 7, ground := Ground.chain }, { on := 0, ground := Ground.phase }, { on := 1, ground := Ground.phase }, { on := 2, ground := Ground.phase }, { on := 3, ground := Ground.phase }, { on := 4, ground := Ground.phase }, { on := 5, ground := Ground.phase }, { on := 6, ground := Ground.phase }, { on := 7, ground := Ground.phase }, { on := 8, ground := Ground.phase }, { on := 9, ground := Ground.phase }], guard := none }) rfl (fun K hK => ?_) AllReadyH.nil)
      rw [if_pos (by rfl)]
      have hc0 := hX7.c0
      have hc1 := hX7.c1
      have hf0 := hX7.fr 0
      have hf1 := hX7.fr 1
      go_simp
      clear hc0 hc1 hf0 hf1
      obtain ⟨F, hF⟩ : ∃ z, (W7.setCell ⟨b9, 0, none⟩ (.int .i64 V)).setCell ⟨b9, 1, none⟩ (.slice r7 nm c7) = z := ⟨_, rfl⟩
      have hZ := zb_store hR7 HNM.out.2 hX7 hl9 (hG7) hF
      rw [hF]
      clear hF
      refine hK.out _ _ (HS2.out _ hZ.2.2.2) (fun hHeld => ?_)
      clear hK K
      try simp only [Act.put, List.setIfInBounds_toArray, List.set_cons_zero, List.set_cons_succ]
      refine wpAnyH_done (by kernel_rfl) ?_ _
      have hEND := hZ.2.2.2
      clear hHeld
      simp only [onlyN]
      go_wp2_with fail
      go_meet
      exact ⟨b9, r7, c7, rfl, hZ.1, hZ.2.1, hZ.2.2.1, hZ.2.2.2⟩
  case rest =>
    obtain ⟨bw, ra, rc, rfl, hw0, hw1, hcw, hg3⟩ := hcut
    have q0 := hg3.cell HQ2.out.1 (by simp)
    have q1 := hg3.cell HQ2.out.2 (by simp)
    have G3 := Lib.hid (World.grownBy.trans G2.out hg3)
    have HCW := Lib.hid (And.intro hcw HNM.out.2)
    clear hg3 hcw
    have HS := small_calls V C ca cc wc (HC.out.1.grown G3.out)
    rw [HC.out.2] at HS
    replace HS := Lib.hid HS
    go_wp2_with fail
    refine HS.out.mono ?_
    rintro e w4 ⟨rfl, hg⟩
    replace q0 := hg.cell q0 (by simp)
    replace q1 := hg.cell q1 (by simp)
    replace hw0 := hg.cell hw0 (by simp)
    replace hw1 := hg.cell hw1 (by simp)
    have G4 := Lib.hid (World.grownBy.trans G3.out hg)
    replace HCW := Lib.hid (And.intro (HCW.out.1.grown hg) HCW.out.2)
    clear hg HS
    obtain ⟨sb, hsb⟩ : ∃ z, smallB V C = z := ⟨_, rfl⟩
    rw [hsb]
    cases sb
    case false =>
      go_wp2_with fail
      go_ret
      exact ⟨rfl, World.grownBy.trans HG1.out G4.out⟩
    have HS := small_calls V (C ++ M) ra rc w4 HCW.out.1
    rw [HCW.out.2] at HS
    replace HS := Lib.hid HS
    go_wp2_with fail
    refine HS.out.mono ?_
    rintro e w5 ⟨rfl, hg⟩
    replace q0 := hg.cell q0 (by simp)
    replace q1 := hg.cell q1 (by simp)
    replace hw0 := hg.cell hw0 (by simp)
    replace hw1 := hg.cell hw1 (by simp)
    have G5 := Lib.hid (World.grownBy.trans G4.out hg)
    replace HCW := Lib.hid (And.intro (HCW.out.1.grown hg) HCW.out.2)
    clear hg HS
    obtain ⟨sb2, hsb2⟩ : ∃ z, smallB V (C ++ M) = z := ⟨_, rfl⟩
    rw [hsb2]
    cases sb2
    case false =>
      go_wp2_with fail
      go_ret
      exact ⟨rfl, World.grownBy.trans HG1.out G5.out⟩
    obtain ⟨v, rfl, hv, hC40, hC12, hR⟩ := small_true hsb
    obtain ⟨v2, hv2, _, hD40, hD12, hR2⟩ := small_true hsb2
    obtain rfl : v = v2 := by omega
    have HSM := Lib.hid (And.intro hC40 (And.intro hC12 hR))
    have HSD := Lib.hid (And.intro hD40 (And.intro hD12 hR2))
    clear hC40 hC12 hR hsb hD40 hD12 hR2 hsb2 hv2
    have HF := fits_calls (v : Int) ca cn cc A aa ac w5 (HA.out.1.grown G5.out) (by omega)
    rw [HA.out.2] at HF
    replace HF := Lib.hid HF
    go_wp2_with fail
    refine HF.out.mono ?_
    rintro e w6 ⟨rfl, hg⟩
    replace q0 := hg.cell q0 (by simp)
    replace q1 := hg.cell q1 (by simp)
    replace hw0 := hg.cell hw0 (by simp)
    replace hw1 := hg.cell hw1 (by simp)
    have G6 := Lib.hid (World.grownBy.trans G5.out hg)
    replace HCW := Lib.hid (And.intro (HCW.out.1.grown hg) HCW.out.2)
    clear hg HF
    obtain ⟨fb, hfb⟩ : ∃ z, fitsB (v : Int) A = z := ⟨_, rfl⟩
    rw [hfb]
    cases fb
    case false =>
      go_wp2_with fail
      go_ret
      exact ⟨rfl, World.grownBy.trans HG1.out G6.out⟩
    have FA := Lib.hid (fits_true hfb)
    have an12 : an ≤ 12 := by rw [← HA.out.2]; exact FA.out.1
    clear hfb
    have HF := fits_calls (v : Int) ca cn cc X xa xc w6 (HX.out.1.grown G6.out) (by omega)
    rw [HX.out.2] at HF
    replace HF := Lib.hid HF
    go_wp2_with fail
    refine HF.out.mono ?_
    rintro e w7 ⟨rfl, hg⟩
    replace q0 := hg.cell q0 (by simp)
    replace q1 := hg.cell q1 (by simp)
    replace hw0 := hg.cell hw0 (by simp)
    replace hw1 := hg.cell hw1 (by simp)
    have G7 := Lib.hid (World.grownBy.trans G6.out hg)
    replace HCW := Lib.hid (And.intro (HCW.out.1.grown hg) HCW.out.2)
    clear hg HF
    obtain ⟨fb, hfb⟩ : ∃ z, fitsB (v : Int) X = z := ⟨_, rfl⟩
    rw [hfb]
    cases fb
    case false =>
      go_wp2_with fail
      go_ret
      exact ⟨rfl, World.grownBy.trans HG1.out G7.out⟩
    have FX := Lib.hid (fits_true hfb)
    have xn12 : xn ≤ 12 := by rw [← HX.out.2]; exact FX.out.1
    clear hfb
    have HF := fits_calls (v : Int) ca cn cc B ba bc w7 (HB.out.1.grown G7.out) (by omega)
    rw [HB.out.2] at HF
    replace HF := Lib.hid HF
    go_wp2_with fail
    refine HF.out.mono ?_
    rintro e w8 ⟨rfl, hg⟩
    replace q0 := hg.cell q0 (by simp)
    replace q1 := hg.cell q1 (by simp)
    replace hw0 := hg.cell hw0 (by simp)
    replace hw1 := hg.cell hw1 (by simp)
    have G8 := Lib.hid (World.grownBy.trans G7.out hg)
    replace HCW := Lib.hid (And.intro (HCW.out.1.grown hg) HCW.out.2)
    clear hg HF
    obtain ⟨fb, hfb⟩ : ∃ z, fitsB (v : Int) B = z := ⟨_, rfl⟩
    rw [hfb]
    cases fb
    case false =>
      go_wp2_with fail
      go_ret
      exact ⟨rfl, World.grownBy.trans HG1.out G8.out⟩
    have FB := Lib.hid (fits_true hfb)
    have bn12 : bn ≤ 12 := by rw [← HB.out.2]; exact FB.out.1
    clear hfb
    obtain ⟨L2, hL2⟩ : ∃ L, B ++ X = L := ⟨_, rfl⟩
    obtain ⟨l2, hl2⟩ : ∃ n, bn + xn = n := ⟨_, rfl⟩
    have hL2l : L2.length = l2 := by rw [← hL2, List.length_append, HB.out.2, HX.out.2, hl2]
    have HL2 := Lib.hid (And.intro hL2 (And.intro hl2 hL2l))
    have HQ8 := Lib.hid (And.intro q0 (And.intro q1 (And.intro hw0 hw1)))
    obtain ⟨d, hd⟩ : ∃ d : Bool, (d = true ↔ (contraP (negL B) = true ∨ Conf C (negL B))) := by
      by_cases h : (contraP (negL B) = true ∨ Conf C (negL B))
      · exact ⟨true, fun _ => h, fun _ => rfl⟩
      · exact ⟨false, fun e => (by cases e), fun e => absurd e h⟩
    have HI1 : Hid (∀ W, w8.grownBy W none → Calls Try.prog 20 #[.agg #[.int .i64 (v : Int), .slice ca cn cc], .slice ba bn bc] W fun e w' => e = .returned (.bool d) ∧ W.grownBy w' none) := Lib.hid (fun W hW => by
      have h1 := implies_calls v C ca cc B ba bc W (HC.out.1.grown (World.grownBy.trans G8.out hW)) (by omega) (by have := HSM.out.1; omega) (fun c hc => by have := HSM.out.2.1 c hc; omega) HSM.out.2.2 (HB.out.1.grown (World.grownBy.trans G8.out hW)) (by have := FB.out.1; omega) FB.out.2
      rw [HC.out.2, HB.out.2] at h1
      refine h1.mono ?_
      rintro e w' ⟨⟨b, rfl, hb⟩, hg⟩
      exact ⟨by rw [show b = d from by rw [Bool.eq_iff_iff, hb, hd]], hg⟩)
    have HI2 : Hid (d = true → ∀ W a c, w8.grownBy W none → IntsW W a c L2 → Calls Try.prog 20 #[.agg #[.int .i64 (v : Int), .slice ra nm rc], .slice a l2 c] W fun e w' => e = .returned (.bool true) ∧ W.grownBy w' none) := Lib.hid (fun hdt W a c hW hi => by
      have h1 := implies_calls v (C ++ M) ra rc L2 a c W (HCW.out.1.grown hW) (by omega) (by have := HSD.out.1; omega) (fun c hc => by have := HSD.out.2.1 c hc; omega) HSD.out.2.2 hi (by rw [hL2l]; omega) (fun x hx => by rw [← hL2] at hx; exact (List.mem_append.1 hx).elim (FB.out.2 x) (FX.out.2 x))
      rw [HCW.out.2, hL2l] at h1
      refine h1.mono ?_
      rintro e w' ⟨⟨b, rfl, hb⟩, hg⟩
      exact ⟨by rw [show b = true from hb.2 (implies_more (fun c hc => List.mem_append_left _ hc) (fun x hx => by rw [← hL2]; exact List.mem_append_left _ hx) (hd.1 hdt))], hg⟩)
    clear hd hL2 hl2 hL2l
    go_wp2_with fail
    go_cut [68] from 56 to 68 (fun s68 wx => s68 = .bool false ∧ w8.grownBy wx none)
    case first =>
      have HS8 := Lib.hid (fun (Wh : World) (hWh : w8.grownBy Wh none) => (⟨hWh, hWh.cell HQ8.out.1 (by simp), hWh.cell HQ8.out.2.1 (by simp), hWh.cell HQ8.out.2.2.1 (by simp), hWh.cell HQ8.out.2.2.2 (by simp)⟩ : (fun Wh : World => w8.grownBy Wh none ∧ Wh.cell? ⟨bf, 0, none⟩ = some (.int .i64 (v : Int)) ∧ Wh.cell? ⟨bf, 1, none⟩ = some (.slice ca cn cc) ∧ Wh.cell? ⟨bw, 0, none⟩ = some (.int .i64 (v : Int)) ∧ Wh.cell? ⟨bw, 1, none⟩ = some (.slice ra nm rc)) Wh))
      cases d with
      | false =>
        refine wp_onlyN ?_
        have hdr : w8.grownBy w8.drew none := grown_drew w8 none
        refine wp_region_held_drew (S := (fun Wh : World => w8.grownBy Wh none ∧ Wh.cell? ⟨bf, 0, none⟩ = some (.int .i64 (v : Int)) ∧ Wh.cell? ⟨bf, 1, none⟩ = some (.slice ca cn cc) ∧ Wh.cell? ⟨bw, 0, none⟩ = some (.int .i64 (v : Int)) ∧ Wh.cell? ⟨bw, 1, none⟩ = some (.slice ra nm rc))) (by kernel_rfl) (HS8.out _ hdr) (fun hHeld => ?_)
        refine wpAnyH_take (i := 0) (oi := { dst := some 56, op := Op.load 24 (Operand.tmp 5), type := 24, pos := "law.go:238", after := #[], guard := none }) (v := ?_) rfl (by kernel_rfl) (by kernel_rfl) (by kernel_rfl) (fun _ _ _ h => h) (Or.inl ⟨by rfl, ?_⟩) (by assumption) ?_
        rotate_left 1
        · (intro W hSW; (try dsimp only at hSW); first | (go_simp; done) | (go_simp; with_reducible rfl))
        try simp only [Act.put, List.setIfInBounds_toArray, List.set_cons_zero, List.set_cons_succ]
        refine wpAnyH_take (i := 1) (oi := { dst := some 57, op := Op.move (Operand.tmp 4), type := 25, pos := "law.go:238", after := #[], guard := none }) (v := ?_) rfl (by kernel_rfl) (by kernel_rfl) (by kernel_rfl) (fun _ _ _ h => h) (Or.inl ⟨by rfl, ?_⟩) (by assumption) ?_
        rotate_left 1
        · (intro W hSW; (try dsimp only at hSW); first | (go_simp; done) | (go_simp; with_reducible rfl))
        try simp only [Act.put, List.setIfInBounds_toArray, List.set_cons_zero, List.set_cons_succ]
        refine wpAnyH_ready (rs := [2]) (by kernel_rfl) (by simp) ?_
        refine (AllReadyH.cons (o := { dst := some 58, op := Op.call { callee := Callee.value (Operand.func 20), args := #[Operand.tmp 56, Operand.tmp 57], argTypes := #[24, 25] }, type := 4, pos := "law.go:238", after := #[{ on := 0, ground := Ground.data }, { on := 1, ground := Ground.data }], guard := none }) rfl (fun K hK => ?_) AllReadyH.nil)
        rw [if_pos (by rfl)]
        go_simp
        go_at_call 20
        refine (HI1.out _ (hdr)).mono ?_
        rintro e wc1 ⟨rfl, gc1⟩
        have hgr1 := World.grownBy.trans hdr gc1
        go_wp2_with fail
        refine hK.out _ _ (HS8.out _ hgr1) (fun hHeld => ?_)
        clear hK K
        try simp only [Act.put, List.setIfInBounds_toArray, List.set_cons_zero, List.set_cons_succ]
        refine wpAnyH_take (i := 3) (oi := { dst := some 59, op := Op.move (Operand.tmp 58), type := 4, pos := "law.go:238", after := #[{ on := 2, ground := Ground.data }, { on := 2, ground := Ground.chain }], guard := none }) (v := ?_) rfl (by kernel_rfl) (by kernel_rfl) (by kernel_rfl) (fun _ _ _ h => h) (Or.inl ⟨by rfl, ?_⟩) (by assumption) ?_
        rotate_left 1
        · (intro W hSW; (try dsimp only at hSW); first | (go_simp; done) | (go_simp; with_reducible rfl))
        try simp only [Act.put, List.setIfInBounds_toArray, List.set_cons_zero, List.set_cons_succ]
        refine wpAnyH_take (i := 4) (oi := { dst := some 60, op := Op.load 24 (Operand.tmp 12), type := 24, pos := "law.go:238", after := #[{ on := 3, ground := Ground.guard }], guard := some (3, true) }) (v := undef) rfl (by kernel_rfl) (by kernel_rfl) (by kernel_rfl) (fun _ _ _ h => h) (Or.inr ⟨by rfl, rfl⟩) (by assumption) ?_
        try simp only [Act.put, List.setIfInBounds_toArray, List.set_cons_zero, List.set_cons_succ]
        refine wpAnyH_take (i := 5) (oi := { dst := some 61, op := Op.buildSlice 25 0 #[], type := 25, pos := "law.go:238", after := #[{ on := 3, ground := Ground.guard }], guard := some (3, true) }) (v := undef) rfl (by kernel_rfl) (by kernel_rfl) (by kernel_rfl) (fun _ _ _ h => h) (Or.inr ⟨by rfl, rfl⟩) (by assumption) ?_
        try simp only [Act.put, List.setIfInBounds_toArray, List.set_cons_zero, List.set_cons_succ]
        refine wpAnyH_take (i := 6) (oi := { dst := some 62, op := Op.move (Operand.tmp 4), type := 25, pos := "law.go:238", after := #[{ on := 3, ground := Ground.guard }], guard := some (3, true) }) (v := undef) rfl (by kernel_rfl) (by kernel_rfl) (by kernel_rfl) (fun _ _ _ h => h) (Or.inr ⟨by rfl, rfl⟩) (by assumption) ?_
        try simp only [Act.put, List.setIfInBounds_toArray, List.set_cons_zero, List.set_cons_succ]
        refine wpAnyH_take (i := 7) (oi := { dst := some 63, op := Op.call { callee := Callee.builtin Builtin.append, args := #[Operand.tmp 61, Operand.tmp 62], argTypes := #[25, 25] }, type := 25, pos := "law.go:238", after := #[{ on := 5, ground := Ground.data }, { on := 6, ground := Ground.data }, { on := 3, ground := Ground.chain }, { on := 3, ground := Ground.guard }], guard := some (3, true) }) (v := undef) rfl (by kernel_rfl) (by kernel_rfl) (by kernel_rfl) (fun _ _ _ h => h) (Or.inr ⟨by rfl, rfl⟩) (by assumption) ?_
        try simp only [Act.put, List.setIfInBounds_toArray, List.set_cons_zero, List.set_cons_succ]
        refine wpAnyH_take (i := 8) (oi := { dst := some 64, op := Op.move (Operand.tmp 3), type := 25, pos := "law.go:238", after := #[{ on := 3, ground := Ground.guard }], guard := some (3, true) }) (v := undef) rfl (by kernel_rfl) (by kernel_rfl) (by kernel_rfl) (fun _ _ _ h => h) (Or.inr ⟨by rfl, rfl⟩) (by assumption) ?_
        try simp only [Act.put, List.setIfInBounds_toArray, List.set_cons_zero, List.set_cons_succ]
        refine wpAnyH_take (i := 9) (oi := { dst := some 65, op := Op.call { callee := Callee.builtin Builtin.append, args := #[Operand.tmp 63, Operand.tmp 64], argTypes := #[25, 25] }, type := 25, pos := "law.go:238", after := #[{ on := 7, ground := Ground.data }, { on := 8, ground := Ground.data }, { on := 7, ground := Ground.chain }, { on := 3, ground := Ground.guard }], guard := some (3, true) }) (v := undef) rfl (by kernel_rfl) (by kernel_rfl) (by kernel_rfl) (fun _ _ _ h => h) (Or.inr ⟨by rfl, rfl⟩) (by assumption) ?_
        try simp only [Act.put, List.setIfInBounds_toArray, List.set_cons_zero, List.set_cons_succ]
        refine wpAnyH_take (i := 10) (oi := { dst := some 66, op := Op.call { callee := Callee.value (Operand.func 20), args := #[Operand.tmp 60, Operand.tmp 65], argTypes := #[24, 25] }, type := 4, pos := "law.go:238", after := #[{ on := 4, ground := Ground.data }, { on := 9, ground := Ground.data }, { on := 9, ground := Ground.chain }, { on := 3, ground := Ground.guard }], guard := some (3, true) }) (v := undef) rfl (by kernel_rfl) (by kernel_rfl) (by kernel_rfl) (fun _ _ _ h => h) (Or.inr ⟨by rfl, rfl⟩) (by assumption) ?_
        try simp only [Act.put, List.setIfInBounds_toArray, List.set_cons_zero, List.set_cons_succ]
        refine wpAnyH_take (i := 11) (oi := { dst := some 67, op := Op.unOp UnOp.not 4 (Operand.tmp 66), type := 4, pos := "law.go:238", after := #[{ on := 10, ground := Ground.data }, { on := 3, ground := Ground.guard }], guard := some (3, true) }) (v := undef) rfl (by kernel_rfl) (by kernel_rfl) (by kernel_rfl) (fun _ _ _ h => h) (Or.inr ⟨by rfl, rfl⟩) (by assumption) ?_
        try simp only [Act.put, List.setIfInBounds_toArray, List.set_cons_zero, List.set_cons_succ]
        refine wpAnyH_take (i := 12) (oi := { dst := some 68, op := Op.pick (Operand.tmp 59) (Operand.tmp 67) (Operand.const (Value.bool false)), type := 4, pos := "law.go:238", after := #[{ on := 3, ground := Ground.data }, { on := 11, ground := Ground.data }], guard := none }) (v := ?_) rfl (by kernel_rfl) (by kernel_rfl) (by kernel_rfl) (fun _ _ _ h => h) (Or.inl ⟨by rfl, ?_⟩) (by assumption) ?_
        rotate_left 1
        · (intro W hSW; (try dsimp only at hSW); first | (go_simp; done) | (go_simp; with_reducible rfl))
        try simp only [Act.put, List.setIfInBounds_toArray, List.set_cons_zero, List.set_cons_succ]
        refine wpAnyH_done (by kernel_rfl) ?_ _
        have hEND := hgr1
        clear hHeld
        simp only [onlyN]
        go_wp2_with fail
        go_meet
        exact ⟨rfl, hEND⟩
      | true =>
        replace HI2 := Lib.hid (HI2.out rfl)
        refine wp_onlyN ?_
        have hdr : w8.grownBy w8.drew none := grown_drew w8 none
        refine wp_region_held_drew (S := (fun Wh : World => w8.grownBy Wh none ∧ Wh.cell? ⟨bf, 0, none⟩ = some (.int .i64 (v : Int)) ∧ Wh.cell? ⟨bf, 1, none⟩ = some (.slice ca cn cc) ∧ Wh.cell? ⟨bw, 0, none⟩ = some (.int .i64 (v : Int)) ∧ Wh.cell? ⟨bw, 1, none⟩ = some (.slice ra nm rc))) (by kernel_rfl) (HS8.out _ hdr) (fun hHeld => ?_)
        refine wpAnyH_take (i := 0) (oi := { dst := some 56, op := Op.load 24 (Operand.tmp 5), type := 24, pos := "law.go:238", after := #[], guard := none }) (v := ?_) rfl (by kernel_rfl) (by kernel_rfl) (by kernel_rfl) (fun _ _ _ h => h) (Or.inl ⟨by rfl, ?_⟩) (by assumption) ?_
        rotate_left 1
        · (intro W hSW; (try dsimp only at hSW); first | (go_simp; done) | (go_simp; with_reducible rfl))
        try simp only [Act.put, List.setIfInBounds_toArray, List.set_cons_zero, List.set_cons_succ]
        refine wpAnyH_take (i := 1) (oi := { dst := some 57, op := Op.move (Operand.tmp 4), type := 25, pos := "law.go:238", after := #[], guard := none }) (v := ?_) rfl (by kernel_rfl) (by kernel_rfl) (by kernel_rfl) (fun _ _ _ h => h) (Or.inl ⟨by rfl, ?_⟩) (by assumption) ?_
        rotate_left 1
        · (intro W hSW; (try dsimp only at hSW); first | (go_simp; done) | (go_simp; with_reducible rfl))
        try simp only [Act.put, List.setIfInBounds_toArray, List.set_cons_zero, List.set_cons_succ]
        refine wpAnyH_ready (rs := [2]) (by kernel_rfl) (by simp) ?_
        refine (AllReadyH.cons (o := { dst := some 58, op := Op.call { callee := Callee.value (Operand.func 20), args := #[Operand.tmp 56, Operand.tmp 57], argTypes := #[24, 25] }, type := 4, pos := "law.go:238", after := #[{ on := 0, ground := Ground.data }, { on := 1, ground := Ground.data }], guard := none }) rfl (fun K hK => ?_) AllReadyH.nil)
        rw [if_pos (by rfl)]
        go_simp
        go_at_call 20
        refine (HI1.out _ (hdr)).mono ?_
        rintro e wc1 ⟨rfl, gc1⟩
        have hgr1 := World.grownBy.trans hdr gc1
        go_wp2_with fail
        refine hK.out _ _ (HS8.out _ hgr1) (fun hHeld => ?_)
        clear hK K
        try simp only [Act.put, List.setIfInBounds_toArray, List.set_cons_zero, List.set_cons_succ]
        refine wpAnyH_take (i := 3) (oi := { dst := some 59, op := Op.move (Operand.tmp 58), type := 4, pos := "law.go:238", after := #[{ on := 2, ground := Ground.data }, { on := 2, ground := Ground.chain }], guard := none }) (v := ?_) rfl (by kernel_rfl) (by kernel_rfl) (by kernel_rfl) (fun _ _ _ h => h) (Or.inl ⟨by rfl, ?_⟩) (by assumption) ?_
        rotate_left 1
        · (intro W hSW; (try dsimp only at hSW); first | (go_simp; done) | (go_simp; with_reducible rfl))
        try simp only [Act.put, List.setIfInBounds_toArray, List.set_cons_zero, List.set_cons_succ]
        refine wpAnyH_take (i := 4) (oi := { dst := some 60, op := Op.load 24 (Operand.tmp 12), type := 24, pos := "law.go:238", after := #[{ on := 3, ground := Ground.guard }], guard := some (3, true) }) (v := ?_) rfl (by kernel_rfl) (by kernel_rfl) (by kernel_rfl) (fun _ _ _ h => h) (Or.inl ⟨by rfl, ?_⟩) (by assumption) ?_
        rotate_left 1
        · (intro W hSW; (try dsimp only at hSW); first | (go_simp; done) | (go_simp; with_reducible rfl))
        try simp only [Act.put, List.setIfInBounds_toArray, List.set_cons_zero, List.set_cons_succ]
        refine wpAnyH_take (i := 6) (oi := { dst := some 62, op := Op.move (Operand.tmp 4), type := 25, pos := "law.go:238", after := #[{ on := 3, ground := Ground.guard }], guard := some (3, true) }) (v := ?_) rfl (by kernel_rfl) (by kernel_rfl) (by kernel_rfl) (fun _ _ _ h => h) (Or.inl ⟨by rfl, ?_⟩) (by assumption) ?_
        rotate_left 1
        · (intro W hSW; (try dsimp only at hSW); first | (go_simp; done) | (go_simp; with_reducible rfl))
        try simp only [Act.put, List.setIfInBounds_toArray, List.set_cons_zero, List.set_cons_succ]
        refine wpAnyH_take (i := 8) (oi := { dst := some 64, op := Op.move (Operand.tmp 3), type := 25, pos := "law.go:238", after := #[{ on := 3, ground := Ground.guard }], guard := some (3, true) }) (v := ?_) rfl (by kernel_rfl) (by kernel_rfl) (by kernel_rfl) (fun _ _ _ h => h) (Or.inl ⟨by rfl, ?_⟩) (by assumption) ?_
        rotate_left 1
        · (intro W hSW; (try dsimp only at hSW); first | (go_simp; done) | (go_simp; with_reducible rfl))
        try simp only [Act.put, List.setIfInBounds_toArray, List.set_cons_zero, List.set_cons_succ]
        refine wpAnyH_ready (rs := [5]) (by kernel_rfl) (by simp) ?_
        refine (AllReadyH.cons (o := { dst := some 61, op := Op.buildSlice 25 0 #[], type := 25, pos := "law.go:238", after := #[{ on := 3, ground := Ground.guard }], guard := some (3, true) }) rfl (fun K hK => ?_) AllReadyH.nil)
        rw [if_pos (by rfl)]
        go_simp
        have hO5 := own_empty (wc1)
        have hs5 := World.grownBy_alloc (wc1) (.cells #[] 3) none
        obtain ⟨W5, hW5⟩ : ∃ z, World.alloc (wc1) (.cells #[] 3) = z := ⟨_, rfl⟩
        obtain ⟨b5, hb5⟩ : ∃ z, (wc1).heap.size = z := ⟨_, rfl⟩
        rw [hW5] at hO5 hs5 ⊢
        rw [hb5] at hO5
        try rw [hb5]
        have hG5 : w8.grownBy W5 none := World.grownBy.trans (hgr1) hs5
        have hl5 : w8.heap.size ≤ b5 := by rw [← hb5]; exact (hgr1).size
        have hz5 : b5 ≤ W5.heap.size := by rw [← hb5]; exact hs5.size
        refine hK.out _ _ (HS8.out _ hG5) (fun hHeld => ?_)
        clear hW5 hb5
        clear hK K
        try simp only [Act.put, List.setIfInBounds_toArray, List.set_cons_zero, List.set_cons_succ]
        refine wpAnyH_ready (rs := [7]) (by kernel_rfl) (by simp) ?_
        refine (AllReadyH.cons (o := { dst := some 63, op := Op.call { callee := Callee.builtin Builtin.append, args := #[Operand.tmp 61, Operand.tmp 62], argTypes := #[25, 25] }, type := 25, pos := "law.go:238", after := #[{ on := 5, ground := Ground.data }, { on := 6, ground := Ground.data }, { on := 3, ground := Ground.chain }, { on := 3, ground := Ground.guard }], guard := some (3, true) }) rfl (fun K hK => ?_) AllReadyH.nil)
        rw [if_pos (by rfl)]
        refine wp_appI (.tmp 61) (.tmp 62) rfl b5 (some ⟨b5, 0, none⟩) 0 0 [] B ba bc bn rfl rfl hO5 (HB.out.1.grown (World.grownBy.trans G8.out hG5)) HB.out.2 (by omega) hz5 B rfl bn (Nat.zero_add _) (fun r7 c7 W7 hO7 hg7 => ?_)
        have hG7 : w8.grownBy W7 none := grown_own hG5 hg7 (fun r e => Nat.le_trans hl5 (own_low hO5 r e))
        have hz7 : b5 ≤ W7.heap.size := Nat.le_trans hz5 hg7.size
        refine hK.out _ _ (HS8.out _ hG7) (fun hHeld => ?_)
        clear hK K
        try simp only [Act.put, List.setIfInBounds_toArray, List.set_cons_zero, List.set_cons_succ]
        refine wpAnyH_ready (rs := [9]) (by kernel_rfl) (by simp) ?_
        refine (AllReadyH.cons (o := { dst := some 65, op := Op.call { callee := Callee.builtin Builtin.append, args := #[Operand.tmp 63, Operand.tmp 64], argTypes := #[25, 25] }, type := 25, pos := "law.go:238", after := #[{ on := 7, ground := Ground.data }, { on := 8, ground := Ground.data }, { on := 7, ground := Ground.chain }, { on := 3, ground := Ground.guard }], guard := some (3, true) }) rfl (fun K hK => ?_) AllReadyH.nil)
        rw [if_pos (by rfl)]
        refine wp_appI (.tmp 63) (.tmp 64) rfl b5 r7 c7 bn B X xa xc xn rfl rfl hO7 (HX.out.1.grown (World.grownBy.trans G8.out hG7)) HX.out.2 (by omega) hz7 L2 HL2.out.1 l2 HL2.out.2.1 (fun r9 c9 W9 hO9 hg9 => ?_)
        have hG9 : w8.grownBy W9 none := grown_own hG7 hg9 (fun r e => Nat.le_trans hl5 (own_low hO7 r e))
        have hz9 : b5 ≤ W9.heap.size := Nat.le_trans hz7 hg9.size
        refine hK.out _ _ (HS8.out _ hG9) (fun hHeld => ?_)
        clear hK K
        try simp only [Act.put, List.setIfInBounds_toArray, List.set_cons_zero, List.set_cons_succ]
        refine wpAnyH_ready (rs := [10]) (by kernel_rfl) (by simp) ?_
        refine (AllReadyH.cons (o := { dst := some 66, op := Op.call { callee := Callee.value (Operand.func 20), args := #[Operand.tmp 60, Operand.tmp 65], argTypes := #[24, 25] }, type := 4, pos := "law.go:238", after := #[{ on := 4, ground := Ground.data }, { on := 9, ground := Ground.data }, { on := 9, ground := Ground.chain }, { on := 3, ground := Ground.guard }], guard := some (3, true) }) rfl (fun K hK => ?_) AllReadyH.nil)
        rw [if_pos (by rfl)]
        go_simp
        go_at_call 20
        refine (HI2.out _ _ _ (hG9) (own_ints hO9).2).mono ?_
        rintro e wc5 ⟨rfl, gc5⟩
        have hgr5 := World.grownBy.trans hG9 gc5
        go_wp2_with fail
        refine hK.out _ _ (HS8.out _ hgr5) (fun hHeld => ?_)
        clear hK K
        try simp only [Act.put, List.setIfInBounds_toArray, List.set_cons_zero, List.set_cons_succ]
        refine wpAnyH_take (i := 11) (oi := { dst := some 67, op := Op.unOp UnOp.not 4 (Operand.tmp 66), type := 4, pos := "law.go:238", after := #[{ on := 10, ground := Ground.data }, { on := 3, ground := Ground.guard }], guard := some (3, true) }) (v := ?_) rfl (by kernel_rfl) (by kernel_rfl) (by kernel_rfl) (fun _ _ _ h => h) (Or.inl ⟨by rfl, ?_⟩) (by assumption) ?_
        rotate_left 1
        · (intro W hSW; (try dsimp only at hSW); first | (go_simp; done) | (go_simp; with_reducible rfl))
        try simp only [Act.put, List.setIfInBounds_toArray, List.set_cons_zero, List.set_cons_succ]
        refine wpAnyH_take (i := 12) (oi := { dst := some 68, op := Op.pick (Operand.tmp 59) (Operand.tmp 67) (Operand.const (Value.bool false)), type := 4, pos := "law.go:238", after := #[{ on := 3, ground := Ground.data }, { on := 11, ground := Ground.data }], guard := none }) (v := ?_) rfl (by kernel_rfl) (by kernel_rfl) (by kernel_rfl) (fun _ _ _ h => h) (Or.inl ⟨by rfl, ?_⟩) (by assumption) ?_
        rotate_left 1
        · (intro W hSW; (try dsimp only at hSW); first | (go_simp; done) | (go_simp; with_reducible rfl))
        try simp only [Act.put, List.setIfInBounds_toArray, List.set_cons_zero, List.set_cons_succ]
        refine wpAnyH_done (by kernel_rfl) ?_ _
        have hEND := hgr5
        clear hHeld
        simp only [onlyN]
        go_wp2_with fail
        go_meet
        exact ⟨rfl, hEND⟩
    case rest =>
      obtain ⟨rfl, hg9⟩ := hcut
      have q0 := hg9.cell HQ8.out.1 (by simp)
      have q1 := hg9.cell HQ8.out.2.1 (by simp)
      have hw0 := hg9.cell HQ8.out.2.2.1 (by simp)
      have hw1 := hg9.cell HQ8.out.2.2.2 (by simp)
      have G9 := Lib.hid (World.grownBy.trans G8.out hg9)
      replace HCW := Lib.hid (And.intro (HCW.out.1.grown hg9) HCW.out.2)
      obtain ⟨AL, hAL⟩ : ∃ L, A ++ X = L := ⟨_, rfl⟩
      obtain ⟨al, hal⟩ : ∃ n, an + xn = n := ⟨_, rfl⟩
      have hALl : AL.length = al := by rw [← hAL, List.length_append, HA.out.2, HX.out.2, hal]
      have HALR : Hid (∀ x ∈ AL, InR v x) := Lib.hid (fun x hx => by rw [← hAL] at hx; exact (List.mem_append.1 hx).elim (FA.out.2 x) (FX.out.2 x))
      have HAL := Lib.hid (And.intro hAL (And.intro hal hALl))
      have hown0 := own_empty wc
      have hg5 := World.grownBy_alloc wc (.cells #[] 3) none
      obtain ⟨W5, hW5⟩ : ∃ z, wc.alloc (.cells #[] 3) = z := ⟨_, rfl⟩
      obtain ⟨b5, hb5⟩ : ∃ z, wc.heap.size = z := ⟨_, rfl⟩
      rw [hW5] at hown0 hg5
      rw [hb5] at hown0
      have HO := Lib.hid (And.intro hown0 (And.intro hg5 hb5))
      have HQ9 := Lib.hid (And.intro q0 (And.intro q1 (And.intro hw0 hw1)))
      have hal24 : al ≤ 24 := by omega
      clear hown0 hg5 hg9 hAL hal hALl q0 q1 hw0 hw1 HI1 HI2
      go_wp2_with (at_builtin; refine wpList_appI rfl _ _ rfl b5 (some ⟨b5, 0, none⟩) 0 0 [] A aa ac an rfl rfl HO.out.1 (HA.out.1.grown (World.grownBy.trans G9.out HO.out.2.1)) HA.out.2 (by omega) (by rw [← HO.out.2.2]; exact HO.out.2.1.size) A rfl an (Nat.zero_add _) ?_)
      intro r6 c6 w6 hown6 hg6
      have HO6 := Lib.hid (And.intro hown6 (grown_own HO.out.2.1 hg6 (fun r e => by cases e; rw [HO.out.2.2]; exact Nat.le_refl _)))
      clear hown6 hg6 hW5 hb5
      go_wp2_with (at_builtin; refine wpList_appI rfl _ _ rfl b5 r6 c6 an A X xa xc xn rfl rfl HO6.out.1 (HX.out.1.grown (World.grownBy.trans G9.out HO6.out.2)) HX.out.2 (by omega) (by rw [← HO.out.2.2]; exact HO6.out.2.size) AL HAL.out.1 al HAL.out.2.1 ?_)
      intro r7 c7 w7 hown7 hg7
      have hg97 := grown_own HO6.out.2 hg7 (fun r e => by have := own_low HO6.out.1 r e; rw [HO.out.2.2]; exact this)
      have HALI := Lib.hid (own_ints hown7).2
      have G7 := Lib.hid (World.grownBy.trans G9.out hg97)
      replace HCW := Lib.hid (And.intro (HCW.out.1.grown hg97) HCW.out.2)
      have q0 := hg97.cell HQ9.out.1 (by simp)
      have q1 := hg97.cell HQ9.out.2.1 (by simp)
      have hw0 := hg97.cell HQ9.out.2.2.1 (by simp)
      have hw1 := hg97.cell HQ9.out.2.2.2 (by simp)
      clear hown7 hg7 hg97
      have hp := propagate_calls v C ca cc A aa ac w7 (HC.out.1.grown G7.out) (by omega) (by have := HSM.out.1; omega) (fun c hc => by have := HSM.out.2.1 c hc; omega) HSM.out.2.2 (HA.out.1.grown G7.out) (by have := FA.out.1; omega) FA.out.2
      rw [HC.out.2, HA.out.2] at hp
      have HP := Lib.hid hp
      clear hp
      go_wp2_with fail
      refine HP.out.mono ?_
      rintro e w8' ⟨la, lc, rfl, hl, hg⟩
      replace q0 := hg.cell q0 (by simp)
      replace q1 := hg.cell q1 (by simp)
      replace hw0 := hg.cell hw0 (by simp)
      replace hw1 := hg.cell hw1 (by simp)
      replace HCW := Lib.hid (And.intro (HCW.out.1.grown hg) HCW.out.2)
      replace HALI := Lib.hid (HALI.out.grown hg)
      have HLA := Lib.hid hl
      have G8' := Lib.hid (World.grownBy.trans G7.out hg)
      clear hg hl HP
      obtain ⟨ln, hln⟩ : ∃ z, (impP v C A).length = z := ⟨_, rfl⟩
      obtain ⟨kf, hkf⟩ : ∃ z, cfP v C A = z := ⟨_, rfl⟩
      rw [hln, hkf]
      have HLN := Lib.hid (And.intro hln hkf)
      have hlv : ln ≤ v := by rw [← hln]; exact imp_le HSM.out.2.2 A
      clear hln hkf
      have hp := propagate_calls v (C ++ M) ra rc AL r7 c7 w8' HCW.out.1 (by omega) (by have := HSD.out.1; omega) (fun c hc => by have := HSD.out.2.1 c hc; omega) HSD.out.2.2 HALI.out (by rw [HAL.out.2.2]; omega) HALR.out
      rw [HCW.out.2, HAL.out.2.2] at hp
      have HP := Lib.hid hp
      clear hp
      go_wp2_with fail
      refine HP.out.mono ?_
      rintro e w9' ⟨ea, ec, rfl, hl, hg⟩
      replace HALI := Lib.hid (HALI.out.grown hg)
      replace HLA := Lib.hid (HLA.out.grown hg)
      have HEA := Lib.hid hl
      have G9' := Lib.hid (World.grownBy.trans G8'.out hg)
      clear hg hl HP q0 q1 hw0 hw1
      obtain ⟨en, hen⟩ : ∃ z, (impP v (C ++ M) AL).length = z := ⟨_, rfl⟩
      obtain ⟨kg, hkg⟩ : ∃ z, cfP v (C ++ M) AL = z := ⟨_, rfl⟩
      rw [hen, hkg]
      have HEN := Lib.hid (And.intro hen hkg)
      have hev : en ≤ v := by rw [← hen]; exact imp_le HSD.out.2.2 AL
      clear hen hkg
      have hk := contradictory_calls AL r7 c7 w9' HALI.out (by rw [HAL.out.2.2]; omega) (fun x hx => by obtain ⟨_, a1, a2⟩ := HALR.out x hx; omega)
      rw [HAL.out.2.2] at hk
      have HKC := Lib.hid hk
      have hmono := mono_all HSM.out.2.2 HSD.out.2.2 (C := C) (D := C ++ M) (fun c hc => List.mem_append_left _ hc) (A := A) (B := AL) (fun x hx => by rw [← HAL.out.1]; exact List.mem_append_left _ hx)
      rw [HLN.out.2, HEN.out.2] at hmono
      have HMO := Lib.hid hmono
      clear hk hmono
      go_wp2_with fail
      refine HKC.out.mono ?_
      rintro e wx ⟨rfl, hwx⟩
      rw [hwx]
      clear hwx wx HKC
      cases hcb : contraP AL
      case true =>
        have e1 := HMO.out.1 hcb
        subst e1
        clear hcb
        go_wp2_with fail
        go_ret
        exact ⟨rfl, World.grownBy.trans HG1.out G9'.out⟩
      case false =>
        by_cases hi : 0 ≤ kf
        · have e1 := HMO.out.2.1 hcb hi
          have c1 : decide (0 ≤ kf) = true := decide_eq_true hi
          have c2 : decide (0 ≤ kg) = true := decide_eq_true e1
          clear hcb hi e1
          go_wp2_with fail
          go_ret
          exact ⟨rfl, World.grownBy.trans HG1.out G9'.out⟩
        · have c1 : decide (0 ≤ kf) = false := decide_eq_false hi
          have hor := HMO.out.2.2 hcb (by omega)
          by_cases hk0 : 0 ≤ kg
          · have c2 : decide (0 ≤ kg) = true := decide_eq_true hk0
            clear hcb hi hk0 hor
            go_wp2_with fail
            go_ret
            exact ⟨rfl, World.grownBy.trans HG1.out G9'.out⟩
          · have c2 : decide (0 ≤ kg) = false := decide_eq_false hk0
            have HIN := Lib.hid (hor.resolve_left hk0)
            obtain ⟨LL, hLL⟩ : ∃ L, impP v (C ++ M) AL ++ AL = L := ⟨_, rfl⟩
            obtain ⟨ll, hll⟩ : ∃ n, en + al = n := ⟨_, rfl⟩
            have HLL := Lib.hid (And.intro hLL (And.intro hll (show LL.length = ll from by rw [← hLL, List.length_append, HEN.out.1, HAL.out.2.2, hll])))
            have hown0 := own_empty w9'
            have hg5 := World.grownBy_alloc w9' (.cells #[] 3) none
            obtain ⟨Wq, hWq⟩ : ∃ z, w9'.alloc (.cells #[] 3) = z := ⟨_, rfl⟩
            obtain ⟨bq, hbq⟩ : ∃ z, w9'.heap.size = z := ⟨_, rfl⟩
            rw [hWq] at hown0 hg5
            rw [hbq] at hown0
            have HOQ := Lib.hid (And.intro hown0 (And.intro hg5 hbq))
            clear hown0 hg5 hcb hi hk0 hor hLL hll
            go_wp2_with (at_builtin; refine wpList_appIw (by rfl) _ _ rfl bq (some ⟨bq, 0, none⟩) 0 0 [] (impP v (C ++ M) AL) ea ec en rfl rfl HOQ.out.1 (HEA.out.grown HOQ.out.2.1) HEN.out.1 (by omega) (by rw [← HOQ.out.2.2]; exact HOQ.out.2.1.size) (impP v (C ++ M) AL) rfl en (Nat.zero_add _) ?_)
            intro r8 c8 wr8 hown8 hg8
            have HO8 := Lib.hid (And.intro hown8 (grown_own HOQ.out.2.1 hg8 (fun r e => by cases e; rw [HOQ.out.2.2]; exact Nat.le_refl _)))
            clear hown8 hg8 hWq hbq
            go_wp2_with (at_builtin; refine wpList_appIw (by rfl) _ _ rfl bq r8 c8 en (impP v (C ++ M) AL) AL r7 c7 al rfl rfl HO8.out.1 (HALI.out.grown HO8.out.2) HAL.out.2.2 (by omega) (by rw [← HOQ.out.2.2]; exact HO8.out.2.size) LL HLL.out.1 ll HLL.out.2.1 ?_)
            intro r9 c9 wr9 hown9 hg9
            have hg99 := grown_own HO8.out.2 hg9 (fun r e => by have := own_low HO8.out.1 r e; rw [HOQ.out.2.2]; exact this)
            have hin := in_calls (impP v C A) LL la r9 lc c9 wr9 (HLA.out.grown hg99) (own_ints hown9).2 (by rw [HLN.out.1]; omega) (by rw [HLL.out.2.2]; have := HLL.out.2.1; omega)
            rw [HLN.out.1, HLL.out.2.2, decide_eq_true (by rw [← HLL.out.1]; exact HIN.out)] at hin
            have HINC := Lib.hid hin
            have HEND := Lib.hid (World.grownBy.trans G9'.out hg99)
            clear hin hown9 hg9 hg99
            go_wp2_with fail
            refine HINC.out.mono ?_
            rintro e wx ⟨rfl, hwx⟩
            rw [hwx]
            clear hwx wx HINC
            go_wp2_with fail
            go_ret
            exact ⟨rfl, World.grownBy.trans HG1.out HEND.out⟩
end Go.Proofs.Ythkemajekkilmaa
