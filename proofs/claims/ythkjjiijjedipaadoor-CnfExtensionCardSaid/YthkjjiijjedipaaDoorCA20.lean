/- CnfExtension and CnfSize are proved: for every input, each law returns true and leaves its arguments as they were; the condition is that three package variables of Go's own packages math/bits and strconv hold what their initialisers lay, which the given tie ties to the text of the pruned copy of the program. -/
import Derived.BigQuiet
import Derived.Deep.RegionHeld3
import Derived.Deep.DeepCutAuto
import Derived.Test.YthkjjiijjedipaaDoorCA19
import Derived.Test.YthkjjiijjedipaaDoorCA11
namespace Go.Proofs.YthkjjiijjedipaaDoor
open Go.RowKit
set_option maxRecDepth 100000
set_option maxHeartbeats 16000000 in
theorem size_calls (l : List Stp) (sa : Option Addr) (sc : Nat) (n1 n2 : Nat) (w : World) (htab : Tab w) (h : StpsW w sa sc l) (hs : ∀ s ∈ l, StpOk s) (h1 : n1 < 256) (h2 : n2 < 256) :
    Calls Tryd.prog 6 #[.slice sa l.length sc, .int .u8 (n1 : Int), .int .u8 (n2 : Int)] w fun e w' => e = .returned (.bool true) ∧ w.grownBy w' none := by
  obtain ⟨N, hN⟩ : ∃ N, l.length = N := ⟨_, rfl⟩
  have HS := Lib.hid (And.intro h hs)
  have HT := Lib.hid htab
  have HN := Lib.hid hN
  rw [hN]
  clear h hs hN htab
  by_cases h60 : 30 < N
  · have f1 : decide ((30 : Int) < (N : Int)) = true := decide_eq_true (by omega)
    have f2 : decide (30 < N) = true := decide_eq_true h60
    go_enter Tryd.func6, Tryd.ntmps6
    go_wp2_with fail
    refine (head_calls _ HT.out).mono ?_
    rintro e V1 ⟨rfl, g⟩
    go_wp2_with fail
    go_ret
    exact ⟨rfl, g⟩
  have f1 : decide ((30 : Int) < (N : Int)) = false := decide_eq_false (by omega)
  have f2 : decide (30 < N) = false := decide_eq_false h60
  obtain ⟨p, hp⟩ : ∃ p, buildC l = p := ⟨_, rfl⟩
  obtain ⟨g0, refs⟩ := p
  have HB := Lib.hid (show Built (g0, refs) N by have := built l (by rw [HN.out]; omega); rw [hp, HN.out] at this; exact this)
  have HI8 := Lib.hid (show In8 g0 from by have := in8_build l; rw [hp] at this; exact this)
  have HP := Lib.hid hp
  clear hp
  have HG := Lib.hid (grown_refl w none)
  have HGD := Lib.hid (show Good g0 from HB.out.good)
  have HL := Lib.hid (show g0.length ≤ 91 from by have := HB.out.len; simp only at this; omega)
  have HRL := Lib.hid (show refs.length = N from HB.out.refs)
  have HRO := Lib.hid (show ∀ r ∈ refs, Ok g0 r from HB.out.ok)
  go_enter Tryd.func6, Tryd.ntmps6
  go_wp2_with fail
  refine (head_calls _ HT.out).mono ?_
  rintro e V1 ⟨rfl, g⟩
  replace HG := Lib.hid (World.grownBy.trans HG.out g)
  clear g
  go_wp2_with fail
  clear f1 f2
  have HBC := Lib.hid (rbuild_calls l sa sc V1 HP.out (HS.out.1.grown HG.out) (by rw [HN.out]; omega) HS.out.2)
  rw [HN.out] at HBC
  refine HBC.out.mono ?_
  rintro e V2 ⟨ac, cc, ra, rc, rfl, hr, hri, g⟩
  have HRI := Lib.hid hri
  replace HG := Lib.hid (World.grownBy.trans HG.out g)
  clear g
  clear hri HBC
  obtain ⟨gl, hgl⟩ : ∃ n, g0.length = n := ⟨_, rfl⟩
  have HGL := Lib.hid hgl
  rw [hgl]
  obtain ⟨p2, Z2, X2, hp2, hZ2, hz0, hz1, hX2, hx2, hcb, g⟩ := boxC hgl hr (grown_refl V2 none)
  have HCB := Lib.hid hcb
  clear hcb hgl hr hx2
  have HRI := Lib.hid (HRI.out.grown g)
  replace HG := Lib.hid (World.grownBy.trans HG.out g)
  clear g
  go_wp2_with fail
  clear hX2 hZ2 hp2 hz0 hz1
  have HPC := Lib.hid (pick_calls refs n1 ra rc X2 HRI.out (by rw [HRL.out]; omega) h1 (ok_le (by have := HL.out; omega) HRO.out))
  obtain ⟨r, hr⟩ : ∃ x, pickL refs n1 = x := ⟨_, rfl⟩
  rw [hr] at HPC
  have OR := Lib.hid (show Ok g0 r from by rw [← hr]; exact pick_ok HGD.out.pos HRO.out n1)
  clear hr HRI
  refine (HPC.out).mono ?_
  rintro e w9 ⟨rfl, hw9⟩
  rw [hw9]
  clear hw9 w9
  clear HPC
  go_wp2_with fail
  have HIN := Lib.hid (inputs_calls n2 h2 X2)
  obtain ⟨m, hm⟩ : ∃ m, 8 + n2 % 4 = m := ⟨_, rfl⟩
  rw [hm] at HIN
  have HM : Hid (8 ≤ m ∧ m ≤ 11) := Lib.hid (by omega)
  clear hm
  refine (HIN.out).mono ?_
  rintro e w9 ⟨rfl, hw9⟩
  rw [hw9]
  clear hw9 w9
  clear HIN
  obtain ⟨p, hp⟩ : ∃ p, tseP g0 r m = p := ⟨_, rfl⟩
  obtain ⟨V, Lc⟩ := p
  have HE := Lib.hid (And.intro hp (tse_facts HGD.out HI8.out HL.out HM.out.1 HM.out.2 OR.out hp))
  clear hp
  obtain ⟨nc, hnc⟩ : ∃ n, Lc.length = n := ⟨_, rfl⟩
  have HNC := Lib.hid hnc
  clear hnc
  have q0 := (by have h := HCB.out.1; rw [HGL.out] at h; exact h)
  go_wp2_with fail
  clear q0
  have HCC := Lib.hid (tse_calls HE.out.1 ac cc X2 HCB.out.2.2 HGD.out (by have := HL.out; omega) OR.out (by have := HM.out; omega))
  rw [HGL.out, HNC.out] at HCC
  refine HCC.out.mono ?_
  rintro e V3 ⟨fa, fc, rfl, hcl, g⟩
  clear HCC
  obtain ⟨pf, Zf, Xf, hpf, hZf, hz0, hz1, hz2, hz3, hXf, hf0, hf1, hcl, g⟩ := boxF (w0 := X2) (v := (V : Int)) (n := nc) hcl g
  have HFB : Hid (CF Xf pf (V : Int) fa nc fc Lc) := Lib.hid ⟨hf0, hf1, hcl⟩
  clear hcl hf0 hf1
  replace HCB := Lib.hid (HCB.out.grown g)
  replace HG := Lib.hid (World.grownBy.trans HG.out g)
  clear g
  have q0 := (by have h := HCB.out.1; rw [HGL.out] at h; exact h)
  go_upto_region 8 with fail
  clear q0
  clear hXf hZf hpf hz0 hz1 hz2 hz3
  obtain ⟨pp, hpp⟩ : ∃ p, tseP g0 (notR r) m = p := ⟨_, rfl⟩
  obtain ⟨Vb, Lb⟩ := pp
  have ON : Hid (Ok g0 (notR r)) := Lib.hid (notR_ok OR.out)
  have HE2 := Lib.hid (And.intro hpp (tse_facts HGD.out HI8.out HL.out HM.out.1 HM.out.2 ON.out hpp))
  clear hpp
  obtain ⟨nb, hnb⟩ : ∃ n, Lb.length = n := ⟨_, rfl⟩
  have HNB := Lib.hid hnb
  clear hnb
  have HRB := Lib.hid (show r ≤ 9223372036854775807 from by have := OR.out.2; have := HL.out; omega)
  have HSP := Lib.hid (fun (W : World) (hW : Xf.grownBy W none) => (by
    have h := tse_span HE2.out.1 ac cc W (HCB.out.grown hW).2.2 HGD.out (by have := HL.out; omega) ON.out (by have := HM.out; omega)
    rw [HGL.out, HNB.out] at h
    exact h : Calls Tryd.prog 12 #[.agg #[.slice ac gl cc], .int .i64 (notR r), .int .i64 (m : Int)] W fun x w2 => ∃ a2 c2, x = .returned (cnfV (Vb : Int) a2 nb c2) ∧ Span W.heap.size w2.heap.size w2 (fun W => ClsW W a2 c2 Lb) ∧ W.grownBy w2 none))
  go_cut [13] (fun s0 wx => ∃ b a c, s0 = .pointer (some ⟨b, 0, none⟩) ∧ CF wx b (Vb : Int) a nb c Lb ∧ Xf.grownBy wx none)
  case first =>
    have HS := Lib.hid (fun (Wh : World) (hWh : Xf.grownBy Wh none) => (⟨hWh, hWh.cell (show Xf.cell? ⟨p2, 0, none⟩ = some (.slice ac gl cc) from by have h := HCB.out.1; rw [HGL.out] at h; exact h) (by simp)⟩ : (fun Wh : World => Xf.grownBy Wh none ∧ Wh.cell? ⟨p2, 0, none⟩ = some (.slice ac gl cc)) Wh))
    have hdr : Xf.grownBy Xf.drew none := ⟨rfl, rfl, rfl, Nat.le_refl _, fun _ _ _ => rfl⟩
    refine wp_region_held_drew (S := (fun Wh : World => Xf.grownBy Wh none ∧ Wh.cell? ⟨p2, 0, none⟩ = some (.slice ac gl cc))) (by kernel_rfl) (HS.out _ hdr) (fun hHeld => ?_)
    refine wpAnyH_take (i := 0) (oi := { dst := some 35, op := Op.load 27 (Operand.tmp 8), type := 27, pos := "law.go:154", after := #[], guard := none }) (v := ?_) rfl (by kernel_rfl) (by kernel_rfl) (by kernel_rfl) (fun _ _ _ h => h) (Or.inl ⟨by rfl, ?_⟩) (by assumption) ?_
    rotate_left 1
    · (intro W hSW; (try dsimp only at hSW); first | (go_simp; done) | (go_simp; with_reducible rfl))
    try simp only [Act.put, List.setIfInBounds_toArray, List.set_cons_zero, List.set_cons_succ]
    refine wpAnyH_take (i := 1) (oi := { dst := some 36, op := Op.move (Operand.tmp 10), type := 3, pos := "law.go:154", after := #[], guard := none }) (v := ?_) rfl (by kernel_rfl) (by kernel_rfl) (by kernel_rfl) (fun _ _ _ h => h) (Or.inl ⟨by rfl, ?_⟩) (by assumption) ?_
    rotate_left 1
    · (intro W hSW; (try dsimp only at hSW); first | (go_simp; done) | (go_simp; with_reducible rfl))
    try simp only [Act.put, List.setIfInBounds_toArray, List.set_cons_zero, List.set_cons_succ]
    refine wpAnyH_take (i := 3) (oi := { dst := some 38, op := Op.move (Operand.tmp 11), type := 3, pos := "law.go:154", after := #[], guard := none }) (v := ?_) rfl (by kernel_rfl) (by kernel_rfl) (by kernel_rfl) (fun _ _ _ h => h) (Or.inl ⟨by rfl, ?_⟩) (by assumption) ?_
    rotate_left 1
    · (intro W hSW; (try dsimp only at hSW); first | (go_simp; done) | (go_simp; with_reducible rfl))
    try simp only [Act.put, List.setIfInBounds_toArray, List.set_cons_zero, List.set_cons_succ]
    refine wpAnyH_ready (rs := [2, 5]) (by kernel_rfl) (by simp) ?_
    refine (AllReadyH.cons (o := { dst := some 37, op := Op.call { callee := Callee.value (Operand.func 18), args := #[Operand.tmp 36], argTypes := #[3] }, type := 3, pos := "law.go:154", after := #[{ on := 1, ground := Ground.data }], guard := none }) rfl (fun K hK => ?_) (AllReadyH.cons (o := { dst := some 13, op := Op.alloc 35, type := 0, pos := "law.go:154", after := #[], guard := none }) rfl (fun K hK => ?_) AllReadyH.nil))
    · rw [if_pos (by rfl)]
      go_simp
      go_at_call 18
      refine (rnot_at r HRB.out).mono ?_
      rintro e w9 ⟨rfl, hw9⟩
      rw [hw9]
      clear hw9 w9
      go_wp2_with fail
      refine hK.out _ _ (HS.out _ hdr) (fun hHeld => ?_)
      clear hK K
      try simp only [Act.put, List.setIfInBounds_toArray, List.set_cons_zero, List.set_cons_succ]
      refine wpAnyH_ready (rs := [4, 5]) (by kernel_rfl) (by simp) ?_
      refine (AllReadyH.cons (o := { dst := some 39, op := Op.call { callee := Callee.value (Operand.func 12), args := #[Operand.tmp 35, Operand.tmp 37, Operand.tmp 38], argTypes := #[27, 3, 3] }, type := 35, pos := "law.go:154", after := #[{ on := 0, ground := Ground.data }, { on := 2, ground := Ground.data }, { on := 3, ground := Ground.data }, { on := 2, ground := Ground.chain }], guard := none }) rfl (fun K hK => ?_) (AllReadyH.cons (o := { dst := some 13, op := Op.alloc 35, type := 0, pos := "law.go:154", after := #[], guard := none }) rfl (fun K hK => ?_) AllReadyH.nil))
      · rw [if_pos (by rfl)]
        go_simp
        go_at_call 12
        refine (HSP.out _ hdr).mono ?_
        rintro e wM ⟨aM, cM, rfl, hsp, gM⟩
        have hgM := World.grownBy.trans hdr gM
        go_wp2_with fail
        refine hK.out _ _ (HS.out _ hgM) (fun hHeld => ?_)
        clear hK K
        try simp only [Act.put, List.setIfInBounds_toArray, List.set_cons_zero, List.set_cons_succ]
        refine wpAnyH_ready (rs := [5]) (by kernel_rfl) (by simp) ?_
        refine (AllReadyH.cons (o := { dst := some 13, op := Op.alloc 35, type := 0, pos := "law.go:154", after := #[], guard := none }) rfl (fun K hK => ?_) AllReadyH.nil)
        rw [if_pos (by rfl)]
        go_simp
        have hgA : Xf.grownBy (World.alloc wM (.cells #[.int .i64 0, .slice none 0 0] 35)) none := World.grownBy.trans hgM (World.grownBy_alloc wM (.cells #[.int .i64 0, .slice none 0 0] 35) none)
        have hz : BoxF (World.alloc wM (.cells #[.int .i64 0, .slice none 0 0] 35)) (wM.heap.size) := BoxF.new wM
        have hge0 : Xf.heap.size ≤ wM.heap.size := World.grownBy.size hgM
        have hge : ∀ p, wM.heap.size = p → Xf.heap.size ≤ p := fun p e => by rw [← e]; exact hge0
        clear hge0
        replace hsp := hsp.grown (World.grownBy_alloc wM (.cells #[.int .i64 0, .slice none 0 0] 35) none)
        have hle : ∀ p, wM.heap.size = p → wM.heap.size ≤ p := fun p e => Nat.le_of_eq e
        obtain ⟨WA, hWA⟩ : ∃ z, World.alloc wM (.cells #[.int .i64 0, .slice none 0 0] 35) = z := ⟨_, rfl⟩
        rw [hWA] at hgA hz ⊢
        rw [hWA] at hsp
        clear hWA
        obtain ⟨pA, hpA⟩ : ∃ p, wM.heap.size = p := ⟨_, rfl⟩
        replace hge := hge pA hpA
        replace hle := hle pA hpA
        rw [hpA] at hz ⊢
        clear hpA
        refine hK.out _ _ (HS.out _ hgA) (fun hHeld => ?_)
        clear hK K
        try simp only [Act.put, List.setIfInBounds_toArray, List.set_cons_zero, List.set_cons_succ]
        refine wpAnyH_ready (rs := [6]) (by kernel_rfl) (by simp) ?_
        refine (AllReadyH.cons (o := { dst := none, op := Op.store 35 (Operand.tmp 13) (Operand.tmp 39), type := 0, pos := "law.go:154", after := #[{ on := 5, ground := Ground.data }, { on := 4, ground := Ground.data }, { on := 4, ground := Ground.chain }, { on := 0, ground := Ground.phase }, { on := 1, ground := Ground.phase }, { on := 2, ground := Ground.phase }, { on := 3, ground := Ground.phase }, { on := 4, ground := Ground.phase }, { on := 5, ground := Ground.phase }], guard := none }) rfl (fun K hK => ?_) AllReadyH.nil)
        rw [if_pos (by rfl)]
        have z0 := hz.1
        have z1 := hz.2.1
        have zf := hz.2.2.1
        have zg := hz.2.2.2
        go_simp
        clear z0 z1 zf zg
        have hcb := CF.put (x := (Vb : Int)) (n := nb) hz hsp (.inr hle)
        have hgS := set2_low hgA hge (.int .i64 (Vb : Int)) (.slice aM nb cM)
        obtain ⟨WS, hWS⟩ : ∃ z, World.setCell (World.setCell WA ⟨pA, 0, none⟩ (.int .i64 (Vb : Int))) ⟨pA, 1, none⟩ (.slice aM nb cM) = z := ⟨_, rfl⟩
        rw [hWS] at hcb hgS ⊢
        clear hWS
        refine hK.out _ _ (HS.out _ hgS) (fun hHeld => ?_)
        clear hK K
        try simp only [Act.put, List.setIfInBounds_toArray, List.set_cons_zero, List.set_cons_succ]
        refine wpAnyH_done (by kernel_rfl) ?_ _
        have hEND := hgS
        clear hHeld
        go_wp2_with fail
        go_meet
        exact ⟨pA, aM, cM, rfl, hcb, hEND⟩
      · rw [if_pos (by rfl)]
        go_simp
        have hgA : Xf.grownBy ((World.alloc Xf (.cells #[.int .i64 0, .slice none 0 0] 35)).drew) none := World.grownBy.trans (World.grownBy_alloc Xf (.cells #[.int .i64 0, .slice none 0 0] 35) none) (⟨rfl, rfl, rfl, Nat.le_refl _, fun _ _ _ => rfl⟩ : (World.alloc Xf (.cells #[.int .i64 0, .slice none 0 0] 35)).grownBy (World.alloc Xf (.cells #[.int .i64 0, .slice none 0 0] 35)).drew none)
        have hz : BoxF ((World.alloc Xf (.cells #[.int .i64 0, .slice none 0 0] 35)).drew) (Xf.heap.size) := (BoxF.new Xf).grown (⟨rfl, rfl, rfl, Nat.le_refl _, fun _ _ _ => rfl⟩ : (World.alloc Xf (.cells #[.int .i64 0, .slice none 0 0] 35)).grownBy (World.alloc Xf (.cells #[.int .i64 0, .slice none 0 0] 35)).drew none)
        have hge0 : Xf.heap.size ≤ Xf.heap.size := Nat.le_refl _
        have hge : ∀ p, Xf.heap.size = p → Xf.heap.size ≤ p := fun p e => by rw [← e]; exact hge0
        clear hge0
        obtain ⟨WA, hWA⟩ : ∃ z, (World.alloc Xf (.cells #[.int .i64 0, .slice none 0 0] 35)).drew = z := ⟨_, rfl⟩
        rw [hWA] at hgA hz ⊢
        clear hWA
        obtain ⟨pA, hpA⟩ : ∃ p, Xf.heap.size = p := ⟨_, rfl⟩
        replace hge := hge pA hpA
        rw [hpA] at hz ⊢
        clear hpA
        refine hK.out _ _ (HS.out _ hgA) (fun hHeld => ?_)
        clear hK K
        try simp only [Act.put, List.setIfInBounds_toArray, List.set_cons_zero, List.set_cons_succ]
        refine wpAnyH_ready (rs := [4]) (by kernel_rfl) (by simp) ?_
        refine (AllReadyH.cons (o := { dst := some 39, op := Op.call { callee := Callee.value (Operand.func 12), args := #[Operand.tmp 35, Operand.tmp 37, Operand.tmp 38], argTypes := #[27, 3, 3] }, type := 35, pos := "law.go:154", after := #[{ on := 0, ground := Ground.data }, { on := 2, ground := Ground.data }, { on := 3, ground := Ground.data }, { on := 2, ground := Ground.chain }], guard := none }) rfl (fun K hK => ?_) AllReadyH.nil)
        rw [if_pos (by rfl)]
        go_simp
        go_at_call 12
        refine (HSP.out _ hgA).mono ?_
        rintro e wM ⟨aM, cM, rfl, hsp, gM⟩
        have hgM := World.grownBy.trans hgA gM
        have hlt := lies_lt hz.1
        replace hz := hz.grown gM
        go_wp2_with fail
        refine hK.out _ _ (HS.out _ hgM) (fun hHeld => ?_)
        clear hK K
        try simp only [Act.put, List.setIfInBounds_toArray, List.set_cons_zero, List.set_cons_succ]
        refine wpAnyH_ready (rs := [6]) (by kernel_rfl) (by simp) ?_
        refine (AllReadyH.cons (o := { dst := none, op := Op.store 35 (Operand.tmp 13) (Operand.tmp 39), type := 0, pos := "law.go:154", after := #[{ on := 5, ground := Ground.data }, { on := 4, ground := Ground.data }, { on := 4, ground := Ground.chain }, { on := 0, ground := Ground.phase }, { on := 1, ground := Ground.phase }, { on := 2, ground := Ground.phase }, { on := 3, ground := Ground.phase }, { on := 4, ground := Ground.phase }, { on := 5, ground := Ground.phase }], guard := none }) rfl (fun K hK => ?_) AllReadyH.nil)
        rw [if_pos (by rfl)]
        have z0 := hz.1
        have z1 := hz.2.1
        have zf := hz.2.2.1
        have zg := hz.2.2.2
        go_simp
        clear z0 z1 zf zg
        have hcb := CF.put (x := (Vb : Int)) (n := nb) hz hsp (.inl hlt)
        have hgS := set2_low hgM hge (.int .i64 (Vb : Int)) (.slice aM nb cM)
        obtain ⟨WS, hWS⟩ : ∃ z, World.setCell (World.setCell wM ⟨pA, 0, none⟩ (.int .i64 (Vb : Int))) ⟨pA, 1, none⟩ (.slice aM nb cM) = z := ⟨_, rfl⟩
        rw [hWS] at hcb hgS ⊢
        clear hWS
        refine hK.out _ _ (HS.out _ hgS) (fun hHeld => ?_)
        clear hK K
        try simp only [Act.put, List.setIfInBounds_toArray, List.set_cons_zero, List.set_cons_succ]
        refine wpAnyH_done (by kernel_rfl) ?_ _
        have hEND := hgS
        clear hHeld
        go_wp2_with fail
        go_meet
        exact ⟨pA, aM, cM, rfl, hcb, hEND⟩
    · rw [if_pos (by rfl)]
      go_simp
      have hgA : Xf.grownBy ((World.alloc Xf (.cells #[.int .i64 0, .slice none 0 0] 35)).drew) none := World.grownBy.trans (World.grownBy_alloc Xf (.cells #[.int .i64 0, .slice none 0 0] 35) none) (⟨rfl, rfl, rfl, Nat.le_refl _, fun _ _ _ => rfl⟩ : (World.alloc Xf (.cells #[.int .i64 0, .slice none 0 0] 35)).grownBy (World.alloc Xf (.cells #[.int .i64 0, .slice none 0 0] 35)).drew none)
      have hz : BoxF ((World.alloc Xf (.cells #[.int .i64 0, .slice none 0 0] 35)).drew) (Xf.heap.size) := (BoxF.new Xf).grown (⟨rfl, rfl, rfl, Nat.le_refl _, fun _ _ _ => rfl⟩ : (World.alloc Xf (.cells #[.int .i64 0, .slice none 0 0] 35)).grownBy (World.alloc Xf (.cells #[.int .i64 0, .slice none 0 0] 35)).drew none)
      have hge0 : Xf.heap.size ≤ Xf.heap.size := Nat.le_refl _
      have hge : ∀ p, Xf.heap.size = p → Xf.heap.size ≤ p := fun p e => by rw [← e]; exact hge0
      clear hge0
      obtain ⟨WA, hWA⟩ : ∃ z, (World.alloc Xf (.cells #[.int .i64 0, .slice none 0 0] 35)).drew = z := ⟨_, rfl⟩
      rw [hWA] at hgA hz ⊢
      clear hWA
      obtain ⟨pA, hpA⟩ : ∃ p, Xf.heap.size = p := ⟨_, rfl⟩
      replace hge := hge pA hpA
      rw [hpA] at hz ⊢
      clear hpA
      refine hK.out _ _ (HS.out _ hgA) (fun hHeld => ?_)
      clear hK K
      try simp only [Act.put, List.setIfInBounds_toArray, List.set_cons_zero, List.set_cons_succ]
      refine wpAnyH_ready (rs := [2]) (by kernel_rfl) (by simp) ?_
      refine (AllReadyH.cons (o := { dst := some 37, op := Op.call { callee := Callee.value (Operand.func 18), args := #[Operand.tmp 36], argTypes := #[3] }, type := 3, pos := "law.go:154", after := #[{ on := 1, ground := Ground.data }], guard := none }) rfl (fun K hK => ?_) AllReadyH.nil)
      rw [if_pos (by rfl)]
      go_simp
      go_at_call 18
      refine (rnot_at r HRB.out).mono ?_
      rintro e w9 ⟨rfl, hw9⟩
      rw [hw9]
      clear hw9 w9
      go_wp2_with fail
      refine hK.out _ _ (HS.out _ hgA) (fun hHeld => ?_)
      clear hK K
      try simp only [Act.put, List.setIfInBounds_toArray, List.set_cons_zero, List.set_cons_succ]
      refine wpAnyH_ready (rs := [4]) (by kernel_rfl) (by simp) ?_
      refine (AllReadyH.cons (o := { dst := some 39, op := Op.call { callee := Callee.value (Operand.func 12), args := #[Operand.tmp 35, Operand.tmp 37, Operand.tmp 38], argTypes := #[27, 3, 3] }, type := 35, pos := "law.go:154", after := #[{ on := 0, ground := Ground.data }, { on := 2, ground := Ground.data }, { on := 3, ground := Ground.data }, { on := 2, ground := Ground.chain }], guard := none }) rfl (fun K hK => ?_) AllReadyH.nil)
      rw [if_pos (by rfl)]
      go_simp
      go_at_call 12
      refine (HSP.out _ hgA).mono ?_
      rintro e wM ⟨aM, cM, rfl, hsp, gM⟩
      have hgM := World.grownBy.trans hgA gM
      have hlt := lies_lt hz.1
      replace hz := hz.grown gM
      go_wp2_with fail
      refine hK.out _ _ (HS.out _ hgM) (fun hHeld => ?_)
      clear hK K
      try simp only [Act.put, List.setIfInBounds_toArray, List.set_cons_zero, List.set_cons_succ]
      refine wpAnyH_ready (rs := [6]) (by kernel_rfl) (by simp) ?_
      refine (AllReadyH.cons (o := { dst := none, op := Op.store 35 (Operand.tmp 13) (Operand.tmp 39), type := 0, pos := "law.go:154", after := #[{ on := 5, ground := Ground.data }, { on := 4, ground := Ground.data }, { on := 4, ground := Ground.chain }, { on := 0, ground := Ground.phase }, { on := 1, ground := Ground.phase }, { on := 2, ground := Ground.phase }, { on := 3, ground := Ground.phase }, { on := 4, ground := Ground.phase }, { on := 5, ground := Ground.phase }], guard := none }) rfl (fun K hK => ?_) AllReadyH.nil)
      rw [if_pos (by rfl)]
      have z0 := hz.1
      have z1 := hz.2.1
      have zf := hz.2.2.1
      have zg := hz.2.2.2
      go_simp
      clear z0 z1 zf zg
      have hcb := CF.put (x := (Vb : Int)) (n := nb) hz hsp (.inl hlt)
      have hgS := set2_low hgM hge (.int .i64 (Vb : Int)) (.slice aM nb cM)
      obtain ⟨WS, hWS⟩ : ∃ z, World.setCell (World.setCell wM ⟨pA, 0, none⟩ (.int .i64 (Vb : Int))) ⟨pA, 1, none⟩ (.slice aM nb cM) = z := ⟨_, rfl⟩
      rw [hWS] at hcb hgS ⊢
      clear hWS
      refine hK.out _ _ (HS.out _ hgS) (fun hHeld => ?_)
      clear hK K
      try simp only [Act.put, List.setIfInBounds_toArray, List.set_cons_zero, List.set_cons_succ]
      refine wpAnyH_done (by kernel_rfl) ?_ _
      have hEND := hgS
      clear hHeld
      go_wp2_with fail
      go_meet
      exact ⟨pA, aM, cM, rfl, hcb, hEND⟩
  case rest =>
    obtain ⟨pg, ag, cg, rfl, hb, g⟩ := hcut
    obtain ⟨V4, rfl⟩ : ∃ z, z = wc := ⟨_, rfl⟩
    replace HCB := Lib.hid (HCB.out.grown g)
    replace HFB := Lib.hid (HFB.out.grown g)
    replace HG := Lib.hid (World.grownBy.trans HG.out g)
    clear g
    have HFg := Lib.hid hb
    clear hb
    clear HSP
    go_upto_region 9 with fail
    have hO := OR.out
    by_cases hr2 : r < 2
    · have hr01 : r = 0 ∨ r = 1 := by have := hO.1; omega
      have d2 : decide (r < 2) = true := decide_eq_true hr2
      rcases hr01 with h01 | h01
      · have hx1 : tseP g0 r m = (m, []) := by rw [h01]; unfold tseP; rw [if_pos rfl]
        have hx2 : tseP g0 (notR r) m = (m, [[]]) := by rw [h01, show notR 0 = 1 by decide]; unfold tseP; rw [if_neg (by decide), if_pos rfl]
        rw [HE.out.1] at hx1
        rw [HE2.out.1] at hx2
        injection hx1 with hV hL1
        injection hx2 with hV2 hL2
        have hn1 : nc = 0 := by have h := HNC.out; rw [hL1] at h; exact h.symm
        have hn2 : nb = 1 := by have h := HNB.out; rw [hL2] at h; exact h.symm
        subst hV hn1 hn2 h01
        have q0 := HFB.out.1
        have q1 := HFB.out.2.1
        have q2 := HFg.out.1
        have q3 := HFg.out.2.1
        go_wp2_with fail
        clear q0 q1 q2 q3
        go_ret
        exact ⟨rfl, HG.out⟩
      · have hx1 : tseP g0 r m = (m, [[]]) := by rw [h01]; unfold tseP; rw [if_neg (by decide), if_pos rfl]
        have hx2 : tseP g0 (notR r) m = (m, []) := by rw [h01, show notR 1 = 0 by decide]; unfold tseP; rw [if_pos rfl]
        rw [HE.out.1] at hx1
        rw [HE2.out.1] at hx2
        injection hx1 with hV hL1
        injection hx2 with hV2 hL2
        have hn1 : nc = 1 := by have h := HNC.out; rw [hL1] at h; exact h.symm
        have hn2 : nb = 0 := by have h := HNB.out; rw [hL2] at h; exact h.symm
        subst hV hn1 hn2 h01
        have q0 := HFB.out.1
        have q1 := HFB.out.2.1
        have q2 := HFg.out.1
        have q3 := HFg.out.2.1
        go_wp2_with fail
        clear q0 q1 q2 q3
        go_ret
        exact ⟨rfl, HG.out⟩
    have d2 : decide (r < 2) = false := decide_eq_false hr2
    obtain ⟨C, x, hx1, hx2, hC3⟩ := tse_not (gs := g0) (m := m) (show 2 ≤ r by omega)
    have hln := tse_len (m := m) HGD.out OR.out (show 2 ≤ r by omega)
    rw [HE.out.1] at hx1 hln
    rw [HE2.out.1] at hx2
    injection hx1 with hV hL1
    injection hx2 with hV2 hL2
    obtain rfl : Vb = V := by omega
    have HLC := Lib.hid hL1
    have HLB := Lib.hid hL2
    have HC3 := Lib.hid hC3
    have hn1 : nc = C.length + 1 := by have h := HNC.out; rw [hL1, List.length_append] at h; exact h.symm
    have hn2 : nb = C.length + 1 := by have h := HNB.out; rw [hL2, List.length_append] at h; exact h.symm
    obtain rfl : nb = nc := by omega
    simp only at hln
    rw [HNC.out] at hln
    have hnc := hln.1
    have hmV := hln.2
    have hV150 := HE.out.2.top
    have hm8 := HM.out
    have HNL := Lib.hid hn1
    clear hV hV2 hL1 hL2 hC3 hn1 hn2 hln hO hr2
    have e1 : ((nb : Int) != 3 * ((Vb : Int) - (m : Int)) + 1) = false := by
      have : (nb : Int) = 3 * ((Vb : Int) - (m : Int)) + 1 := by omega
      rw [← this]; simp
    have e2 : ((nb : Int) != (nb : Int)) = false := by simp
    have e3 : ((Vb : Int) != (Vb : Int)) = false := by simp
    have HNM := Lib.hid (And.intro hnc (And.intro hmV (And.intro hV150 hm8)))
    have hk1 : nb ≤ 500 := by omega
    clear hnc
    have q0 := HFB.out.1
    have q1 := HFB.out.2.1
    have q2 := HFg.out.1
    have q3 := HFg.out.2.1
    go_wp2_with fail
    clear q0 q1 q2 q3
    clear e1 e2 e3
    clear hmV hV150 hm8
    go_loopg [15] nb (fun gk s15 wr => ∃ j : Nat, s15 = .int .i64 (j : Int) ∧ gk = nb - j ∧ j ≤ nb ∧ V4.grownBy wr none)
    case atStart => exact ⟨0, rfl, rfl, Nat.zero_le _, grown_refl _ _⟩
    case round =>
      obtain ⟨j, rfl, hgk, hjm, hgr⟩ := hrel
      obtain ⟨wo, hwo⟩ : ∃ z, z = wr := ⟨_, rfl⟩
      rw [← hwo] at hgr ⊢
      clear hwo
      have HJ := Lib.hid (And.intro hgk hgr)
      clear hgk hgr
      have HFB := Lib.hid (HFB.out.grown HJ.out.2)
      have HFg := Lib.hid (HFg.out.grown HJ.out.2)
      have q0 := HFB.out.2.1
      have q1 := HFg.out.2.1
      have q2 := HFB.out.1
      have q3 := HFg.out.1
      by_cases hj : j < nb
      · have jB : decide (j < nb) = true := decide_eq_true hj
        have jI : decide ((j : Int) < (nb : Int)) = true := decide_eq_true (by omega)
        have jI2 : (j : Int) < (nb : Int) := by omega
        obtain ⟨z1, hz1⟩ : ∃ z, Lc[j]? = some z := ⟨_, List.getElem?_eq_getElem (by rw [HNC.out]; exact hj)⟩
        obtain ⟨z2, hz2⟩ : ∃ z, Lb[j]? = some z := ⟨_, List.getElem?_eq_getElem (by rw [HNB.out]; exact hj)⟩
        obtain ⟨k1, o1, b1, d1, rfl, c1, i1⟩ := HFB.out.2.2.at hz1
        obtain ⟨k2, o2, b2, d2, rfl, c2, i2⟩ := HFg.out.2.2.at hz2
        have hzf : z1.length ≤ 3 ∧ 1 ≤ z1.length := by
          have h := hz1
          rw [HLC.out] at h
          rcases Nat.lt_or_ge j C.length with h3 | h3
          · rw [List.getElem?_append_left h3] at h
            exact HC3.out z1 (List.mem_of_getElem? h)
          · rw [List.getElem?_append_right h3, show j - C.length = 0 by have := HNL.out; omega] at h
            simp at h
            subst h
            simp
        have hzs : j + 1 < nb → z2 = z1 := fun h => by
          have h3 : j < C.length := by have := HNL.out; omega
          have e1 := hz1
          have e2 := hz2
          rw [HLC.out, List.getElem?_append_left h3] at e1
          rw [HLB.out, List.getElem?_append_left h3, e1] at e2
          exact (Option.some.inj e2).symm
        clear hz1 hz2
        obtain ⟨n1z, hn1z⟩ : ∃ n, z1.length = n := ⟨_, rfl⟩
        rw [hn1z] at c1 hzf
        have HN1 := Lib.hid hn1z
        clear hn1z
        obtain ⟨y1, y2⟩ := hzf
        have d3 : decide (3 < n1z) = false := decide_eq_false (by omega)
        have d4 : decide ((3 : Int) < (n1z : Int)) = false := decide_eq_false (by omega)
        have d5 : ((n1z : Int) == 0) = false := by simp; omega
        by_cases hjl : j + 1 < nb
        · have hzz := hzs hjl
          subst hzz
          rw [HN1.out] at c2
          have HCL : Hid (∀ W : World, wo.grownBy W none → Calls Tryd.prog 19 #[.slice b1 n1z d1, .slice b2 n1z d2] W fun e w2 => e = .returned (.bool true) ∧ ∃ q, w2 = W.drewN q) := Lib.hid (fun W hW => by
            have h := sameInts_calls z2 z2 b1 b2 d1 d2 W (i1.grown hW) (i2.grown hW) (by rw [HN1.out]; omega)
            rw [HN1.out, decide_eq_true rfl] at h
            exact h)
          have hwn : IntKind.i64.wrap ((nb : Int) - 1) = (nb : Int) - 1 := IntWalk.i64_in _ (by omega)
          have l1 : decide (j < nb - 1) = true := decide_eq_true (by omega)
          have l2 : decide ((j : Int) < (nb : Int) - 1) = true := decide_eq_true (by omega)
          clear i1 i2 hzs
          go_wp2_with fail
          go_quiet (exact Calls.quiet_of (HCL.out _ (grown_drewN _ _ _)))
          go_wp2_with fail
          go_roundg (nb - (j + 1))
          case measure => rw [HJ.out.1]; omega
          case rel => exact ⟨j + 1, rfl, rfl, by omega, World.grownBy.trans HJ.out.2 (grown_drewN _ _ _)⟩
        · have l1 : decide (j < nb - 1) = false := decide_eq_false (by omega)
          have hwn : IntKind.i64.wrap ((nb : Int) - 1) = (nb : Int) - 1 := IntWalk.i64_in _ (by omega)
          have l2 : decide ((j : Int) < (nb : Int) - 1) = false := decide_eq_false (by omega)
          clear i1 i2 hzs
          go_wp2_with fail
          go_quiet (fail)
          go_wp2_with fail
          go_roundg (nb - (j + 1))
          case measure => rw [HJ.out.1]; omega
          case rel => exact ⟨j + 1, rfl, rfl, by omega, World.grownBy.trans HJ.out.2 (grown_drewN _ _ _)⟩
      · have hje : j = nb := by omega
        subst hje
        have jB : decide (j < j) = false := by simp
        have jI : decide ((j : Int) < (j : Int)) = false := by simp
        obtain ⟨K, hK⟩ : ∃ K, C.length = K := ⟨_, rfl⟩
        have hjK : j = K + 1 := by rw [← hK]; exact HNL.out
        have hz1 : Lc[K]? = some [x] := by rw [HLC.out, List.getElem?_append_right (by omega), show K - C.length = 0 by omega]; rfl
        have hz2 : Lb[K]? = some [-x] := by rw [HLB.out, List.getElem?_append_right (by omega), show K - C.length = 0 by omega]; rfl
        have hxr := HE.out.2.rng [x] (List.mem_of_getElem? hz1) x (by simp)
        have hxw : IntKind.i64.wrap (-(-x)) = x := by rw [Int.neg_neg]; exact IntWalk.i64_in _ (by omega)
        have hjc : ((K + 1 : Nat) : Int) - 1 = (K : Int) := by omega
        have hjw : IntKind.i64.wrap ((j : Int) - 1) = (K : Int) := by rw [hjK, hjc]; exact IntWalk.i64_in _ (by omega)
        clear hjc
        have hKj : (K : Int) < (j : Int) := by omega
        obtain ⟨k1, o1, b1, d1, rfl, c1, i1⟩ := HFB.out.2.2.at hz1
        obtain ⟨k2, o2, b2, d2, rfl, c2, i2⟩ := HFg.out.2.2.at hz2
        obtain ⟨kb1, ob1, rfl, cx1⟩ := i1.at (i := 0) (z := x) rfl
        obtain ⟨kb2, ob2, rfl, cx2⟩ := i2.at (i := 0) (z := -x) rfl
        rw [Nat.add_zero] at cx1 cx2
        have hxw2 : IntKind.i64.wrap x = x := IntWalk.i64_in _ (by omega)
        have exx : (x == x) = true := by simp
        have HXR := Lib.hid hxr
        have HJK := Lib.hid hjK
        clear hz1 hz2 hxr hjK hK i1 i2
        go_wp2_with fail
        go_quiet (fail)
        go_wp2_with fail
        go_ret
        exact ⟨rfl, World.grownBy.trans HG.out (World.grownBy.trans HJ.out.2 (grown_drewN _ _ _))⟩
end Go.Proofs.YthkjjiijjedipaaDoor

namespace Go.Proofs.YthkjjiijjedipaaDoor
open Go.ChangeShapes Go.WideShapes Go.ChangeAt Go.WideMaps Go.WideElems Go.RowKit

set_option maxRecDepth 100000 in
theorem cnfExtension_lifted (os : Os) (started : os.Started) (H : Type) (enc : TypeId × Value → H) :
    ReturnsInHanded {} Tryd.checked os 3 .any (fun w args => (Rows.cnfExtensionSpec.pre enc Tryd.prog Tryd.f3 [] false w args ∧ laidMetH Tryd.prog [("math/bits.deBruijn32tab", Rows.laid_math_bits_deBruijn32tab), ("math/bits.deBruijn64tab", Rows.laid_math_bits_deBruijn64tab), ("internal/strconv.uint64pow10", Rows.laid_internal_strconv_uint64pow10)] w) ∧ sizedMet enc Tryd.prog Tryd.f3 (OpenSpec.ofChange Rows.cnfExtensionSpec) false w args)
      (Rows.cnfExtensionSpec.post enc Tryd.prog Tryd.f3 false true false false) := by
  refine returnsInHanded_of_change_and (C := Tryd.checked) (X := fun w _ => laidMetH Tryd.prog [("math/bits.deBruijn32tab", Rows.laid_math_bits_deBruijn32tab), ("math/bits.deBruijn64tab", Rows.laid_math_bits_deBruijn64tab), ("internal/strconv.uint64pow10", Rows.laid_internal_strconv_uint64pow10)] w) (fun _ _ _ hh h => h.of_heap hh) own started (by kernel_rfl) Tryd.func3
    (ChangeSpec.witness_shaped (enc := enc) (C := Tryd.checked) (os := os) (X := fun w _ => laidMetH Tryd.prog [("math/bits.deBruijn32tab", Rows.laid_math_bits_deBruijn32tab), ("math/bits.deBruijn64tab", Rows.laid_math_bits_deBruijn64tab), ("internal/strconv.uint64pow10", Rows.laid_internal_strconv_uint64pow10)] w) false (World.doorLaid Tryd.prog 14 os) #[.slice none 0 0, .int .u8 0, .int .u8 0, .slice none 0 0] 8 rfl (World.shaped_of_RefB (by kernel_rfl) (by kernel_rfl)) (by kernel_rfl) (by kernel_rfl) (by kernel_rfl) (door_met os _)) ?_
  intro W base args ds gs before hval0 hW _ _ hX _
  have hval : ∀ (j : Nat) t v, Tryd.f3.params[j]? = some t → args[j]? = some v → Value.okWide Tryd.prog W .any base t v := hval0
  have hW' := hW
  obtain ⟨p, q, hA0, hV, rfl, _, _⟩ := hW
  have hA : DataW.TrodAll enc Tryd.prog W 0 (fun _ => true) true Tryd.f3.params.toList args.toList ds p := hA0
  rw [Tryd.params3] at hA hval
  have hpl : ∀ x ∈ p, x.block < W.heap.size := fun x hx => hW'.lt x (by simp [hx])
  have hA2 := hA
  obtain ⟨v0, v1, v2, v3, d0, d1, d2, d3, p0, p1, p2, p3, rfl, rfl, rfl, h0, h1, h2, h3⟩ := trodAll_four hA
  obtain ⟨rfl, rfl⟩ := trodVars_none hV
  obtain ⟨l0, sa0, sc0, rfl, hs0, ho0, hm0⟩ := open_stps (hval 0 22 v0 rfl rfl) h0
  obtain ⟨y1, rfl, hy1⟩ := open_u8 (hval 1 5 v1 rfl rfl) h1
  obtain ⟨y2, rfl, hy2⟩ := open_u8 (hval 2 5 v2 rfl rfl) h2
  obtain ⟨b3, ba3, bc3, rfl, hb3, hn3⟩ := open_bools (hval 3 23 v3 rfl rfl) h3
  refine (extension_calls l0 sa0 sc0 y1 y2 b3 ba3 bc3 W (tab_of hX) hs0 ho0 hy1 hy2 hb3).mono fun e W' ⟨he, hw⟩ => ?_
  subst he
  have hbl := below_of hw
  exact ⟨_, rfl, _, _, _, [], _, [], hW', trodAll_mk1 (shut_bool Tryd.underlying4 _), trodAll_below hbl (by decide +kernel) hA2 hpl, rfl, hbl.frame _, fun h => by cases h⟩

theorem cnfExtension_holds : Rows.CnfExtensionSaid :=
  OpenClaim.holds_of_wide 3 Tryd.f3 rfl rfl rfl rfl rfl rfl rfl ⟨rfl, rfl, rfl, rfl, rfl⟩ rfl rfl rfl rfl rfl (by kernel_rfl) Tryd.func3 (by kernel_rfl)
    (of_decide_eq_true (by kernel_rfl)) (by unfold Func.isWrapper; rw [if_neg (of_decide_eq_false (by kernel_rfl))]; exact ⟨rfl, rfl⟩)
    (fun os started H enc _ => cnfExtension_lifted os started H enc)

theorem cnfExtension_card : Rows.CnfExtensionCardSaid :=
  Claim7.holds_tied_plain_at .later [] [.data, .data, .data] true (true, "1ebb8a551e4ae0c27304fe2e0c0b58395341239bdca3d8e30e52d1aba9635839") false
    cnfExtension_holds (fun _ h => by cases h) (by kernel_rfl) (fun _ h => by cases h) cnfExtension_row_tie rfl ⟨rfl, rfl⟩ (by kernel_rfl) rfl
    (fun f fn hf hfn => by
      obtain rfl : f = 3 := Option.some.inj ((show Tryd.prog.funcNamed "armature/armaturelaw19.CnfExtension" = some 3 by kernel_rfl).symm.trans hf) |>.symm
      obtain rfl : fn = Tryd.f3 := (Option.some.inj (Tryd.func3.symm.trans hfn)).symm
      exact ⟨by kernel_rfl, fun j t ht => by
        rw [Tryd.params3] at ht
        have hm : t ∈ [22, 5, 5, 23] := by simpa using Array.mem_of_getElem? ht
        have hall : ([22, 5, 5, 23].all fun u => !Tryd.prog.wantsStandIn u) = true := by kernel_rfl
        exact (show Tryd.prog.wantsStandIn t = false by simpa using List.all_eq_true.1 hall t hm)⟩)
    (by kernel_rfl)
end Go.Proofs.YthkjjiijjedipaaDoor
namespace Go.Proofs.YthkjjiijjedipaaDoor
open Go.ChangeShapes Go.WideShapes Go.ChangeAt Go.WideMaps Go.WideElems Go.RowKit

set_option maxRecDepth 100000 in
theorem cnfSize_lifted (os : Os) (started : os.Started) (H : Type) (enc : TypeId × Value → H) :
    ReturnsInHanded {} Tryd.checked os 6 .any (fun w args => (Rows.cnfSizeSpec.pre enc Tryd.prog Tryd.f6 [] false w args ∧ laidMetH Tryd.prog [("math/bits.deBruijn32tab", Rows.laid_math_bits_deBruijn32tab), ("math/bits.deBruijn64tab", Rows.laid_math_bits_deBruijn64tab), ("internal/strconv.uint64pow10", Rows.laid_internal_strconv_uint64pow10)] w) ∧ sizedMet enc Tryd.prog Tryd.f6 (OpenSpec.ofChange Rows.cnfSizeSpec) false w args)
      (Rows.cnfSizeSpec.post enc Tryd.prog Tryd.f6 false true false false) := by
  refine returnsInHanded_of_change_and (C := Tryd.checked) (X := fun w _ => laidMetH Tryd.prog [("math/bits.deBruijn32tab", Rows.laid_math_bits_deBruijn32tab), ("math/bits.deBruijn64tab", Rows.laid_math_bits_deBruijn64tab), ("internal/strconv.uint64pow10", Rows.laid_internal_strconv_uint64pow10)] w) (fun _ _ _ hh h => h.of_heap hh) own started (by kernel_rfl) Tryd.func6
    (ChangeSpec.witness_shaped (enc := enc) (C := Tryd.checked) (os := os) (X := fun w _ => laidMetH Tryd.prog [("math/bits.deBruijn32tab", Rows.laid_math_bits_deBruijn32tab), ("math/bits.deBruijn64tab", Rows.laid_math_bits_deBruijn64tab), ("internal/strconv.uint64pow10", Rows.laid_internal_strconv_uint64pow10)] w) false (World.doorLaid Tryd.prog 14 os) #[.slice none 0 0, .int .u8 0, .int .u8 0] 8 rfl (World.shaped_of_RefB (by kernel_rfl) (by kernel_rfl)) (by kernel_rfl) (by kernel_rfl) (by kernel_rfl) (door_met os _)) ?_
  intro W base args ds gs before hval0 hW _ _ hX _
  have hval : ∀ (j : Nat) t v, Tryd.f6.params[j]? = some t → args[j]? = some v → Value.okWide Tryd.prog W .any base t v := hval0
  have hW' := hW
  obtain ⟨p, q, hA0, hV, rfl, _, _⟩ := hW
  have hA : DataW.TrodAll enc Tryd.prog W 0 (fun _ => true) true Tryd.f6.params.toList args.toList ds p := hA0
  rw [Tryd.params6] at hA hval
  have hpl : ∀ x ∈ p, x.block < W.heap.size := fun x hx => hW'.lt x (by simp [hx])
  have hA2 := hA
  obtain ⟨v0, v1, v2, d0, d1, d2, p0, p1, p2, rfl, rfl, rfl, h0, h1, h2⟩ := trodAll_three hA
  obtain ⟨rfl, rfl⟩ := trodVars_none hV
  obtain ⟨l0, sa0, sc0, rfl, hs0, ho0, hm0⟩ := open_stps (hval 0 22 v0 rfl rfl) h0
  obtain ⟨y1, rfl, hy1⟩ := open_u8 (hval 1 5 v1 rfl rfl) h1
  obtain ⟨y2, rfl, hy2⟩ := open_u8 (hval 2 5 v2 rfl rfl) h2
  refine (size_calls l0 sa0 sc0 y1 y2 W (tab_of hX) hs0 ho0 hy1 hy2).mono fun e W' ⟨he, hw⟩ => ?_
  subst he
  have hbl := below_of hw
  exact ⟨_, rfl, _, _, _, [], _, [], hW', trodAll_mk1 (shut_bool Tryd.underlying4 _), trodAll_below hbl (by decide +kernel) hA2 hpl, rfl, hbl.frame _, fun h => by cases h⟩

theorem cnfSize_holds : Rows.CnfSizeSaid :=
  OpenClaim.holds_of_wide 6 Tryd.f6 rfl rfl rfl rfl rfl rfl rfl ⟨rfl, rfl, rfl, rfl, rfl⟩ rfl rfl rfl rfl rfl (by kernel_rfl) Tryd.func6 (by kernel_rfl)
    (of_decide_eq_true (by kernel_rfl)) (by unfold Func.isWrapper; rw [if_neg (of_decide_eq_false (by kernel_rfl))]; exact ⟨rfl, rfl⟩)
    (fun os started H enc _ => cnfSize_lifted os started H enc)

theorem cnfSize_card : Rows.CnfSizeCardSaid :=
  Claim7.holds_tied_plain_at .later [] [.data, .data, .data] true (true, "1ebb8a551e4ae0c27304fe2e0c0b58395341239bdca3d8e30e52d1aba9635839") false
    cnfSize_holds (fun _ h => by cases h) (by kernel_rfl) (fun _ h => by cases h) cnfSize_row_tie rfl ⟨rfl, rfl⟩ (by kernel_rfl) rfl
    (fun f fn hf hfn => by
      obtain rfl : f = 6 := Option.some.inj ((show Tryd.prog.funcNamed "armature/armaturelaw19.CnfSize" = some 6 by kernel_rfl).symm.trans hf) |>.symm
      obtain rfl : fn = Tryd.f6 := (Option.some.inj (Tryd.func6.symm.trans hfn)).symm
      exact ⟨by kernel_rfl, fun j t ht => by
        rw [Tryd.params6] at ht
        have hm : t ∈ [22, 5, 5] := by simpa using Array.mem_of_getElem? ht
        have hall : ([22, 5, 5].all fun u => !Tryd.prog.wantsStandIn u) = true := by kernel_rfl
        exact (show Tryd.prog.wantsStandIn t = false by simpa using List.all_eq_true.1 hall t hm)⟩)
    (by kernel_rfl)
end Go.Proofs.YthkjjiijjedipaaDoor
