/- Texts of the proof: R4. -/
import Derived.Test.YthkjjiijjedipaaDoorCD15
import Derived.Test.YthkjjiijjedipaaDoorCD20
namespace Go.Proofs.YthkjjiijjedipaaDoor
open Go.RowKit

abbrev r4o0 : Oper := { dst := some 13, op := Op.call { callee := Callee.value (Operand.func 18), args := #[Operand.tmp 12], argTypes := #[3] }, type := 3, pos := "ref.go:96", after := #[{ on := 1, ground := Ground.data }], guard := none }
abbrev r4o1 : Oper := { dst := some 8, op := Op.alloc 27, type := 0, pos := "ref.go:96", after := #[], guard := none }
abbrev r4o2 : Oper := { dst := some 15, op := Op.call { callee := Callee.value (Operand.func 18), args := #[Operand.tmp 14], argTypes := #[3] }, type := 3, pos := "ref.go:96", after := #[{ on := 3, ground := Ground.data }, { on := 2, ground := Ground.chain }], guard := none }
abbrev r4o3 : Oper := { dst := some 16, op := Op.call { callee := Callee.value (Operand.func 26), args := #[Operand.tmp 11, Operand.tmp 13, Operand.tmp 15], argTypes := #[27, 3, 3] }, type := 50, pos := "ref.go:96", after := #[{ on := 0, ground := Ground.data }, { on := 2, ground := Ground.data }, { on := 4, ground := Ground.data }, { on := 4, ground := Ground.chain }], guard := none }
abbrev r4o4 : Oper := { dst := some 10, op := Op.move (Operand.tmp 16), type := 50, pos := "ref.go:96", after := #[{ on := 5, ground := Ground.data }], guard := none }
abbrev r4o5 : Oper := { dst := some 17, op := Op.extract (Operand.tmp 10) 0, type := 27, pos := "ref.go:96", after := #[{ on := 6, ground := Ground.data }], guard := none }
abbrev r4o6 : Oper := { dst := some 18, op := Op.extract (Operand.tmp 10) 1, type := 3, pos := "ref.go:96", after := #[{ on := 6, ground := Ground.data }, { on := 10, ground := Ground.gcOnly Departure.lateStores }], guard := none }
abbrev r4o7 : Oper := { dst := none, op := Op.store 27 (Operand.tmp 8) (Operand.tmp 17), type := 0, pos := "ref.go:96", after := #[{ on := 9, ground := Ground.data }, { on := 7, ground := Ground.data }, { on := 5, ground := Ground.chain }, { on := 0, ground := Ground.phase }, { on := 1, ground := Ground.phase }, { on := 2, ground := Ground.phase }, { on := 3, ground := Ground.phase }, { on := 4, ground := Ground.phase }, { on := 5, ground := Ground.phase }, { on := 6, ground := Ground.phase }, { on := 7, ground := Ground.phase }, { on := 8, ground := Ground.textOnly Departure.lateStores }, { on := 9, ground := Ground.phase }], guard := none }
abbrev r4o8 : Oper := { dst := some 9, op := Op.assign (Operand.tmp 18), type := 3, pos := "ref.go:96", after := #[{ on := 8, ground := Ground.data }, { on := 10, ground := Ground.chain }, { on := 0, ground := Ground.phase }, { on := 1, ground := Ground.phase }, { on := 2, ground := Ground.phase }, { on := 3, ground := Ground.phase }, { on := 4, ground := Ground.phase }, { on := 5, ground := Ground.phase }, { on := 6, ground := Ground.phase }, { on := 7, ground := Ground.phase }, { on := 8, ground := Ground.phase }, { on := 9, ground := Ground.phase }, { on := 10, ground := Ground.phase }], guard := none }
abbrev r4o9 : Oper := { dst := some 16, op := Op.call { callee := Callee.value (Operand.func 18), args := #[Operand.tmp 15], argTypes := #[3] }, type := 3, pos := "ref.go:102", after := #[{ on := 2, ground := Ground.data }], guard := none }
abbrev r4o10 : Oper := { dst := some 8, op := Op.alloc 27, type := 0, pos := "ref.go:102", after := #[], guard := none }
abbrev r4o11 : Oper := { dst := some 17, op := Op.call { callee := Callee.value (Operand.func 26), args := #[Operand.tmp 13, Operand.tmp 14, Operand.tmp 16], argTypes := #[27, 3, 3] }, type := 50, pos := "ref.go:102", after := #[{ on := 0, ground := Ground.data }, { on := 1, ground := Ground.data }, { on := 3, ground := Ground.data }, { on := 3, ground := Ground.chain }], guard := none }
abbrev r4o12 : Oper := { dst := some 12, op := Op.move (Operand.tmp 17), type := 50, pos := "ref.go:102", after := #[{ on := 4, ground := Ground.data }], guard := none }
abbrev r4o13 : Oper := { dst := some 18, op := Op.extract (Operand.tmp 12) 0, type := 27, pos := "ref.go:102", after := #[{ on := 5, ground := Ground.data }], guard := none }
abbrev r4o14 : Oper := { dst := some 19, op := Op.extract (Operand.tmp 12) 1, type := 3, pos := "ref.go:102", after := #[{ on := 5, ground := Ground.data }, { on := 9, ground := Ground.gcOnly Departure.lateStores }], guard := none }
abbrev r4o15 : Oper := { dst := none, op := Op.store 27 (Operand.tmp 8) (Operand.tmp 18), type := 0, pos := "ref.go:102", after := #[{ on := 8, ground := Ground.data }, { on := 6, ground := Ground.data }, { on := 4, ground := Ground.chain }, { on := 0, ground := Ground.phase }, { on := 1, ground := Ground.phase }, { on := 2, ground := Ground.phase }, { on := 3, ground := Ground.phase }, { on := 4, ground := Ground.phase }, { on := 5, ground := Ground.phase }, { on := 6, ground := Ground.phase }, { on := 7, ground := Ground.textOnly Departure.lateStores }, { on := 8, ground := Ground.phase }], guard := none }
abbrev r4o16 : Oper := { dst := some 9, op := Op.assign (Operand.tmp 19), type := 3, pos := "ref.go:102", after := #[{ on := 7, ground := Ground.data }, { on := 9, ground := Ground.chain }, { on := 0, ground := Ground.phase }, { on := 1, ground := Ground.phase }, { on := 2, ground := Ground.phase }, { on := 3, ground := Ground.phase }, { on := 4, ground := Ground.phase }, { on := 5, ground := Ground.phase }, { on := 6, ground := Ground.phase }, { on := 7, ground := Ground.phase }, { on := 8, ground := Ground.phase }, { on := 9, ground := Ground.phase }], guard := none }
abbrev r4o17 : Oper := { dst := some 23, op := Op.call { callee := Callee.value (Operand.func 18), args := #[Operand.tmp 22], argTypes := #[3] }, type := 3, pos := "ref.go:103", after := #[{ on := 1, ground := Ground.data }], guard := none }
abbrev r4o18 : Oper := { dst := some 10, op := Op.alloc 27, type := 0, pos := "ref.go:103", after := #[], guard := none }
abbrev r4o19 : Oper := { dst := some 25, op := Op.call { callee := Callee.value (Operand.func 26), args := #[Operand.tmp 21, Operand.tmp 23, Operand.tmp 24], argTypes := #[27, 3, 3] }, type := 50, pos := "ref.go:103", after := #[{ on := 0, ground := Ground.data }, { on := 2, ground := Ground.data }, { on := 3, ground := Ground.data }, { on := 2, ground := Ground.chain }], guard := none }
abbrev r4o20 : Oper := { dst := some 20, op := Op.move (Operand.tmp 25), type := 50, pos := "ref.go:103", after := #[{ on := 4, ground := Ground.data }], guard := none }
abbrev r4o21 : Oper := { dst := some 26, op := Op.extract (Operand.tmp 20) 0, type := 27, pos := "ref.go:103", after := #[{ on := 5, ground := Ground.data }], guard := none }
abbrev r4o22 : Oper := { dst := some 27, op := Op.extract (Operand.tmp 20) 1, type := 3, pos := "ref.go:103", after := #[{ on := 5, ground := Ground.data }, { on := 9, ground := Ground.gcOnly Departure.lateStores }], guard := none }
abbrev r4o23 : Oper := { dst := none, op := Op.store 27 (Operand.tmp 10) (Operand.tmp 26), type := 0, pos := "ref.go:103", after := #[{ on := 8, ground := Ground.data }, { on := 6, ground := Ground.data }, { on := 4, ground := Ground.chain }, { on := 0, ground := Ground.phase }, { on := 1, ground := Ground.phase }, { on := 2, ground := Ground.phase }, { on := 3, ground := Ground.phase }, { on := 4, ground := Ground.phase }, { on := 5, ground := Ground.phase }, { on := 6, ground := Ground.phase }, { on := 7, ground := Ground.textOnly Departure.lateStores }, { on := 8, ground := Ground.phase }], guard := none }
abbrev r4o24 : Oper := { dst := some 11, op := Op.assign (Operand.tmp 27), type := 3, pos := "ref.go:103", after := #[{ on := 7, ground := Ground.data }, { on := 9, ground := Ground.chain }, { on := 0, ground := Ground.phase }, { on := 1, ground := Ground.phase }, { on := 2, ground := Ground.phase }, { on := 3, ground := Ground.phase }, { on := 4, ground := Ground.phase }, { on := 5, ground := Ground.phase }, { on := 6, ground := Ground.phase }, { on := 7, ground := Ground.phase }, { on := 8, ground := Ground.phase }, { on := 9, ground := Ground.phase }], guard := none }
theorem rand_at {gs g : List Gt} {r : Int} {a : Option Addr} {c : Nat} {w : World} (x y : Int) (e : andC gs x y = (g, r)) (hG : Good gs) (hl : gs.length ≤ 900) (hx : x ≤ 9223372036854775807) (hy : y ≤ 9223372036854775807) (h : GatesW w a c gs) : Calls Tryd.prog 26 #[.agg #[.slice a gs.length c], .int .i64 x, .int .i64 y] w (Ans w g r) := by
  have := rand_calls gs x y a c w h (by omega) hG hx hy
  rw [e] at this
  exact this
theorem rinput_at {gs g : List Gt} {r : Int} {a : Option Addr} {c : Nat} {w : World} (v : Int) (e : inputC gs v = (g, r)) (_hG : Good gs) (hl : gs.length ≤ 900) (h : GatesW w a c gs) : Calls Tryd.prog 24 #[.agg #[.slice a gs.length c], .int .i64 v] w (Ans w g r) := by
  have := rinput_calls gs v a c w h (by omega)
  rw [e] at this
  exact this
theorem rnot_at {w : World} (x : Int) (hx : x ≤ 9223372036854775807) : Calls Tryd.prog 18 #[.int .i64 x] w fun e w' => e = .returned (.int .i64 (notR x)) ∧ w' = w := not26_calls x w hx

set_option maxRecDepth 100000 in
set_option maxHeartbeats 4000000 in
theorem ror_calls (gs : List Gt) (x y : Int) (a : Option Addr) (c : Nat) (w : World) (h : GatesW w a c gs) (hl : gs.length ≤ 890) (hG : Good gs) (hx : x ≤ 9223372036854775807) (hy : y ≤ 9223372036854775807) :
    Calls Tryd.prog 41 #[.agg #[.slice a gs.length c], .int .i64 x, .int .i64 y] w (Ans w (orC gs x y).1 (orC gs x y).2) := by
  have hg1 := World.grownBy_alloc w (.cells #[.slice a gs.length c] 27) none
  have hb1 := CB.new h
  obtain ⟨W1, hW1⟩ : ∃ W, w.alloc (.cells #[.slice a gs.length c] 27) = W := ⟨_, rfl⟩
  rw [hW1] at hg1 hb1
  have hg2 := World.grownBy_alloc W1 (.cells #[.slice none 0 0] 27) none
  have e2 := BoxZ.new W1
  obtain ⟨V0, hV0⟩ : ∃ W, W1.alloc (.cells #[.slice none 0 0] 27) = W := ⟨_, rfl⟩
  rw [hV0] at hg2 e2
  have Hc := Lib.hid (hb1.grown hg2)
  have HZ := Lib.hid e2
  have HG := Lib.hid (World.grownBy.trans hg1 hg2)
  have HL := Lib.hid (And.intro hl hG.pos)
  have HGD := Lib.hid hG
  have HB := Lib.hid (And.intro hx hy)
  have HS1 := Lib.hid (show w.heap.size ≤ W1.heap.size from hg1.size)
  have HSB := Lib.hid (show W1.heap.size < V0.heap.size from lies_lt e2.1)
  clear h hg1 hg2 hb1 e2 hl hG hx hy
  obtain ⟨g1, r1, e1⟩ : ∃ g r, andC gs (notR x) (notR y) = (g, r) := ⟨_, _, rfl⟩
  have HE1 := Lib.hid e1
  have HR1 := Lib.hid (show r1 ≤ 9223372036854775807 from by have := and_le (gs := gs) (notR_le HB.out.1) (notR_le HB.out.2) (by have := HL.out.1; omega); rw [e1] at this; exact this)
  clear e1
  have HSZ := Lib.hid (show w.heap.size < W1.heap.size from by rw [← hW1]; simp)
  go_enter Tryd.func41, Tryd.ntmps41
  have qc := Hc.out.1
  have fc := Hc.out.2.1
  go_upto_region 1 with fail
  clear qc fc
  clear hW1 hV0
  go_cut [8, 9] (fun s0 s1 wx => ∃ b a c, s0 = .pointer (some ⟨b, 0, none⟩) ∧ s1 = .int .i64 (r1) ∧ V0.heap.size ≤ b ∧ CB wx b a c g1 ∧ V0.grownBy wx none)
  case first =>
    have HS := Lib.hid (fun (Wh : World) (hWh : V0.grownBy Wh none) => (⟨hWh, hWh.cell Hc.out.1 (by simp)⟩ : (fun Wh : World => V0.grownBy Wh none ∧ Wh.cell? ⟨w.heap.size, 0, none⟩ = some (.slice a gs.length c)) Wh))
    have hdr : V0.grownBy V0.drew none := ⟨rfl, rfl, rfl, Nat.le_refl _, fun _ _ _ => rfl⟩
    refine wp_region_held_drew (S := (fun Wh : World => V0.grownBy Wh none ∧ Wh.cell? ⟨w.heap.size, 0, none⟩ = some (.slice a gs.length c))) (by kernel_rfl) (HS.out _ hdr) (fun hHeld => ?_)
    refine tk 0 ({ dst := some 11, op := Op.load 27 (Operand.tmp 3), type := 27, pos := "ref.go:96", after := #[], guard := none }) ?_ rfl (by kernel_rfl) (fun _ _ _ h => h) (by rfl) ?_ hHeld ?_
    rotate_left 1
    · (intro W hSW; (try dsimp only at hSW); first | (go_simp; done) | (go_simp; with_reducible rfl))
    try simp only [Act.put, List.setIfInBounds_toArray, List.set_cons_zero, List.set_cons_succ]
    refine tk 1 ({ dst := some 12, op := Op.move (Operand.tmp 1), type := 3, pos := "ref.go:96", after := #[], guard := none }) ?_ rfl (by kernel_rfl) (fun _ _ _ h => h) (by rfl) ?_ hHeld ?_
    rotate_left 1
    · (intro W hSW; (try dsimp only at hSW); first | (go_simp; done) | (go_simp; with_reducible rfl))
    try simp only [Act.put, List.setIfInBounds_toArray, List.set_cons_zero, List.set_cons_succ]
    refine tk 3 ({ dst := some 14, op := Op.move (Operand.tmp 2), type := 3, pos := "ref.go:96", after := #[], guard := none }) ?_ rfl (by kernel_rfl) (fun _ _ _ h => h) (by rfl) ?_ hHeld ?_
    rotate_left 1
    · (intro W hSW; (try dsimp only at hSW); first | (go_simp; done) | (go_simp; with_reducible rfl))
    try simp only [Act.put, List.setIfInBounds_toArray, List.set_cons_zero, List.set_cons_succ]
    refine wpAnyH_ready (rs := [2, 9]) (by kernel_rfl) (by simp) ?_
    refine (AllReadyH.cons (o := r4o0) rfl (fun K hK => ?_) (AllReadyH.cons (o := r4o1) rfl (fun K hK => ?_) AllReadyH.nil))
    · rw [if_pos (by rfl)]
      go_simp
      go_at_call 18
      refine (rnot_at _ (by first | exact HB.out.1 | exact HB.out.2)).mono ?_
      rintro e w9 ⟨rfl, hw9⟩
      rw [hw9]
      clear hw9 w9
      go_wp2_with fail
      refine hK.out _ _ (HS.out _ hdr) (fun hHeld => ?_)
      clear hK K
      try simp only [Act.put, List.setIfInBounds_toArray, List.set_cons_zero, List.set_cons_succ]
      refine wpAnyH_ready (rs := [4, 9]) (by kernel_rfl) (by simp) ?_
      refine (AllReadyH.cons (o := r4o2) rfl (fun K hK => ?_) (AllReadyH.cons (o := r4o1) rfl (fun K hK => ?_) AllReadyH.nil))
      · rw [if_pos (by rfl)]
        go_simp
        go_at_call 18
        refine (rnot_at _ (by first | exact HB.out.1 | exact HB.out.2)).mono ?_
        rintro e w9 ⟨rfl, hw9⟩
        rw [hw9]
        clear hw9 w9
        go_wp2_with fail
        refine hK.out _ _ (HS.out _ hdr) (fun hHeld => ?_)
        clear hK K
        try simp only [Act.put, List.setIfInBounds_toArray, List.set_cons_zero, List.set_cons_succ]
        refine wpAnyH_ready (rs := [5, 9]) (by kernel_rfl) (by simp) ?_
        refine (AllReadyH.cons (o := r4o3) rfl (fun K hK => ?_) (AllReadyH.cons (o := r4o1) rfl (fun K hK => ?_) AllReadyH.nil))
        · rw [if_pos (by rfl)]
          go_simp
          go_at_call 26
          refine (rand_at (notR x) (notR y) HE1.out HGD.out (by have := HL.out.1; omega) (notR_le HB.out.1) (notR_le HB.out.2) ((Hc.out.grown hdr)).2.2).mono ?_
          rintro e wM ⟨aM, cM, rfl, hr, gM⟩
          have hgM := World.grownBy.trans hdr gM
          go_wp2_with fail
          refine hK.out _ _ (HS.out _ hgM) (fun hHeld => ?_)
          clear hK K
          try simp only [Act.put, List.setIfInBounds_toArray, List.set_cons_zero, List.set_cons_succ]
          refine tk 6 r4o4 ?_ rfl (by kernel_rfl) (fun _ _ _ h => h) (by rfl) ?_ hHeld ?_
          rotate_left 1
          · (intro W hSW; (try dsimp only at hSW); first | (go_simp; done) | (go_simp; with_reducible rfl))
          try simp only [Act.put, List.setIfInBounds_toArray, List.set_cons_zero, List.set_cons_succ]
          refine tk 7 r4o5 ?_ rfl (by kernel_rfl) (fun _ _ _ h => h) (by rfl) ?_ hHeld ?_
          rotate_left 1
          · (intro W hSW; (try dsimp only at hSW); first | (go_simp; done) | (go_simp; with_reducible rfl))
          try simp only [Act.put, List.setIfInBounds_toArray, List.set_cons_zero, List.set_cons_succ]
          refine tk 8 r4o6 ?_ rfl (by kernel_rfl) (fun _ _ _ h => h) (by rfl) ?_ hHeld ?_
          rotate_left 1
          · (intro W hSW; (try dsimp only at hSW); first | (go_simp; done) | (go_simp; with_reducible rfl))
          try simp only [Act.put, List.setIfInBounds_toArray, List.set_cons_zero, List.set_cons_succ]
          refine wpAnyH_ready (rs := [9]) (by kernel_rfl) (by simp) ?_
          refine (AllReadyH.cons (o := r4o1) rfl (fun K hK => ?_) AllReadyH.nil)
          rw [if_pos (by rfl)]
          go_simp
          have hgA : V0.grownBy (World.alloc wM (.cells #[.slice none 0 0] 27)) none := World.grownBy.trans hgM (World.grownBy_alloc wM (.cells #[.slice none 0 0] 27) none)
          have hz : BoxZ (World.alloc wM (.cells #[.slice none 0 0] 27)) (wM.heap.size) := BoxZ.new wM
          have hge0 : V0.heap.size ≤ wM.heap.size := World.grownBy.size hgM
          have hge : ∀ p, wM.heap.size = p → V0.heap.size ≤ p := fun p e => by rw [← e]; exact hge0
          clear hge0
          replace hr := hr.grown (World.grownBy_alloc wM (.cells #[.slice none 0 0] 27) none)
          obtain ⟨WA, hWA⟩ : ∃ z, World.alloc wM (.cells #[.slice none 0 0] 27) = z := ⟨_, rfl⟩
          rw [hWA] at hgA hz ⊢
          rw [hWA] at hr
          clear hWA
          obtain ⟨pA, hpA⟩ : ∃ p, wM.heap.size = p := ⟨_, rfl⟩
          replace hge := hge pA hpA
          rw [hpA] at hz ⊢
          clear hpA
          refine hK.out _ _ (HS.out _ hgA) (fun hHeld => ?_)
          clear hK K
          try simp only [Act.put, List.setIfInBounds_toArray, List.set_cons_zero, List.set_cons_succ]
          refine wpAnyH_ready (rs := [10]) (by kernel_rfl) (by simp) ?_
          refine (AllReadyH.cons (o := r4o7) rfl (fun K hK => ?_) AllReadyH.nil)
          rw [if_pos (by rfl)]
          have z0 := hz.1
          have zf := hz.2
          go_simp
          clear z0 zf
          have hcb := CB.put hr hz.1 hz.2
          have hgS := grown_own hgA (grown_set WA pA 0 (.slice aM g1.length cM)) (fun k hk => by cases hk; exact hge)
          obtain ⟨WS, hWS⟩ : ∃ z, World.setCell WA ⟨pA, 0, none⟩ (.slice aM g1.length cM) = z := ⟨_, rfl⟩
          rw [hWS] at hcb hgS ⊢
          clear hWS
          refine hK.out _ _ (HS.out _ hgS) (fun hHeld => ?_)
          clear hK K
          try simp only [Act.put, List.setIfInBounds_toArray, List.set_cons_zero, List.set_cons_succ]
          refine tk 11 r4o8 ?_ rfl (by kernel_rfl) (fun _ _ _ h => h) (by rfl) ?_ hHeld ?_
          rotate_left 1
          · (intro W hSW; (try dsimp only at hSW); first | (go_simp; done) | (go_simp; with_reducible rfl))
          try simp only [Act.put, List.setIfInBounds_toArray, List.set_cons_zero, List.set_cons_succ]
          refine wpAnyH_done (by kernel_rfl) ?_ _
          have hEND := hgS
          clear hHeld
          go_wp2_with fail
          go_meet
          exact ⟨pA, aM, cM, rfl, rfl, hge, hcb, hEND⟩
        · rw [if_pos (by rfl)]
          go_simp
          have hgA : V0.grownBy ((World.alloc V0 (.cells #[.slice none 0 0] 27)).drew) none := World.grownBy.trans (World.grownBy_alloc V0 (.cells #[.slice none 0 0] 27) none) (⟨rfl, rfl, rfl, Nat.le_refl _, fun _ _ _ => rfl⟩ : (World.alloc V0 (.cells #[.slice none 0 0] 27)).grownBy (World.alloc V0 (.cells #[.slice none 0 0] 27)).drew none)
          have hz : BoxZ ((World.alloc V0 (.cells #[.slice none 0 0] 27)).drew) (V0.heap.size) := (BoxZ.new V0).grown (⟨rfl, rfl, rfl, Nat.le_refl _, fun _ _ _ => rfl⟩ : (World.alloc V0 (.cells #[.slice none 0 0] 27)).grownBy (World.alloc V0 (.cells #[.slice none 0 0] 27)).drew none)
          have hge0 : V0.heap.size ≤ V0.heap.size := Nat.le_refl _
          have hge : ∀ p, V0.heap.size = p → V0.heap.size ≤ p := fun p e => by rw [← e]; exact hge0
          clear hge0
          obtain ⟨WA, hWA⟩ : ∃ z, (World.alloc V0 (.cells #[.slice none 0 0] 27)).drew = z := ⟨_, rfl⟩
          rw [hWA] at hgA hz ⊢
          clear hWA
          obtain ⟨pA, hpA⟩ : ∃ p, V0.heap.size = p := ⟨_, rfl⟩
          replace hge := hge pA hpA
          rw [hpA] at hz ⊢
          clear hpA
          refine hK.out _ _ (HS.out _ hgA) (fun hHeld => ?_)
          clear hK K
          try simp only [Act.put, List.setIfInBounds_toArray, List.set_cons_zero, List.set_cons_succ]
          refine wpAnyH_ready (rs := [5]) (by kernel_rfl) (by simp) ?_
          refine (AllReadyH.cons (o := r4o3) rfl (fun K hK => ?_) AllReadyH.nil)
          rw [if_pos (by rfl)]
          go_simp
          go_at_call 26
          refine (rand_at (notR x) (notR y) HE1.out HGD.out (by have := HL.out.1; omega) (notR_le HB.out.1) (notR_le HB.out.2) ((Hc.out.grown hgA)).2.2).mono ?_
          rintro e wM ⟨aM, cM, rfl, hr, gM⟩
          have hgM := World.grownBy.trans hgA gM
          replace hz := hz.grown gM
          go_wp2_with fail
          refine hK.out _ _ (HS.out _ hgM) (fun hHeld => ?_)
          clear hK K
          try simp only [Act.put, List.setIfInBounds_toArray, List.set_cons_zero, List.set_cons_succ]
          refine tk 6 r4o4 ?_ rfl (by kernel_rfl) (fun _ _ _ h => h) (by rfl) ?_ hHeld ?_
          rotate_left 1
          · (intro W hSW; (try dsimp only at hSW); first | (go_simp; done) | (go_simp; with_reducible rfl))
          try simp only [Act.put, List.setIfInBounds_toArray, List.set_cons_zero, List.set_cons_succ]
          refine tk 7 r4o5 ?_ rfl (by kernel_rfl) (fun _ _ _ h => h) (by rfl) ?_ hHeld ?_
          rotate_left 1
          · (intro W hSW; (try dsimp only at hSW); first | (go_simp; done) | (go_simp; with_reducible rfl))
          try simp only [Act.put, List.setIfInBounds_toArray, List.set_cons_zero, List.set_cons_succ]
          refine tk 8 r4o6 ?_ rfl (by kernel_rfl) (fun _ _ _ h => h) (by rfl) ?_ hHeld ?_
          rotate_left 1
          · (intro W hSW; (try dsimp only at hSW); first | (go_simp; done) | (go_simp; with_reducible rfl))
          try simp only [Act.put, List.setIfInBounds_toArray, List.set_cons_zero, List.set_cons_succ]
          refine wpAnyH_ready (rs := [10]) (by kernel_rfl) (by simp) ?_
          refine (AllReadyH.cons (o := r4o7) rfl (fun K hK => ?_) AllReadyH.nil)
          rw [if_pos (by rfl)]
          have z0 := hz.1
          have zf := hz.2
          go_simp
          clear z0 zf
          have hcb := CB.put hr hz.1 hz.2
          have hgS := grown_own hgM (grown_set wM pA 0 (.slice aM g1.length cM)) (fun k hk => by cases hk; exact hge)
          obtain ⟨WS, hWS⟩ : ∃ z, World.setCell wM ⟨pA, 0, none⟩ (.slice aM g1.length cM) = z := ⟨_, rfl⟩
          rw [hWS] at hcb hgS ⊢
          clear hWS
          refine hK.out _ _ (HS.out _ hgS) (fun hHeld => ?_)
          clear hK K
          try simp only [Act.put, List.setIfInBounds_toArray, List.set_cons_zero, List.set_cons_succ]
          refine tk 11 r4o8 ?_ rfl (by kernel_rfl) (fun _ _ _ h => h) (by rfl) ?_ hHeld ?_
          rotate_left 1
          · (intro W hSW; (try dsimp only at hSW); first | (go_simp; done) | (go_simp; with_reducible rfl))
          try simp only [Act.put, List.setIfInBounds_toArray, List.set_cons_zero, List.set_cons_succ]
          refine wpAnyH_done (by kernel_rfl) ?_ _
          have hEND := hgS
          clear hHeld
          go_wp2_with fail
          go_meet
          exact ⟨pA, aM, cM, rfl, rfl, hge, hcb, hEND⟩
      · rw [if_pos (by rfl)]
        go_simp
        have hgA : V0.grownBy ((World.alloc V0 (.cells #[.slice none 0 0] 27)).drew) none := World.grownBy.trans (World.grownBy_alloc V0 (.cells #[.slice none 0 0] 27) none) (⟨rfl, rfl, rfl, Nat.le_refl _, fun _ _ _ => rfl⟩ : (World.alloc V0 (.cells #[.slice none 0 0] 27)).grownBy (World.alloc V0 (.cells #[.slice none 0 0] 27)).drew none)
        have hz : BoxZ ((World.alloc V0 (.cells #[.slice none 0 0] 27)).drew) (V0.heap.size) := (BoxZ.new V0).grown (⟨rfl, rfl, rfl, Nat.le_refl _, fun _ _ _ => rfl⟩ : (World.alloc V0 (.cells #[.slice none 0 0] 27)).grownBy (World.alloc V0 (.cells #[.slice none 0 0] 27)).drew none)
        have hge0 : V0.heap.size ≤ V0.heap.size := Nat.le_refl _
        have hge : ∀ p, V0.heap.size = p → V0.heap.size ≤ p := fun p e => by rw [← e]; exact hge0
        clear hge0
        obtain ⟨WA, hWA⟩ : ∃ z, (World.alloc V0 (.cells #[.slice none 0 0] 27)).drew = z := ⟨_, rfl⟩
        rw [hWA] at hgA hz ⊢
        clear hWA
        obtain ⟨pA, hpA⟩ : ∃ p, V0.heap.size = p := ⟨_, rfl⟩
        replace hge := hge pA hpA
        rw [hpA] at hz ⊢
        clear hpA
        refine hK.out _ _ (HS.out _ hgA) (fun hHeld => ?_)
        clear hK K
        try simp only [Act.put, List.setIfInBounds_toArray, List.set_cons_zero, List.set_cons_succ]
        refine wpAnyH_ready (rs := [4]) (by kernel_rfl) (by simp) ?_
        refine (AllReadyH.cons (o := r4o2) rfl (fun K hK => ?_) AllReadyH.nil)
        rw [if_pos (by rfl)]
        go_simp
        go_at_call 18
        refine (rnot_at _ (by first | exact HB.out.1 | exact HB.out.2)).mono ?_
        rintro e w9 ⟨rfl, hw9⟩
        rw [hw9]
        clear hw9 w9
        go_wp2_with fail
        refine hK.out _ _ (HS.out _ hgA) (fun hHeld => ?_)
        clear hK K
        try simp only [Act.put, List.setIfInBounds_toArray, List.set_cons_zero, List.set_cons_succ]
        refine wpAnyH_ready (rs := [5]) (by kernel_rfl) (by simp) ?_
        refine (AllReadyH.cons (o := r4o3) rfl (fun K hK => ?_) AllReadyH.nil)
        rw [if_pos (by rfl)]
        go_simp
        go_at_call 26
        refine (rand_at (notR x) (notR y) HE1.out HGD.out (by have := HL.out.1; omega) (notR_le HB.out.1) (notR_le HB.out.2) ((Hc.out.grown hgA)).2.2).mono ?_
        rintro e wM ⟨aM, cM, rfl, hr, gM⟩
        have hgM := World.grownBy.trans hgA gM
        replace hz := hz.grown gM
        go_wp2_with fail
        refine hK.out _ _ (HS.out _ hgM) (fun hHeld => ?_)
        clear hK K
        try simp only [Act.put, List.setIfInBounds_toArray, List.set_cons_zero, List.set_cons_succ]
        refine tk 6 r4o4 ?_ rfl (by kernel_rfl) (fun _ _ _ h => h) (by rfl) ?_ hHeld ?_
        rotate_left 1
        · (intro W hSW; (try dsimp only at hSW); first | (go_simp; done) | (go_simp; with_reducible rfl))
        try simp only [Act.put, List.setIfInBounds_toArray, List.set_cons_zero, List.set_cons_succ]
        refine tk 7 r4o5 ?_ rfl (by kernel_rfl) (fun _ _ _ h => h) (by rfl) ?_ hHeld ?_
        rotate_left 1
        · (intro W hSW; (try dsimp only at hSW); first | (go_simp; done) | (go_simp; with_reducible rfl))
        try simp only [Act.put, List.setIfInBounds_toArray, List.set_cons_zero, List.set_cons_succ]
        refine tk 8 r4o6 ?_ rfl (by kernel_rfl) (fun _ _ _ h => h) (by rfl) ?_ hHeld ?_
        rotate_left 1
        · (intro W hSW; (try dsimp only at hSW); first | (go_simp; done) | (go_simp; with_reducible rfl))
        try simp only [Act.put, List.setIfInBounds_toArray, List.set_cons_zero, List.set_cons_succ]
        refine wpAnyH_ready (rs := [10]) (by kernel_rfl) (by simp) ?_
        refine (AllReadyH.cons (o := r4o7) rfl (fun K hK => ?_) AllReadyH.nil)
        rw [if_pos (by rfl)]
        have z0 := hz.1
        have zf := hz.2
        go_simp
        clear z0 zf
        have hcb := CB.put hr hz.1 hz.2
        have hgS := grown_own hgM (grown_set wM pA 0 (.slice aM g1.length cM)) (fun k hk => by cases hk; exact hge)
        obtain ⟨WS, hWS⟩ : ∃ z, World.setCell wM ⟨pA, 0, none⟩ (.slice aM g1.length cM) = z := ⟨_, rfl⟩
        rw [hWS] at hcb hgS ⊢
        clear hWS
        refine hK.out _ _ (HS.out _ hgS) (fun hHeld => ?_)
        clear hK K
        try simp only [Act.put, List.setIfInBounds_toArray, List.set_cons_zero, List.set_cons_succ]
        refine tk 11 r4o8 ?_ rfl (by kernel_rfl) (fun _ _ _ h => h) (by rfl) ?_ hHeld ?_
        rotate_left 1
        · (intro W hSW; (try dsimp only at hSW); first | (go_simp; done) | (go_simp; with_reducible rfl))
        try simp only [Act.put, List.setIfInBounds_toArray, List.set_cons_zero, List.set_cons_succ]
        refine wpAnyH_done (by kernel_rfl) ?_ _
        have hEND := hgS
        clear hHeld
        go_wp2_with fail
        go_meet
        exact ⟨pA, aM, cM, rfl, rfl, hge, hcb, hEND⟩
    · rw [if_pos (by rfl)]
      go_simp
      have hgA : V0.grownBy ((World.alloc V0 (.cells #[.slice none 0 0] 27)).drew) none := World.grownBy.trans (World.grownBy_alloc V0 (.cells #[.slice none 0 0] 27) none) (⟨rfl, rfl, rfl, Nat.le_refl _, fun _ _ _ => rfl⟩ : (World.alloc V0 (.cells #[.slice none 0 0] 27)).grownBy (World.alloc V0 (.cells #[.slice none 0 0] 27)).drew none)
      have hz : BoxZ ((World.alloc V0 (.cells #[.slice none 0 0] 27)).drew) (V0.heap.size) := (BoxZ.new V0).grown (⟨rfl, rfl, rfl, Nat.le_refl _, fun _ _ _ => rfl⟩ : (World.alloc V0 (.cells #[.slice none 0 0] 27)).grownBy (World.alloc V0 (.cells #[.slice none 0 0] 27)).drew none)
      have hge0 : V0.heap.size ≤ V0.heap.size := Nat.le_refl _
      have hge : ∀ p, V0.heap.size = p → V0.heap.size ≤ p := fun p e => by rw [← e]; exact hge0
      clear hge0
      obtain ⟨WA, hWA⟩ : ∃ z, (World.alloc V0 (.cells #[.slice none 0 0] 27)).drew = z := ⟨_, rfl⟩
      rw [hWA] at hgA hz ⊢
      clear hWA
      obtain ⟨pA, hpA⟩ : ∃ p, V0.heap.size = p := ⟨_, rfl⟩
      replace hge := hge pA hpA
      rw [hpA] at hz ⊢
      clear hpA
      refine hK.out _ _ (HS.out _ hgA) (fun hHeld => ?_)
      clear hK K
      try simp only [Act.put, List.setIfInBounds_toArray, List.set_cons_zero, List.set_cons_succ]
      refine wpAnyH_ready (rs := [2]) (by kernel_rfl) (by simp) ?_
      refine (AllReadyH.cons (o := r4o0) rfl (fun K hK => ?_) AllReadyH.nil)
      rw [if_pos (by rfl)]
      go_simp
      go_at_call 18
      refine (rnot_at _ (by first | exact HB.out.1 | exact HB.out.2)).mono ?_
      rintro e w9 ⟨rfl, hw9⟩
      rw [hw9]
      clear hw9 w9
      go_wp2_with fail
      refine hK.out _ _ (HS.out _ hgA) (fun hHeld => ?_)
      clear hK K
      try simp only [Act.put, List.setIfInBounds_toArray, List.set_cons_zero, List.set_cons_succ]
      refine wpAnyH_ready (rs := [4]) (by kernel_rfl) (by simp) ?_
      refine (AllReadyH.cons (o := r4o2) rfl (fun K hK => ?_) AllReadyH.nil)
      rw [if_pos (by rfl)]
      go_simp
      go_at_call 18
      refine (rnot_at _ (by first | exact HB.out.1 | exact HB.out.2)).mono ?_
      rintro e w9 ⟨rfl, hw9⟩
      rw [hw9]
      clear hw9 w9
      go_wp2_with fail
      refine hK.out _ _ (HS.out _ hgA) (fun hHeld => ?_)
      clear hK K
      try simp only [Act.put, List.setIfInBounds_toArray, List.set_cons_zero, List.set_cons_succ]
      refine wpAnyH_ready (rs := [5]) (by kernel_rfl) (by simp) ?_
      refine (AllReadyH.cons (o := r4o3) rfl (fun K hK => ?_) AllReadyH.nil)
      rw [if_pos (by rfl)]
      go_simp
      go_at_call 26
      refine (rand_at (notR x) (notR y) HE1.out HGD.out (by have := HL.out.1; omega) (notR_le HB.out.1) (notR_le HB.out.2) ((Hc.out.grown hgA)).2.2).mono ?_
      rintro e wM ⟨aM, cM, rfl, hr, gM⟩
      have hgM := World.grownBy.trans hgA gM
      replace hz := hz.grown gM
      go_wp2_with fail
      refine hK.out _ _ (HS.out _ hgM) (fun hHeld => ?_)
      clear hK K
      try simp only [Act.put, List.setIfInBounds_toArray, List.set_cons_zero, List.set_cons_succ]
      refine tk 6 r4o4 ?_ rfl (by kernel_rfl) (fun _ _ _ h => h) (by rfl) ?_ hHeld ?_
      rotate_left 1
      · (intro W hSW; (try dsimp only at hSW); first | (go_simp; done) | (go_simp; with_reducible rfl))
      try simp only [Act.put, List.setIfInBounds_toArray, List.set_cons_zero, List.set_cons_succ]
      refine tk 7 r4o5 ?_ rfl (by kernel_rfl) (fun _ _ _ h => h) (by rfl) ?_ hHeld ?_
      rotate_left 1
      · (intro W hSW; (try dsimp only at hSW); first | (go_simp; done) | (go_simp; with_reducible rfl))
      try simp only [Act.put, List.setIfInBounds_toArray, List.set_cons_zero, List.set_cons_succ]
      refine tk 8 r4o6 ?_ rfl (by kernel_rfl) (fun _ _ _ h => h) (by rfl) ?_ hHeld ?_
      rotate_left 1
      · (intro W hSW; (try dsimp only at hSW); first | (go_simp; done) | (go_simp; with_reducible rfl))
      try simp only [Act.put, List.setIfInBounds_toArray, List.set_cons_zero, List.set_cons_succ]
      refine wpAnyH_ready (rs := [10]) (by kernel_rfl) (by simp) ?_
      refine (AllReadyH.cons (o := r4o7) rfl (fun K hK => ?_) AllReadyH.nil)
      rw [if_pos (by rfl)]
      have z0 := hz.1
      have zf := hz.2
      go_simp
      clear z0 zf
      have hcb := CB.put hr hz.1 hz.2
      have hgS := grown_own hgM (grown_set wM pA 0 (.slice aM g1.length cM)) (fun k hk => by cases hk; exact hge)
      obtain ⟨WS, hWS⟩ : ∃ z, World.setCell wM ⟨pA, 0, none⟩ (.slice aM g1.length cM) = z := ⟨_, rfl⟩
      rw [hWS] at hcb hgS ⊢
      clear hWS
      refine hK.out _ _ (HS.out _ hgS) (fun hHeld => ?_)
      clear hK K
      try simp only [Act.put, List.setIfInBounds_toArray, List.set_cons_zero, List.set_cons_succ]
      refine tk 11 r4o8 ?_ rfl (by kernel_rfl) (fun _ _ _ h => h) (by rfl) ?_ hHeld ?_
      rotate_left 1
      · (intro W hSW; (try dsimp only at hSW); first | (go_simp; done) | (go_simp; with_reducible rfl))
      try simp only [Act.put, List.setIfInBounds_toArray, List.set_cons_zero, List.set_cons_succ]
      refine wpAnyH_done (by kernel_rfl) ?_ _
      have hEND := hgS
      clear hHeld
      go_wp2_with fail
      go_meet
      exact ⟨pA, aM, cM, rfl, rfl, hge, hcb, hEND⟩
  case rest =>
    obtain ⟨bd, a1, c1, rfl, rfl, hle, hb, g⟩ := hcut
    obtain ⟨V1, rfl⟩ : ∃ z, z = wc := ⟨_, rfl⟩
    have SZd := Lib.hid (show V0.heap.size ≤ V1.heap.size from World.grownBy.size g)
    replace Hc := Lib.hid (Hc.out.grown g)
    replace HZ := Lib.hid (HZ.out.grown g)
    replace HG := Lib.hid (World.grownBy.trans HG.out g)
    clear g
    have Hd := Lib.hid hb
    have Ld := Lib.hid hle
    clear hb hle
    have qc := Hc.out.1
    have fc := Hc.out.2.1
    have qd := Hd.out.1
    have fd := Hd.out.2.1
    go_upto_region 2 with fail
    clear qc fc qd fd
    have HS := Lib.hid (fun (Wh : World) (hWh : V1.grownBy Wh none) => (⟨hWh.cell Hc.out.1 (by simp), hWh.cell Hd.out.1 (by simp)⟩ : (fun Wh : World => Wh.cell? ⟨w.heap.size, 0, none⟩ = some (.slice a gs.length c) ∧ Wh.cell? ⟨bd, 0, none⟩ = some (.slice a1 g1.length c1)) Wh))
    have HT := Lib.hid (fun (Wh : World) (hWh : V1.grownBy Wh (some W1.heap.size)) => (⟨hWh.cell Hc.out.1 (show some (w.heap.size) ≠ some W1.heap.size from fun e => by injection e with e; have := HSZ.out; omega), hWh.cell Hd.out.1 (show some (bd) ≠ some W1.heap.size from fun e => by injection e with e; have := Ld.out; have := HSB.out; omega)⟩ : (fun Wh : World => Wh.cell? ⟨w.heap.size, 0, none⟩ = some (.slice a gs.length c) ∧ Wh.cell? ⟨bd, 0, none⟩ = some (.slice a1 g1.length c1)) Wh))
    have hdr : V1.grownBy V1.drew none := ⟨rfl, rfl, rfl, Nat.le_refl _, fun _ _ _ => rfl⟩
    refine wp_region_held_drew (S := (fun Wh : World => Wh.cell? ⟨w.heap.size, 0, none⟩ = some (.slice a gs.length c) ∧ Wh.cell? ⟨bd, 0, none⟩ = some (.slice a1 g1.length c1))) (by kernel_rfl) (HS.out _ hdr) (fun hHeld => ?_)
    refine tk 0 ({ dst := some 19, op := Op.load 27 (Operand.tmp 8), type := 27, pos := "ref.go:97", after := #[], guard := none }) ?_ rfl (by kernel_rfl) (fun _ _ _ h => h) (by rfl) ?_ hHeld ?_
    rotate_left 1
    · (intro W hSW; (try dsimp only at hSW); first | (go_simp; done) | (go_simp; with_reducible rfl))
    try simp only [Act.put, List.setIfInBounds_toArray, List.set_cons_zero, List.set_cons_succ]
    refine tk 1 ({ dst := some 20, op := Op.move (Operand.tmp 9), type := 3, pos := "ref.go:97", after := #[], guard := none }) ?_ rfl (by kernel_rfl) (fun _ _ _ h => h) (by rfl) ?_ hHeld ?_
    rotate_left 1
    · (intro W hSW; (try dsimp only at hSW); first | (go_simp; done) | (go_simp; with_reducible rfl))
    try simp only [Act.put, List.setIfInBounds_toArray, List.set_cons_zero, List.set_cons_succ]
    refine wpAnyH_ready (rs := [2]) (by kernel_rfl) (by simp) ?_
    refine (AllReadyH.cons (o := { dst := some 21, op := Op.call { callee := Callee.value (Operand.func 18), args := #[Operand.tmp 20], argTypes := #[3] }, type := 3, pos := "ref.go:97", after := #[{ on := 1, ground := Ground.data }], guard := none }) rfl (fun K hK => ?_) AllReadyH.nil)
    rw [if_pos (by rfl)]
    go_simp
    go_at_call 18
    refine (rnot_at _ HR1.out).mono ?_
    rintro e w9 ⟨rfl, hw9⟩
    rw [hw9]
    clear hw9 w9
    go_wp2_with fail
    refine hK.out _ _ (HS.out _ hdr) (fun hHeld => ?_)
    clear hK K
    try simp only [Act.put, List.setIfInBounds_toArray, List.set_cons_zero, List.set_cons_succ]
    refine wpAnyH_ready (rs := [3]) (by kernel_rfl) (by simp) ?_
    refine (AllReadyH.cons (o := { dst := none, op := Op.store 27 (Operand.tmp 6) (Operand.tmp 19), type := 0, pos := "ref.go:97", after := #[{ on := 0, ground := Ground.data }, { on := 2, ground := Ground.chain }, { on := 0, ground := Ground.phase }, { on := 1, ground := Ground.textOnly Departure.lateStores }, { on := 2, ground := Ground.textOnly Departure.lateStoresUnsure }], guard := none }) rfl (fun K hK => ?_) AllReadyH.nil)
    rw [if_pos (by rfl)]
    have hzz := HZ.out
    have z0 := hzz.1
    have zf := hzz.2
    go_simp
    clear z0 zf
    have hcb := (CB.put Hd.out.2.2 hzz.1 hzz.2).grown ((⟨rfl, rfl, rfl, Nat.le_refl _, fun _ _ _ => rfl⟩ : (V1.setCell ⟨W1.heap.size, 0, none⟩ (.slice a1 g1.length c1)).grownBy (V1.setCell ⟨W1.heap.size, 0, none⟩ (.slice a1 g1.length c1)).drew none))
    have hgS := World.grownBy.trans (grown_own HG.out (grown_set V1 W1.heap.size 0 (.slice a1 g1.length c1)) (fun k hk => by cases hk; exact HS1.out)) ((⟨rfl, rfl, rfl, Nat.le_refl _, fun _ _ _ => rfl⟩ : (V1.setCell ⟨W1.heap.size, 0, none⟩ (.slice a1 g1.length c1)).grownBy (V1.setCell ⟨W1.heap.size, 0, none⟩ (.slice a1 g1.length c1)).drew none))
    have hgT : V1.grownBy ((V1.setCell ⟨W1.heap.size, 0, none⟩ (.slice a1 g1.length c1)).drew) (some W1.heap.size) := World.grownBy.trans (grown_set V1 W1.heap.size 0 _) (grown_any ((⟨rfl, rfl, rfl, Nat.le_refl _, fun _ _ _ => rfl⟩ : (V1.setCell ⟨W1.heap.size, 0, none⟩ (.slice a1 g1.length c1)).grownBy (V1.setCell ⟨W1.heap.size, 0, none⟩ (.slice a1 g1.length c1)).drew none)) _)
    obtain ⟨WS, hWS⟩ : ∃ z, (V1.setCell ⟨W1.heap.size, 0, none⟩ (.slice a1 g1.length c1)).drew = z := ⟨_, rfl⟩
    rw [hWS] at hcb hgS hgT ⊢
    clear hWS
    refine hK.out _ _ (HT.out _ hgT) (fun hHeld => ?_)
    clear hK K
    try simp only [Act.put, List.setIfInBounds_toArray, List.set_cons_zero, List.set_cons_succ]
    refine tk 4 ({ dst := some 7, op := Op.assign (Operand.tmp 21), type := 3, pos := "ref.go:97", after := #[{ on := 2, ground := Ground.data }, { on := 3, ground := Ground.chain }, { on := 0, ground := Ground.phase }, { on := 1, ground := Ground.phase }, { on := 2, ground := Ground.phase }, { on := 3, ground := Ground.phase }], guard := none }) ?_ rfl (by kernel_rfl) (fun _ _ _ h => h) (by rfl) ?_ hHeld ?_
    rotate_left 1
    · (intro W hSW; (try dsimp only at hSW); first | (go_simp; done) | (go_simp; with_reducible rfl))
    try simp only [Act.put, List.setIfInBounds_toArray, List.set_cons_zero, List.set_cons_succ]
    refine wpAnyH_done (by kernel_rfl) ?_ _
    have hEND := hgT
    clear hHeld
    go_wp2_with fail
    refine bodyPost_ret (results17 _ _ W1.heap.size a1 _ c1 _ rfl rfl hcb.1) rfl ⟨a1, c1, by unfold orC; rw [HE1.out], by unfold orC; rw [HE1.out]; exact hcb.2.2, hgS⟩

set_option maxRecDepth 100000 in
set_option maxHeartbeats 4000000 in
theorem riff_calls (gs : List Gt) (x y : Int) (a : Option Addr) (c : Nat) (w : World) (h : GatesW w a c gs) (hl : gs.length ≤ 890) (hG : Good gs) (hx : x ≤ 9223372036854775807) (hy : y ≤ 9223372036854775807) :
    Calls Tryd.prog 42 #[.agg #[.slice a gs.length c], .int .i64 x, .int .i64 y] w (Ans w (iffC gs x y).1 (iffC gs x y).2) := by
  have hg1 := World.grownBy_alloc w (.cells #[.slice a gs.length c] 27) none
  have hb1 := CB.new h
  obtain ⟨W1, hW1⟩ : ∃ W, w.alloc (.cells #[.slice a gs.length c] 27) = W := ⟨_, rfl⟩
  rw [hW1] at hg1 hb1
  have hg2 := World.grownBy_alloc W1 (.cells #[.slice none 0 0] 27) none
  have e2 := BoxZ.new W1
  obtain ⟨V0, hV0⟩ : ∃ W, W1.alloc (.cells #[.slice none 0 0] 27) = W := ⟨_, rfl⟩
  rw [hV0] at hg2 e2
  have Hc := Lib.hid (hb1.grown hg2)
  have HZ := Lib.hid e2
  have HG := Lib.hid (World.grownBy.trans hg1 hg2)
  have HL := Lib.hid (And.intro hl hG.pos)
  have HGD := Lib.hid hG
  have HB := Lib.hid (And.intro hx hy)
  have HS1 := Lib.hid (show w.heap.size ≤ W1.heap.size from hg1.size)
  have HSB := Lib.hid (show W1.heap.size < V0.heap.size from lies_lt e2.1)
  clear h hg1 hg2 hb1 e2 hl hG hx hy
  obtain ⟨g1, r1, e1⟩ : ∃ g r, andC gs x (notR y) = (g, r) := ⟨_, _, rfl⟩
  obtain ⟨g2, r2, e2⟩ : ∃ g r, andC g1 (notR x) y = (g, r) := ⟨_, _, rfl⟩
  obtain ⟨g3, r3, e3⟩ : ∃ g r, andC g2 (notR r1) (notR r2) = (g, r) := ⟨_, _, rfl⟩
  have HE1 := Lib.hid (And.intro e1 (And.intro e2 e3))
  have HEQ := Lib.hid (show iffC gs x y = (g3, r3) by unfold iffC; rw [e1]; simp only; rw [e2]; simp only; rw [e3])
  have HG1 := Lib.hid (show Good g1 from by have := (step_and HGD.out x (notR y)).good; rw [e1] at this; exact this)
  have HG2 := Lib.hid (show Good g2 from by have := (step_and HG1.out (notR x) y).good; rw [e2] at this; exact this)
  have HL1 := Lib.hid (show g1.length ≤ gs.length + 1 from by have := and_len (gs := gs) x (notR y); rw [e1] at this; exact this)
  have HL2 := Lib.hid (show g2.length ≤ g1.length + 1 from by have := and_len (gs := g1) (notR x) y; rw [e2] at this; exact this)
  have HR1 := Lib.hid (show r1 ≤ 9223372036854775807 from by have := and_le (gs := gs) HB.out.1 (notR_le HB.out.2) (by have := HL.out.1; omega); rw [e1] at this; exact this)
  have HR2 := Lib.hid (show r2 ≤ 9223372036854775807 from by have := and_le (gs := g1) (notR_le HB.out.1) HB.out.2 (by have := HL.out.1; have := HL1.out; omega); rw [e2] at this; exact this)
  clear e1 e2 e3
  have HSZ := Lib.hid (show w.heap.size < W1.heap.size from by rw [← hW1]; simp)
  go_enter Tryd.func42, Tryd.ntmps42
  have qc := Hc.out.1
  have fc := Hc.out.2.1
  go_upto_region 1 with fail
  clear qc fc
  clear hW1 hV0
  go_cut [8, 9] (fun s0 s1 wx => ∃ b a c, s0 = .pointer (some ⟨b, 0, none⟩) ∧ s1 = .int .i64 (r1) ∧ V0.heap.size ≤ b ∧ CB wx b a c g1 ∧ V0.grownBy wx none)
  case first =>
    have HS := Lib.hid (fun (Wh : World) (hWh : V0.grownBy Wh none) => (⟨hWh, hWh.cell Hc.out.1 (by simp)⟩ : (fun Wh : World => V0.grownBy Wh none ∧ Wh.cell? ⟨w.heap.size, 0, none⟩ = some (.slice a gs.length c)) Wh))
    have hdr : V0.grownBy V0.drew none := ⟨rfl, rfl, rfl, Nat.le_refl _, fun _ _ _ => rfl⟩
    refine wp_region_held_drew (S := (fun Wh : World => V0.grownBy Wh none ∧ Wh.cell? ⟨w.heap.size, 0, none⟩ = some (.slice a gs.length c))) (by kernel_rfl) (HS.out _ hdr) (fun hHeld => ?_)
    refine tk 0 ({ dst := some 13, op := Op.load 27 (Operand.tmp 3), type := 27, pos := "ref.go:102", after := #[], guard := none }) ?_ rfl (by kernel_rfl) (fun _ _ _ h => h) (by rfl) ?_ hHeld ?_
    rotate_left 1
    · (intro W hSW; (try dsimp only at hSW); first | (go_simp; done) | (go_simp; with_reducible rfl))
    try simp only [Act.put, List.setIfInBounds_toArray, List.set_cons_zero, List.set_cons_succ]
    refine tk 1 ({ dst := some 14, op := Op.move (Operand.tmp 1), type := 3, pos := "ref.go:102", after := #[], guard := none }) ?_ rfl (by kernel_rfl) (fun _ _ _ h => h) (by rfl) ?_ hHeld ?_
    rotate_left 1
    · (intro W hSW; (try dsimp only at hSW); first | (go_simp; done) | (go_simp; with_reducible rfl))
    try simp only [Act.put, List.setIfInBounds_toArray, List.set_cons_zero, List.set_cons_succ]
    refine tk 2 ({ dst := some 15, op := Op.move (Operand.tmp 2), type := 3, pos := "ref.go:102", after := #[], guard := none }) ?_ rfl (by kernel_rfl) (fun _ _ _ h => h) (by rfl) ?_ hHeld ?_
    rotate_left 1
    · (intro W hSW; (try dsimp only at hSW); first | (go_simp; done) | (go_simp; with_reducible rfl))
    try simp only [Act.put, List.setIfInBounds_toArray, List.set_cons_zero, List.set_cons_succ]
    refine wpAnyH_ready (rs := [3, 8]) (by kernel_rfl) (by simp) ?_
    refine (AllReadyH.cons (o := r4o9) rfl (fun K hK => ?_) (AllReadyH.cons (o := r4o10) rfl (fun K hK => ?_) AllReadyH.nil))
    · rw [if_pos (by rfl)]
      go_simp
      go_at_call 18
      refine (rnot_at _ (by first | exact HB.out.1 | exact HB.out.2)).mono ?_
      rintro e w9 ⟨rfl, hw9⟩
      rw [hw9]
      clear hw9 w9
      go_wp2_with fail
      refine hK.out _ _ (HS.out _ hdr) (fun hHeld => ?_)
      clear hK K
      try simp only [Act.put, List.setIfInBounds_toArray, List.set_cons_zero, List.set_cons_succ]
      refine wpAnyH_ready (rs := [4, 8]) (by kernel_rfl) (by simp) ?_
      refine (AllReadyH.cons (o := r4o11) rfl (fun K hK => ?_) (AllReadyH.cons (o := r4o10) rfl (fun K hK => ?_) AllReadyH.nil))
      · rw [if_pos (by rfl)]
        go_simp
        go_at_call 26
        refine (rand_at x (notR y) HE1.out.1 HGD.out (by have := HL.out.1; omega) HB.out.1 (notR_le HB.out.2) ((Hc.out.grown hdr)).2.2).mono ?_
        rintro e wM ⟨aM, cM, rfl, hr, gM⟩
        have hgM := World.grownBy.trans hdr gM
        go_wp2_with fail
        refine hK.out _ _ (HS.out _ hgM) (fun hHeld => ?_)
        clear hK K
        try simp only [Act.put, List.setIfInBounds_toArray, List.set_cons_zero, List.set_cons_succ]
        refine tk 5 r4o12 ?_ rfl (by kernel_rfl) (fun _ _ _ h => h) (by rfl) ?_ hHeld ?_
        rotate_left 1
        · (intro W hSW; (try dsimp only at hSW); first | (go_simp; done) | (go_simp; with_reducible rfl))
        try simp only [Act.put, List.setIfInBounds_toArray, List.set_cons_zero, List.set_cons_succ]
        refine tk 6 r4o13 ?_ rfl (by kernel_rfl) (fun _ _ _ h => h) (by rfl) ?_ hHeld ?_
        rotate_left 1
        · (intro W hSW; (try dsimp only at hSW); first | (go_simp; done) | (go_simp; with_reducible rfl))
        try simp only [Act.put, List.setIfInBounds_toArray, List.set_cons_zero, List.set_cons_succ]
        refine tk 7 r4o14 ?_ rfl (by kernel_rfl) (fun _ _ _ h => h) (by rfl) ?_ hHeld ?_
        rotate_left 1
        · (intro W hSW; (try dsimp only at hSW); first | (go_simp; done) | (go_simp; with_reducible rfl))
        try simp only [Act.put, List.setIfInBounds_toArray, List.set_cons_zero, List.set_cons_succ]
        refine wpAnyH_ready (rs := [8]) (by kernel_rfl) (by simp) ?_
        refine (AllReadyH.cons (o := r4o10) rfl (fun K hK => ?_) AllReadyH.nil)
        rw [if_pos (by rfl)]
        go_simp
        have hgA : V0.grownBy (World.alloc wM (.cells #[.slice none 0 0] 27)) none := World.grownBy.trans hgM (World.grownBy_alloc wM (.cells #[.slice none 0 0] 27) none)
        have hz : BoxZ (World.alloc wM (.cells #[.slice none 0 0] 27)) (wM.heap.size) := BoxZ.new wM
        have hge0 : V0.heap.size ≤ wM.heap.size := World.grownBy.size hgM
        have hge : ∀ p, wM.heap.size = p → V0.heap.size ≤ p := fun p e => by rw [← e]; exact hge0
        clear hge0
        replace hr := hr.grown (World.grownBy_alloc wM (.cells #[.slice none 0 0] 27) none)
        obtain ⟨WA, hWA⟩ : ∃ z, World.alloc wM (.cells #[.slice none 0 0] 27) = z := ⟨_, rfl⟩
        rw [hWA] at hgA hz ⊢
        rw [hWA] at hr
        clear hWA
        obtain ⟨pA, hpA⟩ : ∃ p, wM.heap.size = p := ⟨_, rfl⟩
        replace hge := hge pA hpA
        rw [hpA] at hz ⊢
        clear hpA
        refine hK.out _ _ (HS.out _ hgA) (fun hHeld => ?_)
        clear hK K
        try simp only [Act.put, List.setIfInBounds_toArray, List.set_cons_zero, List.set_cons_succ]
        refine wpAnyH_ready (rs := [9]) (by kernel_rfl) (by simp) ?_
        refine (AllReadyH.cons (o := r4o15) rfl (fun K hK => ?_) AllReadyH.nil)
        rw [if_pos (by rfl)]
        have z0 := hz.1
        have zf := hz.2
        go_simp
        clear z0 zf
        have hcb := CB.put hr hz.1 hz.2
        have hgS := grown_own hgA (grown_set WA pA 0 (.slice aM g1.length cM)) (fun k hk => by cases hk; exact hge)
        obtain ⟨WS, hWS⟩ : ∃ z, World.setCell WA ⟨pA, 0, none⟩ (.slice aM g1.length cM) = z := ⟨_, rfl⟩
        rw [hWS] at hcb hgS ⊢
        clear hWS
        refine hK.out _ _ (HS.out _ hgS) (fun hHeld => ?_)
        clear hK K
        try simp only [Act.put, List.setIfInBounds_toArray, List.set_cons_zero, List.set_cons_succ]
        refine tk 10 r4o16 ?_ rfl (by kernel_rfl) (fun _ _ _ h => h) (by rfl) ?_ hHeld ?_
        rotate_left 1
        · (intro W hSW; (try dsimp only at hSW); first | (go_simp; done) | (go_simp; with_reducible rfl))
        try simp only [Act.put, List.setIfInBounds_toArray, List.set_cons_zero, List.set_cons_succ]
        refine wpAnyH_done (by kernel_rfl) ?_ _
        have hEND := hgS
        clear hHeld
        go_wp2_with fail
        go_meet
        exact ⟨pA, aM, cM, rfl, rfl, hge, hcb, hEND⟩
      · rw [if_pos (by rfl)]
        go_simp
        have hgA : V0.grownBy ((World.alloc V0 (.cells #[.slice none 0 0] 27)).drew) none := World.grownBy.trans (World.grownBy_alloc V0 (.cells #[.slice none 0 0] 27) none) (⟨rfl, rfl, rfl, Nat.le_refl _, fun _ _ _ => rfl⟩ : (World.alloc V0 (.cells #[.slice none 0 0] 27)).grownBy (World.alloc V0 (.cells #[.slice none 0 0] 27)).drew none)
        have hz : BoxZ ((World.alloc V0 (.cells #[.slice none 0 0] 27)).drew) (V0.heap.size) := (BoxZ.new V0).grown (⟨rfl, rfl, rfl, Nat.le_refl _, fun _ _ _ => rfl⟩ : (World.alloc V0 (.cells #[.slice none 0 0] 27)).grownBy (World.alloc V0 (.cells #[.slice none 0 0] 27)).drew none)
        have hge0 : V0.heap.size ≤ V0.heap.size := Nat.le_refl _
        have hge : ∀ p, V0.heap.size = p → V0.heap.size ≤ p := fun p e => by rw [← e]; exact hge0
        clear hge0
        obtain ⟨WA, hWA⟩ : ∃ z, (World.alloc V0 (.cells #[.slice none 0 0] 27)).drew = z := ⟨_, rfl⟩
        rw [hWA] at hgA hz ⊢
        clear hWA
        obtain ⟨pA, hpA⟩ : ∃ p, V0.heap.size = p := ⟨_, rfl⟩
        replace hge := hge pA hpA
        rw [hpA] at hz ⊢
        clear hpA
        refine hK.out _ _ (HS.out _ hgA) (fun hHeld => ?_)
        clear hK K
        try simp only [Act.put, List.setIfInBounds_toArray, List.set_cons_zero, List.set_cons_succ]
        refine wpAnyH_ready (rs := [4]) (by kernel_rfl) (by simp) ?_
        refine (AllReadyH.cons (o := r4o11) rfl (fun K hK => ?_) AllReadyH.nil)
        rw [if_pos (by rfl)]
        go_simp
        go_at_call 26
        refine (rand_at x (notR y) HE1.out.1 HGD.out (by have := HL.out.1; omega) HB.out.1 (notR_le HB.out.2) ((Hc.out.grown hgA)).2.2).mono ?_
        rintro e wM ⟨aM, cM, rfl, hr, gM⟩
        have hgM := World.grownBy.trans hgA gM
        replace hz := hz.grown gM
        go_wp2_with fail
        refine hK.out _ _ (HS.out _ hgM) (fun hHeld => ?_)
        clear hK K
        try simp only [Act.put, List.setIfInBounds_toArray, List.set_cons_zero, List.set_cons_succ]
        refine tk 5 r4o12 ?_ rfl (by kernel_rfl) (fun _ _ _ h => h) (by rfl) ?_ hHeld ?_
        rotate_left 1
        · (intro W hSW; (try dsimp only at hSW); first | (go_simp; done) | (go_simp; with_reducible rfl))
        try simp only [Act.put, List.setIfInBounds_toArray, List.set_cons_zero, List.set_cons_succ]
        refine tk 6 r4o13 ?_ rfl (by kernel_rfl) (fun _ _ _ h => h) (by rfl) ?_ hHeld ?_
        rotate_left 1
        · (intro W hSW; (try dsimp only at hSW); first | (go_simp; done) | (go_simp; with_reducible rfl))
        try simp only [Act.put, List.setIfInBounds_toArray, List.set_cons_zero, List.set_cons_succ]
        refine tk 7 r4o14 ?_ rfl (by kernel_rfl) (fun _ _ _ h => h) (by rfl) ?_ hHeld ?_
        rotate_left 1
        · (intro W hSW; (try dsimp only at hSW); first | (go_simp; done) | (go_simp; with_reducible rfl))
        try simp only [Act.put, List.setIfInBounds_toArray, List.set_cons_zero, List.set_cons_succ]
        refine wpAnyH_ready (rs := [9]) (by kernel_rfl) (by simp) ?_
        refine (AllReadyH.cons (o := r4o15) rfl (fun K hK => ?_) AllReadyH.nil)
        rw [if_pos (by rfl)]
        have z0 := hz.1
        have zf := hz.2
        go_simp
        clear z0 zf
        have hcb := CB.put hr hz.1 hz.2
        have hgS := grown_own hgM (grown_set wM pA 0 (.slice aM g1.length cM)) (fun k hk => by cases hk; exact hge)
        obtain ⟨WS, hWS⟩ : ∃ z, World.setCell wM ⟨pA, 0, none⟩ (.slice aM g1.length cM) = z := ⟨_, rfl⟩
        rw [hWS] at hcb hgS ⊢
        clear hWS
        refine hK.out _ _ (HS.out _ hgS) (fun hHeld => ?_)
        clear hK K
        try simp only [Act.put, List.setIfInBounds_toArray, List.set_cons_zero, List.set_cons_succ]
        refine tk 10 r4o16 ?_ rfl (by kernel_rfl) (fun _ _ _ h => h) (by rfl) ?_ hHeld ?_
        rotate_left 1
        · (intro W hSW; (try dsimp only at hSW); first | (go_simp; done) | (go_simp; with_reducible rfl))
        try simp only [Act.put, List.setIfInBounds_toArray, List.set_cons_zero, List.set_cons_succ]
        refine wpAnyH_done (by kernel_rfl) ?_ _
        have hEND := hgS
        clear hHeld
        go_wp2_with fail
        go_meet
        exact ⟨pA, aM, cM, rfl, rfl, hge, hcb, hEND⟩
    · rw [if_pos (by rfl)]
      go_simp
      have hgA : V0.grownBy ((World.alloc V0 (.cells #[.slice none 0 0] 27)).drew) none := World.grownBy.trans (World.grownBy_alloc V0 (.cells #[.slice none 0 0] 27) none) (⟨rfl, rfl, rfl, Nat.le_refl _, fun _ _ _ => rfl⟩ : (World.alloc V0 (.cells #[.slice none 0 0] 27)).grownBy (World.alloc V0 (.cells #[.slice none 0 0] 27)).drew none)
      have hz : BoxZ ((World.alloc V0 (.cells #[.slice none 0 0] 27)).drew) (V0.heap.size) := (BoxZ.new V0).grown (⟨rfl, rfl, rfl, Nat.le_refl _, fun _ _ _ => rfl⟩ : (World.alloc V0 (.cells #[.slice none 0 0] 27)).grownBy (World.alloc V0 (.cells #[.slice none 0 0] 27)).drew none)
      have hge0 : V0.heap.size ≤ V0.heap.size := Nat.le_refl _
      have hge : ∀ p, V0.heap.size = p → V0.heap.size ≤ p := fun p e => by rw [← e]; exact hge0
      clear hge0
      obtain ⟨WA, hWA⟩ : ∃ z, (World.alloc V0 (.cells #[.slice none 0 0] 27)).drew = z := ⟨_, rfl⟩
      rw [hWA] at hgA hz ⊢
      clear hWA
      obtain ⟨pA, hpA⟩ : ∃ p, V0.heap.size = p := ⟨_, rfl⟩
      replace hge := hge pA hpA
      rw [hpA] at hz ⊢
      clear hpA
      refine hK.out _ _ (HS.out _ hgA) (fun hHeld => ?_)
      clear hK K
      try simp only [Act.put, List.setIfInBounds_toArray, List.set_cons_zero, List.set_cons_succ]
      refine wpAnyH_ready (rs := [3]) (by kernel_rfl) (by simp) ?_
      refine (AllReadyH.cons (o := r4o9) rfl (fun K hK => ?_) AllReadyH.nil)
      rw [if_pos (by rfl)]
      go_simp
      go_at_call 18
      refine (rnot_at _ (by first | exact HB.out.1 | exact HB.out.2)).mono ?_
      rintro e w9 ⟨rfl, hw9⟩
      rw [hw9]
      clear hw9 w9
      go_wp2_with fail
      refine hK.out _ _ (HS.out _ hgA) (fun hHeld => ?_)
      clear hK K
      try simp only [Act.put, List.setIfInBounds_toArray, List.set_cons_zero, List.set_cons_succ]
      refine wpAnyH_ready (rs := [4]) (by kernel_rfl) (by simp) ?_
      refine (AllReadyH.cons (o := r4o11) rfl (fun K hK => ?_) AllReadyH.nil)
      rw [if_pos (by rfl)]
      go_simp
      go_at_call 26
      refine (rand_at x (notR y) HE1.out.1 HGD.out (by have := HL.out.1; omega) HB.out.1 (notR_le HB.out.2) ((Hc.out.grown hgA)).2.2).mono ?_
      rintro e wM ⟨aM, cM, rfl, hr, gM⟩
      have hgM := World.grownBy.trans hgA gM
      replace hz := hz.grown gM
      go_wp2_with fail
      refine hK.out _ _ (HS.out _ hgM) (fun hHeld => ?_)
      clear hK K
      try simp only [Act.put, List.setIfInBounds_toArray, List.set_cons_zero, List.set_cons_succ]
      refine tk 5 r4o12 ?_ rfl (by kernel_rfl) (fun _ _ _ h => h) (by rfl) ?_ hHeld ?_
      rotate_left 1
      · (intro W hSW; (try dsimp only at hSW); first | (go_simp; done) | (go_simp; with_reducible rfl))
      try simp only [Act.put, List.setIfInBounds_toArray, List.set_cons_zero, List.set_cons_succ]
      refine tk 6 r4o13 ?_ rfl (by kernel_rfl) (fun _ _ _ h => h) (by rfl) ?_ hHeld ?_
      rotate_left 1
      · (intro W hSW; (try dsimp only at hSW); first | (go_simp; done) | (go_simp; with_reducible rfl))
      try simp only [Act.put, List.setIfInBounds_toArray, List.set_cons_zero, List.set_cons_succ]
      refine tk 7 r4o14 ?_ rfl (by kernel_rfl) (fun _ _ _ h => h) (by rfl) ?_ hHeld ?_
      rotate_left 1
      · (intro W hSW; (try dsimp only at hSW); first | (go_simp; done) | (go_simp; with_reducible rfl))
      try simp only [Act.put, List.setIfInBounds_toArray, List.set_cons_zero, List.set_cons_succ]
      refine wpAnyH_ready (rs := [9]) (by kernel_rfl) (by simp) ?_
      refine (AllReadyH.cons (o := r4o15) rfl (fun K hK => ?_) AllReadyH.nil)
      rw [if_pos (by rfl)]
      have z0 := hz.1
      have zf := hz.2
      go_simp
      clear z0 zf
      have hcb := CB.put hr hz.1 hz.2
      have hgS := grown_own hgM (grown_set wM pA 0 (.slice aM g1.length cM)) (fun k hk => by cases hk; exact hge)
      obtain ⟨WS, hWS⟩ : ∃ z, World.setCell wM ⟨pA, 0, none⟩ (.slice aM g1.length cM) = z := ⟨_, rfl⟩
      rw [hWS] at hcb hgS ⊢
      clear hWS
      refine hK.out _ _ (HS.out _ hgS) (fun hHeld => ?_)
      clear hK K
      try simp only [Act.put, List.setIfInBounds_toArray, List.set_cons_zero, List.set_cons_succ]
      refine tk 10 r4o16 ?_ rfl (by kernel_rfl) (fun _ _ _ h => h) (by rfl) ?_ hHeld ?_
      rotate_left 1
      · (intro W hSW; (try dsimp only at hSW); first | (go_simp; done) | (go_simp; with_reducible rfl))
      try simp only [Act.put, List.setIfInBounds_toArray, List.set_cons_zero, List.set_cons_succ]
      refine wpAnyH_done (by kernel_rfl) ?_ _
      have hEND := hgS
      clear hHeld
      go_wp2_with fail
      go_meet
      exact ⟨pA, aM, cM, rfl, rfl, hge, hcb, hEND⟩
  case rest =>
    obtain ⟨bd, a1, c1, rfl, rfl, hle, hb, g⟩ := hcut
    obtain ⟨V1, rfl⟩ : ∃ z, z = wc := ⟨_, rfl⟩
    have SZd := Lib.hid (show V0.heap.size ≤ V1.heap.size from World.grownBy.size g)
    replace Hc := Lib.hid (Hc.out.grown g)
    replace HZ := Lib.hid (HZ.out.grown g)
    replace HG := Lib.hid (World.grownBy.trans HG.out g)
    clear g
    have Hd := Lib.hid hb
    have Ld := Lib.hid hle
    clear hb hle
    have qc := Hc.out.1
    have fc := Hc.out.2.1
    have qd := Hd.out.1
    have fd := Hd.out.2.1
    go_upto_region 2 with fail
    clear qc fc qd fd
    go_cut [10, 11] (fun s0 s1 wx => ∃ b a c, s0 = .pointer (some ⟨b, 0, none⟩) ∧ s1 = .int .i64 (r2) ∧ V1.heap.size ≤ b ∧ CB wx b a c g2 ∧ V1.grownBy wx none)
    case first =>
      have HS := Lib.hid (fun (Wh : World) (hWh : V1.grownBy Wh none) => (⟨hWh, hWh.cell Hc.out.1 (by simp), hWh.cell Hd.out.1 (by simp)⟩ : (fun Wh : World => V1.grownBy Wh none ∧ Wh.cell? ⟨w.heap.size, 0, none⟩ = some (.slice a gs.length c) ∧ Wh.cell? ⟨bd, 0, none⟩ = some (.slice a1 g1.length c1)) Wh))
      have hdr : V1.grownBy V1.drew none := ⟨rfl, rfl, rfl, Nat.le_refl _, fun _ _ _ => rfl⟩
      refine wp_region_held_drew (S := (fun Wh : World => V1.grownBy Wh none ∧ Wh.cell? ⟨w.heap.size, 0, none⟩ = some (.slice a gs.length c) ∧ Wh.cell? ⟨bd, 0, none⟩ = some (.slice a1 g1.length c1))) (by kernel_rfl) (HS.out _ hdr) (fun hHeld => ?_)
      refine tk 0 ({ dst := some 21, op := Op.load 27 (Operand.tmp 8), type := 27, pos := "ref.go:103", after := #[], guard := none }) ?_ rfl (by kernel_rfl) (fun _ _ _ h => h) (by rfl) ?_ hHeld ?_
      rotate_left 1
      · (intro W hSW; (try dsimp only at hSW); first | (go_simp; done) | (go_simp; with_reducible rfl))
      try simp only [Act.put, List.setIfInBounds_toArray, List.set_cons_zero, List.set_cons_succ]
      refine tk 1 ({ dst := some 22, op := Op.move (Operand.tmp 1), type := 3, pos := "ref.go:103", after := #[], guard := none }) ?_ rfl (by kernel_rfl) (fun _ _ _ h => h) (by rfl) ?_ hHeld ?_
      rotate_left 1
      · (intro W hSW; (try dsimp only at hSW); first | (go_simp; done) | (go_simp; with_reducible rfl))
      try simp only [Act.put, List.setIfInBounds_toArray, List.set_cons_zero, List.set_cons_succ]
      refine tk 3 ({ dst := some 24, op := Op.move (Operand.tmp 2), type := 3, pos := "ref.go:103", after := #[], guard := none }) ?_ rfl (by kernel_rfl) (fun _ _ _ h => h) (by rfl) ?_ hHeld ?_
      rotate_left 1
      · (intro W hSW; (try dsimp only at hSW); first | (go_simp; done) | (go_simp; with_reducible rfl))
      try simp only [Act.put, List.setIfInBounds_toArray, List.set_cons_zero, List.set_cons_succ]
      refine wpAnyH_ready (rs := [2, 8]) (by kernel_rfl) (by simp) ?_
      refine (AllReadyH.cons (o := r4o17) rfl (fun K hK => ?_) (AllReadyH.cons (o := r4o18) rfl (fun K hK => ?_) AllReadyH.nil))
      · rw [if_pos (by rfl)]
        go_simp
        go_at_call 18
        refine (rnot_at _ (by first | exact HB.out.1 | exact HB.out.2)).mono ?_
        rintro e w9 ⟨rfl, hw9⟩
        rw [hw9]
        clear hw9 w9
        go_wp2_with fail
        refine hK.out _ _ (HS.out _ hdr) (fun hHeld => ?_)
        clear hK K
        try simp only [Act.put, List.setIfInBounds_toArray, List.set_cons_zero, List.set_cons_succ]
        refine wpAnyH_ready (rs := [4, 8]) (by kernel_rfl) (by simp) ?_
        refine (AllReadyH.cons (o := r4o19) rfl (fun K hK => ?_) (AllReadyH.cons (o := r4o18) rfl (fun K hK => ?_) AllReadyH.nil))
        · rw [if_pos (by rfl)]
          go_simp
          go_at_call 26
          refine (rand_at (notR x) y HE1.out.2.1 HG1.out (by have := HL.out.1; have := HL1.out; omega) (notR_le HB.out.1) HB.out.2 ((Hd.out.grown hdr)).2.2).mono ?_
          rintro e wM ⟨aM, cM, rfl, hr, gM⟩
          have hgM := World.grownBy.trans hdr gM
          go_wp2_with fail
          refine hK.out _ _ (HS.out _ hgM) (fun hHeld => ?_)
          clear hK K
          try simp only [Act.put, List.setIfInBounds_toArray, List.set_cons_zero, List.set_cons_succ]
          refine tk 5 r4o20 ?_ rfl (by kernel_rfl) (fun _ _ _ h => h) (by rfl) ?_ hHeld ?_
          rotate_left 1
          · (intro W hSW; (try dsimp only at hSW); first | (go_simp; done) | (go_simp; with_reducible rfl))
          try simp only [Act.put, List.setIfInBounds_toArray, List.set_cons_zero, List.set_cons_succ]
          refine tk 6 r4o21 ?_ rfl (by kernel_rfl) (fun _ _ _ h => h) (by rfl) ?_ hHeld ?_
          rotate_left 1
          · (intro W hSW; (try dsimp only at hSW); first | (go_simp; done) | (go_simp; with_reducible rfl))
          try simp only [Act.put, List.setIfInBounds_toArray, List.set_cons_zero, List.set_cons_succ]
          refine tk 7 r4o22 ?_ rfl (by kernel_rfl) (fun _ _ _ h => h) (by rfl) ?_ hHeld ?_
          rotate_left 1
          · (intro W hSW; (try dsimp only at hSW); first | (go_simp; done) | (go_simp; with_reducible rfl))
          try simp only [Act.put, List.setIfInBounds_toArray, List.set_cons_zero, List.set_cons_succ]
          refine wpAnyH_ready (rs := [8]) (by kernel_rfl) (by simp) ?_
          refine (AllReadyH.cons (o := r4o18) rfl (fun K hK => ?_) AllReadyH.nil)
          rw [if_pos (by rfl)]
          go_simp
          have hgA : V1.grownBy (World.alloc wM (.cells #[.slice none 0 0] 27)) none := World.grownBy.trans hgM (World.grownBy_alloc wM (.cells #[.slice none 0 0] 27) none)
          have hz : BoxZ (World.alloc wM (.cells #[.slice none 0 0] 27)) (wM.heap.size) := BoxZ.new wM
          have hge0 : V1.heap.size ≤ wM.heap.size := World.grownBy.size hgM
          have hge : ∀ p, wM.heap.size = p → V1.heap.size ≤ p := fun p e => by rw [← e]; exact hge0
          clear hge0
          replace hr := hr.grown (World.grownBy_alloc wM (.cells #[.slice none 0 0] 27) none)
          obtain ⟨WA, hWA⟩ : ∃ z, World.alloc wM (.cells #[.slice none 0 0] 27) = z := ⟨_, rfl⟩
          rw [hWA] at hgA hz ⊢
          rw [hWA] at hr
          clear hWA
          obtain ⟨pA, hpA⟩ : ∃ p, wM.heap.size = p := ⟨_, rfl⟩
          replace hge := hge pA hpA
          rw [hpA] at hz ⊢
          clear hpA
          refine hK.out _ _ (HS.out _ hgA) (fun hHeld => ?_)
          clear hK K
          try simp only [Act.put, List.setIfInBounds_toArray, List.set_cons_zero, List.set_cons_succ]
          refine wpAnyH_ready (rs := [9]) (by kernel_rfl) (by simp) ?_
          refine (AllReadyH.cons (o := r4o23) rfl (fun K hK => ?_) AllReadyH.nil)
          rw [if_pos (by rfl)]
          have z0 := hz.1
          have zf := hz.2
          go_simp
          clear z0 zf
          have hcb := CB.put hr hz.1 hz.2
          have hgS := grown_own hgA (grown_set WA pA 0 (.slice aM g2.length cM)) (fun k hk => by cases hk; exact hge)
          obtain ⟨WS, hWS⟩ : ∃ z, World.setCell WA ⟨pA, 0, none⟩ (.slice aM g2.length cM) = z := ⟨_, rfl⟩
          rw [hWS] at hcb hgS ⊢
          clear hWS
          refine hK.out _ _ (HS.out _ hgS) (fun hHeld => ?_)
          clear hK K
          try simp only [Act.put, List.setIfInBounds_toArray, List.set_cons_zero, List.set_cons_succ]
          refine tk 10 r4o24 ?_ rfl (by kernel_rfl) (fun _ _ _ h => h) (by rfl) ?_ hHeld ?_
          rotate_left 1
          · (intro W hSW; (try dsimp only at hSW); first | (go_simp; done) | (go_simp; with_reducible rfl))
          try simp only [Act.put, List.setIfInBounds_toArray, List.set_cons_zero, List.set_cons_succ]
          refine wpAnyH_done (by kernel_rfl) ?_ _
          have hEND := hgS
          clear hHeld
          go_wp2_with fail
          go_meet
          exact ⟨pA, aM, cM, rfl, rfl, hge, hcb, hEND⟩
        · rw [if_pos (by rfl)]
          go_simp
          have hgA : V1.grownBy ((World.alloc V1 (.cells #[.slice none 0 0] 27)).drew) none := World.grownBy.trans (World.grownBy_alloc V1 (.cells #[.slice none 0 0] 27) none) (⟨rfl, rfl, rfl, Nat.le_refl _, fun _ _ _ => rfl⟩ : (World.alloc V1 (.cells #[.slice none 0 0] 27)).grownBy (World.alloc V1 (.cells #[.slice none 0 0] 27)).drew none)
          have hz : BoxZ ((World.alloc V1 (.cells #[.slice none 0 0] 27)).drew) (V1.heap.size) := (BoxZ.new V1).grown (⟨rfl, rfl, rfl, Nat.le_refl _, fun _ _ _ => rfl⟩ : (World.alloc V1 (.cells #[.slice none 0 0] 27)).grownBy (World.alloc V1 (.cells #[.slice none 0 0] 27)).drew none)
          have hge0 : V1.heap.size ≤ V1.heap.size := Nat.le_refl _
          have hge : ∀ p, V1.heap.size = p → V1.heap.size ≤ p := fun p e => by rw [← e]; exact hge0
          clear hge0
          obtain ⟨WA, hWA⟩ : ∃ z, (World.alloc V1 (.cells #[.slice none 0 0] 27)).drew = z := ⟨_, rfl⟩
          rw [hWA] at hgA hz ⊢
          clear hWA
          obtain ⟨pA, hpA⟩ : ∃ p, V1.heap.size = p := ⟨_, rfl⟩
          replace hge := hge pA hpA
          rw [hpA] at hz ⊢
          clear hpA
          refine hK.out _ _ (HS.out _ hgA) (fun hHeld => ?_)
          clear hK K
          try simp only [Act.put, List.setIfInBounds_toArray, List.set_cons_zero, List.set_cons_succ]
          refine wpAnyH_ready (rs := [4]) (by kernel_rfl) (by simp) ?_
          refine (AllReadyH.cons (o := r4o19) rfl (fun K hK => ?_) AllReadyH.nil)
          rw [if_pos (by rfl)]
          go_simp
          go_at_call 26
          refine (rand_at (notR x) y HE1.out.2.1 HG1.out (by have := HL.out.1; have := HL1.out; omega) (notR_le HB.out.1) HB.out.2 ((Hd.out.grown hgA)).2.2).mono ?_
          rintro e wM ⟨aM, cM, rfl, hr, gM⟩
          have hgM := World.grownBy.trans hgA gM
          replace hz := hz.grown gM
          go_wp2_with fail
          refine hK.out _ _ (HS.out _ hgM) (fun hHeld => ?_)
          clear hK K
          try simp only [Act.put, List.setIfInBounds_toArray, List.set_cons_zero, List.set_cons_succ]
          refine tk 5 r4o20 ?_ rfl (by kernel_rfl) (fun _ _ _ h => h) (by rfl) ?_ hHeld ?_
          rotate_left 1
          · (intro W hSW; (try dsimp only at hSW); first | (go_simp; done) | (go_simp; with_reducible rfl))
          try simp only [Act.put, List.setIfInBounds_toArray, List.set_cons_zero, List.set_cons_succ]
          refine tk 6 r4o21 ?_ rfl (by kernel_rfl) (fun _ _ _ h => h) (by rfl) ?_ hHeld ?_
          rotate_left 1
          · (intro W hSW; (try dsimp only at hSW); first | (go_simp; done) | (go_simp; with_reducible rfl))
          try simp only [Act.put, List.setIfInBounds_toArray, List.set_cons_zero, List.set_cons_succ]
          refine tk 7 r4o22 ?_ rfl (by kernel_rfl) (fun _ _ _ h => h) (by rfl) ?_ hHeld ?_
          rotate_left 1
          · (intro W hSW; (try dsimp only at hSW); first | (go_simp; done) | (go_simp; with_reducible rfl))
          try simp only [Act.put, List.setIfInBounds_toArray, List.set_cons_zero, List.set_cons_succ]
          refine wpAnyH_ready (rs := [9]) (by kernel_rfl) (by simp) ?_
          refine (AllReadyH.cons (o := r4o23) rfl (fun K hK => ?_) AllReadyH.nil)
          rw [if_pos (by rfl)]
          have z0 := hz.1
          have zf := hz.2
          go_simp
          clear z0 zf
          have hcb := CB.put hr hz.1 hz.2
          have hgS := grown_own hgM (grown_set wM pA 0 (.slice aM g2.length cM)) (fun k hk => by cases hk; exact hge)
          obtain ⟨WS, hWS⟩ : ∃ z, World.setCell wM ⟨pA, 0, none⟩ (.slice aM g2.length cM) = z := ⟨_, rfl⟩
          rw [hWS] at hcb hgS ⊢
          clear hWS
          refine hK.out _ _ (HS.out _ hgS) (fun hHeld => ?_)
          clear hK K
          try simp only [Act.put, List.setIfInBounds_toArray, List.set_cons_zero, List.set_cons_succ]
          refine tk 10 r4o24 ?_ rfl (by kernel_rfl) (fun _ _ _ h => h) (by rfl) ?_ hHeld ?_
          rotate_left 1
          · (intro W hSW; (try dsimp only at hSW); first | (go_simp; done) | (go_simp; with_reducible rfl))
          try simp only [Act.put, List.setIfInBounds_toArray, List.set_cons_zero, List.set_cons_succ]
          refine wpAnyH_done (by kernel_rfl) ?_ _
          have hEND := hgS
          clear hHeld
          go_wp2_with fail
          go_meet
          exact ⟨pA, aM, cM, rfl, rfl, hge, hcb, hEND⟩
      · rw [if_pos (by rfl)]
        go_simp
        have hgA : V1.grownBy ((World.alloc V1 (.cells #[.slice none 0 0] 27)).drew) none := World.grownBy.trans (World.grownBy_alloc V1 (.cells #[.slice none 0 0] 27) none) (⟨rfl, rfl, rfl, Nat.le_refl _, fun _ _ _ => rfl⟩ : (World.alloc V1 (.cells #[.slice none 0 0] 27)).grownBy (World.alloc V1 (.cells #[.slice none 0 0] 27)).drew none)
        have hz : BoxZ ((World.alloc V1 (.cells #[.slice none 0 0] 27)).drew) (V1.heap.size) := (BoxZ.new V1).grown (⟨rfl, rfl, rfl, Nat.le_refl _, fun _ _ _ => rfl⟩ : (World.alloc V1 (.cells #[.slice none 0 0] 27)).grownBy (World.alloc V1 (.cells #[.slice none 0 0] 27)).drew none)
        have hge0 : V1.heap.size ≤ V1.heap.size := Nat.le_refl _
        have hge : ∀ p, V1.heap.size = p → V1.heap.size ≤ p := fun p e => by rw [← e]; exact hge0
        clear hge0
        obtain ⟨WA, hWA⟩ : ∃ z, (World.alloc V1 (.cells #[.slice none 0 0] 27)).drew = z := ⟨_, rfl⟩
        rw [hWA] at hgA hz ⊢
        clear hWA
        obtain ⟨pA, hpA⟩ : ∃ p, V1.heap.size = p := ⟨_, rfl⟩
        replace hge := hge pA hpA
        rw [hpA] at hz ⊢
        clear hpA
        refine hK.out _ _ (HS.out _ hgA) (fun hHeld => ?_)
        clear hK K
        try simp only [Act.put, List.setIfInBounds_toArray, List.set_cons_zero, List.set_cons_succ]
        refine wpAnyH_ready (rs := [2]) (by kernel_rfl) (by simp) ?_
        refine (AllReadyH.cons (o := r4o17) rfl (fun K hK => ?_) AllReadyH.nil)
        rw [if_pos (by rfl)]
        go_simp
        go_at_call 18
        refine (rnot_at _ (by first | exact HB.out.1 | exact HB.out.2)).mono ?_
        rintro e w9 ⟨rfl, hw9⟩
        rw [hw9]
        clear hw9 w9
        go_wp2_with fail
        refine hK.out _ _ (HS.out _ hgA) (fun hHeld => ?_)
        clear hK K
        try simp only [Act.put, List.setIfInBounds_toArray, List.set_cons_zero, List.set_cons_succ]
        refine wpAnyH_ready (rs := [4]) (by kernel_rfl) (by simp) ?_
        refine (AllReadyH.cons (o := r4o19) rfl (fun K hK => ?_) AllReadyH.nil)
        rw [if_pos (by rfl)]
        go_simp
        go_at_call 26
        refine (rand_at (notR x) y HE1.out.2.1 HG1.out (by have := HL.out.1; have := HL1.out; omega) (notR_le HB.out.1) HB.out.2 ((Hd.out.grown hgA)).2.2).mono ?_
        rintro e wM ⟨aM, cM, rfl, hr, gM⟩
        have hgM := World.grownBy.trans hgA gM
        replace hz := hz.grown gM
        go_wp2_with fail
        refine hK.out _ _ (HS.out _ hgM) (fun hHeld => ?_)
        clear hK K
        try simp only [Act.put, List.setIfInBounds_toArray, List.set_cons_zero, List.set_cons_succ]
        refine tk 5 r4o20 ?_ rfl (by kernel_rfl) (fun _ _ _ h => h) (by rfl) ?_ hHeld ?_
        rotate_left 1
        · (intro W hSW; (try dsimp only at hSW); first | (go_simp; done) | (go_simp; with_reducible rfl))
        try simp only [Act.put, List.setIfInBounds_toArray, List.set_cons_zero, List.set_cons_succ]
        refine tk 6 r4o21 ?_ rfl (by kernel_rfl) (fun _ _ _ h => h) (by rfl) ?_ hHeld ?_
        rotate_left 1
        · (intro W hSW; (try dsimp only at hSW); first | (go_simp; done) | (go_simp; with_reducible rfl))
        try simp only [Act.put, List.setIfInBounds_toArray, List.set_cons_zero, List.set_cons_succ]
        refine tk 7 r4o22 ?_ rfl (by kernel_rfl) (fun _ _ _ h => h) (by rfl) ?_ hHeld ?_
        rotate_left 1
        · (intro W hSW; (try dsimp only at hSW); first | (go_simp; done) | (go_simp; with_reducible rfl))
        try simp only [Act.put, List.setIfInBounds_toArray, List.set_cons_zero, List.set_cons_succ]
        refine wpAnyH_ready (rs := [9]) (by kernel_rfl) (by simp) ?_
        refine (AllReadyH.cons (o := r4o23) rfl (fun K hK => ?_) AllReadyH.nil)
        rw [if_pos (by rfl)]
        have z0 := hz.1
        have zf := hz.2
        go_simp
        clear z0 zf
        have hcb := CB.put hr hz.1 hz.2
        have hgS := grown_own hgM (grown_set wM pA 0 (.slice aM g2.length cM)) (fun k hk => by cases hk; exact hge)
        obtain ⟨WS, hWS⟩ : ∃ z, World.setCell wM ⟨pA, 0, none⟩ (.slice aM g2.length cM) = z := ⟨_, rfl⟩
        rw [hWS] at hcb hgS ⊢
        clear hWS
        refine hK.out _ _ (HS.out _ hgS) (fun hHeld => ?_)
        clear hK K
        try simp only [Act.put, List.setIfInBounds_toArray, List.set_cons_zero, List.set_cons_succ]
        refine tk 10 r4o24 ?_ rfl (by kernel_rfl) (fun _ _ _ h => h) (by rfl) ?_ hHeld ?_
        rotate_left 1
        · (intro W hSW; (try dsimp only at hSW); first | (go_simp; done) | (go_simp; with_reducible rfl))
        try simp only [Act.put, List.setIfInBounds_toArray, List.set_cons_zero, List.set_cons_succ]
        refine wpAnyH_done (by kernel_rfl) ?_ _
        have hEND := hgS
        clear hHeld
        go_wp2_with fail
        go_meet
        exact ⟨pA, aM, cM, rfl, rfl, hge, hcb, hEND⟩
    case rest =>
      obtain ⟨be, a2, c2, rfl, rfl, hle, hb, g⟩ := hcut
      obtain ⟨V2, rfl⟩ : ∃ z, z = wc := ⟨_, rfl⟩
      have SZe := Lib.hid (show V1.heap.size ≤ V2.heap.size from World.grownBy.size g)
      replace Hc := Lib.hid (Hc.out.grown g)
      replace Hd := Lib.hid (Hd.out.grown g)
      replace HZ := Lib.hid (HZ.out.grown g)
      replace HG := Lib.hid (World.grownBy.trans HG.out g)
      clear g
      have He := Lib.hid hb
      have Le := Lib.hid hle
      clear hb hle
      have qc := Hc.out.1
      have fc := Hc.out.2.1
      have qd := Hd.out.1
      have fd := Hd.out.2.1
      have qe := He.out.1
      have fe := He.out.2.1
      go_upto_region 3 with fail
      clear qc fc qd fd qe fe
      have HS := Lib.hid (fun (Wh : World) (hWh : V2.grownBy Wh none) => (⟨hWh.cell Hc.out.1 (by simp), hWh.cell Hd.out.1 (by simp), hWh.cell He.out.1 (by simp)⟩ : (fun Wh : World => Wh.cell? ⟨w.heap.size, 0, none⟩ = some (.slice a gs.length c) ∧ Wh.cell? ⟨bd, 0, none⟩ = some (.slice a1 g1.length c1) ∧ Wh.cell? ⟨be, 0, none⟩ = some (.slice a2 g2.length c2)) Wh))
      have HT := Lib.hid (fun (Wh : World) (hWh : V2.grownBy Wh (some W1.heap.size)) => (⟨hWh.cell Hc.out.1 (show some (w.heap.size) ≠ some W1.heap.size from fun e => by injection e with e; have := HSZ.out; omega), hWh.cell Hd.out.1 (show some (bd) ≠ some W1.heap.size from fun e => by injection e with e; have := Ld.out; have := HSB.out; omega), hWh.cell He.out.1 (show some (be) ≠ some W1.heap.size from fun e => by injection e with e; have := Le.out; have := SZd.out; have := HSB.out; omega)⟩ : (fun Wh : World => Wh.cell? ⟨w.heap.size, 0, none⟩ = some (.slice a gs.length c) ∧ Wh.cell? ⟨bd, 0, none⟩ = some (.slice a1 g1.length c1) ∧ Wh.cell? ⟨be, 0, none⟩ = some (.slice a2 g2.length c2)) Wh))
      have hdr : V2.grownBy V2.drew none := ⟨rfl, rfl, rfl, Nat.le_refl _, fun _ _ _ => rfl⟩
      refine wp_region_held_drew (S := (fun Wh : World => Wh.cell? ⟨w.heap.size, 0, none⟩ = some (.slice a gs.length c) ∧ Wh.cell? ⟨bd, 0, none⟩ = some (.slice a1 g1.length c1) ∧ Wh.cell? ⟨be, 0, none⟩ = some (.slice a2 g2.length c2))) (by kernel_rfl) (HS.out _ hdr) (fun hHeld => ?_)
      refine tk 0 ({ dst := some 28, op := Op.load 27 (Operand.tmp 10), type := 27, pos := "ref.go:104", after := #[], guard := none }) ?_ rfl (by kernel_rfl) (fun _ _ _ h => h) (by rfl) ?_ hHeld ?_
      rotate_left 1
      · (intro W hSW; (try dsimp only at hSW); first | (go_simp; done) | (go_simp; with_reducible rfl))
      try simp only [Act.put, List.setIfInBounds_toArray, List.set_cons_zero, List.set_cons_succ]
      refine tk 1 ({ dst := some 29, op := Op.move (Operand.tmp 9), type := 3, pos := "ref.go:104", after := #[], guard := none }) ?_ rfl (by kernel_rfl) (fun _ _ _ h => h) (by rfl) ?_ hHeld ?_
      rotate_left 1
      · (intro W hSW; (try dsimp only at hSW); first | (go_simp; done) | (go_simp; with_reducible rfl))
      try simp only [Act.put, List.setIfInBounds_toArray, List.set_cons_zero, List.set_cons_succ]
      refine tk 3 ({ dst := some 31, op := Op.move (Operand.tmp 11), type := 3, pos := "ref.go:104", after := #[], guard := none }) ?_ rfl (by kernel_rfl) (fun _ _ _ h => h) (by rfl) ?_ hHeld ?_
      rotate_left 1
      · (intro W hSW; (try dsimp only at hSW); first | (go_simp; done) | (go_simp; with_reducible rfl))
      try simp only [Act.put, List.setIfInBounds_toArray, List.set_cons_zero, List.set_cons_succ]
      refine wpAnyH_ready (rs := [2]) (by kernel_rfl) (by simp) ?_
      refine (AllReadyH.cons (o := { dst := some 30, op := Op.call { callee := Callee.value (Operand.func 18), args := #[Operand.tmp 29], argTypes := #[3] }, type := 3, pos := "ref.go:104", after := #[{ on := 1, ground := Ground.data }], guard := none }) rfl (fun K hK => ?_) AllReadyH.nil)
      rw [if_pos (by rfl)]
      go_simp
      go_at_call 18
      refine (rnot_at _ (by first | exact HR1.out | exact HR2.out)).mono ?_
      rintro e w9 ⟨rfl, hw9⟩
      rw [hw9]
      clear hw9 w9
      go_wp2_with fail
      refine hK.out _ _ (HS.out _ hdr) (fun hHeld => ?_)
      clear hK K
      try simp only [Act.put, List.setIfInBounds_toArray, List.set_cons_zero, List.set_cons_succ]
      refine wpAnyH_ready (rs := [4]) (by kernel_rfl) (by simp) ?_
      refine (AllReadyH.cons (o := { dst := some 32, op := Op.call { callee := Callee.value (Operand.func 18), args := #[Operand.tmp 31], argTypes := #[3] }, type := 3, pos := "ref.go:104", after := #[{ on := 3, ground := Ground.data }, { on := 2, ground := Ground.chain }], guard := none }) rfl (fun K hK => ?_) AllReadyH.nil)
      rw [if_pos (by rfl)]
      go_simp
      go_at_call 18
      refine (rnot_at _ (by first | exact HR1.out | exact HR2.out)).mono ?_
      rintro e w9 ⟨rfl, hw9⟩
      rw [hw9]
      clear hw9 w9
      go_wp2_with fail
      refine hK.out _ _ (HS.out _ hdr) (fun hHeld => ?_)
      clear hK K
      try simp only [Act.put, List.setIfInBounds_toArray, List.set_cons_zero, List.set_cons_succ]
      refine wpAnyH_ready (rs := [5]) (by kernel_rfl) (by simp) ?_
      refine (AllReadyH.cons (o := { dst := some 33, op := Op.call { callee := Callee.value (Operand.func 26), args := #[Operand.tmp 28, Operand.tmp 30, Operand.tmp 32], argTypes := #[27, 3, 3] }, type := 50, pos := "ref.go:104", after := #[{ on := 0, ground := Ground.data }, { on := 2, ground := Ground.data }, { on := 4, ground := Ground.data }, { on := 4, ground := Ground.chain }], guard := none }) rfl (fun K hK => ?_) AllReadyH.nil)
      rw [if_pos (by rfl)]
      go_simp
      go_at_call 26
      refine (rand_at (notR r1) (notR r2) HE1.out.2.2 HG2.out (by have := HL.out.1; have := HL1.out; have := HL2.out; omega) (notR_le HR1.out) (notR_le HR2.out) ((He.out.grown hdr)).2.2).mono ?_
      rintro e wM ⟨aM, cM, rfl, hr, gM⟩
      have hgM := World.grownBy.trans hdr gM
      go_wp2_with fail
      refine hK.out _ _ (HS.out _ hgM) (fun hHeld => ?_)
      clear hK K
      try simp only [Act.put, List.setIfInBounds_toArray, List.set_cons_zero, List.set_cons_succ]
      refine tk 6 ({ dst := some 34, op := Op.extract (Operand.tmp 33) 0, type := 27, pos := "ref.go:104", after := #[{ on := 5, ground := Ground.data }], guard := none }) ?_ rfl (by kernel_rfl) (fun _ _ _ h => h) (by rfl) ?_ hHeld ?_
      rotate_left 1
      · (intro W hSW; (try dsimp only at hSW); first | (go_simp; done) | (go_simp; with_reducible rfl))
      try simp only [Act.put, List.setIfInBounds_toArray, List.set_cons_zero, List.set_cons_succ]
      refine tk 7 ({ dst := some 35, op := Op.extract (Operand.tmp 33) 1, type := 3, pos := "ref.go:104", after := #[{ on := 5, ground := Ground.data }], guard := none }) ?_ rfl (by kernel_rfl) (fun _ _ _ h => h) (by rfl) ?_ hHeld ?_
      rotate_left 1
      · (intro W hSW; (try dsimp only at hSW); first | (go_simp; done) | (go_simp; with_reducible rfl))
      try simp only [Act.put, List.setIfInBounds_toArray, List.set_cons_zero, List.set_cons_succ]
      refine wpAnyH_ready (rs := [8]) (by kernel_rfl) (by simp) ?_
      refine (AllReadyH.cons (o := { dst := none, op := Op.store 27 (Operand.tmp 6) (Operand.tmp 34), type := 0, pos := "ref.go:104", after := #[{ on := 6, ground := Ground.data }, { on := 5, ground := Ground.chain }, { on := 0, ground := Ground.phase }, { on := 1, ground := Ground.phase }, { on := 2, ground := Ground.phase }, { on := 3, ground := Ground.phase }, { on := 4, ground := Ground.phase }, { on := 5, ground := Ground.phase }, { on := 6, ground := Ground.phase }, { on := 7, ground := Ground.phase }], guard := none }) rfl (fun K hK => ?_) AllReadyH.nil)
      rw [if_pos (by rfl)]
      have hzz := HZ.out.grown hgM
      have z0 := hzz.1
      have zf := hzz.2
      go_simp
      clear z0 zf
      have hrow := hr
      obtain ⟨ws, hws⟩ : ∃ z, wM = z := ⟨_, rfl⟩
      rw [hws] at hzz hrow ⊢
      have hgw := hgM
      rw [hws] at hgw
      clear hws
      have hcb := CB.put hrow hzz.1 hzz.2
      have hgS := grown_own (World.grownBy.trans HG.out hgw) (grown_set ws W1.heap.size 0 (.slice aM g3.length cM)) (fun k hk => by cases hk; exact HS1.out)
      have hgT : V2.grownBy (ws.setCell ⟨W1.heap.size, 0, none⟩ (.slice aM g3.length cM)) (some W1.heap.size) := World.grownBy.trans (grown_any hgw _) (grown_set ws W1.heap.size 0 _)
      obtain ⟨WS, hWS⟩ : ∃ z, ws.setCell ⟨W1.heap.size, 0, none⟩ (.slice aM g3.length cM) = z := ⟨_, rfl⟩
      rw [hWS] at hcb hgS hgT ⊢
      clear hWS
      refine hK.out _ _ (HT.out _ hgT) (fun hHeld => ?_)
      clear hK K
      try simp only [Act.put, List.setIfInBounds_toArray, List.set_cons_zero, List.set_cons_succ]
      refine tk 9 ({ dst := some 7, op := Op.assign (Operand.tmp 35), type := 3, pos := "ref.go:104", after := #[{ on := 7, ground := Ground.data }, { on := 8, ground := Ground.chain }, { on := 0, ground := Ground.phase }, { on := 1, ground := Ground.phase }, { on := 2, ground := Ground.phase }, { on := 3, ground := Ground.phase }, { on := 4, ground := Ground.phase }, { on := 5, ground := Ground.phase }, { on := 6, ground := Ground.phase }, { on := 7, ground := Ground.phase }, { on := 8, ground := Ground.phase }], guard := none }) ?_ rfl (by kernel_rfl) (fun _ _ _ h => h) (by rfl) ?_ hHeld ?_
      rotate_left 1
      · (intro W hSW; (try dsimp only at hSW); first | (go_simp; done) | (go_simp; with_reducible rfl))
      try simp only [Act.put, List.setIfInBounds_toArray, List.set_cons_zero, List.set_cons_succ]
      refine wpAnyH_done (by kernel_rfl) ?_ _
      have hEND := hgT
      clear hHeld
      go_wp2_with fail
      refine bodyPost_ret (results19 _ _ W1.heap.size aM _ cM _ rfl rfl hcb.1) rfl ⟨aM, cM, by rw [HEQ.out], by rw [HEQ.out]; exact hcb.2.2, hgS⟩

theorem results32 (tmps : Array Value) (w : World) (b : Nat) (a : Option Addr) (n c : Nat) (ht : tmps.getD 0 undef = .pointer (some ⟨b, 0, none⟩)) (h0 : w.cell? ⟨b, 0, none⟩ = some (.slice a n c)) :
    (results Tryd.f25 tmps).run Tryd.prog w = .ok (.agg #[.slice a n c]) w := by
  have ht' : tmps[0]?.getD undef = .pointer (some ⟨b, 0, none⟩) := by simpa using ht
  simp [results, ht', go_sem, h0, Result.andThen]
set_option maxHeartbeats 1000000 in
theorem rnew_calls (w : World) : Calls Tryd.prog 25 #[] w fun e w' => ∃ y, e = .returned y ∧ CirV w' y [(0, 0, 0)] ∧ w.grownBy w' none := by
  have hg1 := World.grownBy_alloc w (.cells #[.slice none 0 0] 27) none
  have e1 := one_cell w (.slice none 0 0) 27
  obtain ⟨W1, hW1⟩ : ∃ W, w.alloc (.cells #[.slice none 0 0] 27) = W := ⟨_, rfl⟩
  rw [hW1] at hg1 e1
  have hg2 := World.grownBy_alloc W1 (.cells #[.int .i64 0, .int .i64 0, .int .i64 0] 58) none
  have hx := gate_cells W1 (0, 0, 0)
  have ht := ty_alloc W1 #[.int .i64 0, .int .i64 0, .int .i64 0]
  obtain ⟨W2, hW2⟩ : ∃ W, W1.alloc (.cells #[.int .i64 0, .int .i64 0, .int .i64 0] 58) = W := ⟨_, rfl⟩
  rw [hW2] at hg2 hx ht
  have r1 := hg2.cell e1.2.1 (by simp)
  have HE := Lib.hid e1
  have rf : W2.frozen? ⟨w.heap.size, 0, none⟩ = false := (grown_frozen hg2 e1.1 0).trans e1.2.2
  have HG := Lib.hid (World.grownBy.trans hg1 hg2)
  have HX := Lib.hid (And.intro hx ht)
  clear hg1 hg2 hx ht e1
  go_enter Tryd.func25, Tryd.ntmps25
  go_wp2_with fail
  refine bodyPost_ret (results32 _ _ w.heap.size _ 1 1 rfl (World.cell?_setCell_same _ _ _ r1)) rfl ⟨_, rfl, ⟨_, 1, rfl, gate_news (HX.out.1.moved (grown_set W2 w.heap.size 0 _) (fun e => by injection e with e; have := HE.out.1; omega)) (HX.out.2.set _ _)⟩, grown_own HG.out (grown_set W2 w.heap.size 0 _) (fun k e => by cases e; exact Nat.le_refl _)⟩
theorem ror_at {gs g : List Gt} {r : Int} {a : Option Addr} {c : Nat} {w : World} (x y : Int) (e : orC gs x y = (g, r)) (hG : Good gs) (hl : gs.length ≤ 890) (hx : x ≤ 9223372036854775807) (hy : y ≤ 9223372036854775807) (h : GatesW w a c gs) : Calls Tryd.prog 41 #[.agg #[.slice a gs.length c], .int .i64 x, .int .i64 y] w (Ans w g r) := by
  have := ror_calls gs x y a c w h hl hG hx hy
  rw [e] at this
  exact this
theorem riff_at {gs g : List Gt} {r : Int} {a : Option Addr} {c : Nat} {w : World} (x y : Int) (e : iffC gs x y = (g, r)) (hG : Good gs) (hl : gs.length ≤ 890) (hx : x ≤ 9223372036854775807) (hy : y ≤ 9223372036854775807) (h : GatesW w a c gs) : Calls Tryd.prog 42 #[.agg #[.slice a gs.length c], .int .i64 x, .int .i64 y] w (Ans w g r) := by
  have := riff_calls gs x y a c w h hl hG hx hy
  rw [e] at this
  exact this
end Go.Proofs.YthkjjiijjedipaaDoor
