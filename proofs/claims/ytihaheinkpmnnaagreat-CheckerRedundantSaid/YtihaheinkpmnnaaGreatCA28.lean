/- Texts of the proof: LG. -/
import Derived.Test.YtihaheinkpmnnaaGreatCA27
namespace Go.Proofs.YtihaheinkpmnnaaGreat
set_option maxRecDepth 200000
open Go.RowKit Go.Shelf Go.Maps Go.Sort
set_option maxHeartbeats 8000000 in
theorem symc_calls (w : World) (bp b bf bs bb : Nat) (V : Nat) (L S : List Int) (sa : Option Addr) (sc : Nat) (p0 : w.cell? ⟨bp, 0, none⟩ = some (.pointer (some ⟨b, 0, none⟩))) (p1 : w.cell? ⟨b, 0, none⟩ = some (.int .i64 (V : Int)))
    (p2 : w.cell? ⟨bf, 0, none⟩ = some (.func (.func 92) #[] #[.pointer (some ⟨bb, 0, none⟩)])) (p3 : w.cell? ⟨bs, 0, none⟩ = some (.slice sa S.length sc)) (hN : NormAt w bb L) (hS : IntsW w sa sc S) (hL : L.length ≤ 10000) (hV : V ≤ 10000) (hsl : S.length = V) (hsr : ∀ y ∈ S, InR V y)
    (z : List Int) (za : Option Addr) (zc : Nat) (hz : IntsW w za zc z) (hzl : z.length ≤ 10000) :
    Calls Tryz.prog 65 #[.slice za z.length zc, .pointer (some ⟨bp, 0, none⟩), .pointer (some ⟨bf, 0, none⟩), .pointer (some ⟨bs, 0, none⟩)] w fun e w' => e = .returned (.bool (mapB V S L z)) ∧ w.grownBy w' none := by
  obtain ⟨sn, hsn⟩ : ∃ n, S.length = n := ⟨_, rfl⟩
  obtain ⟨zn, hzn⟩ : ∃ n, z.length = n := ⟨_, rfl⟩
  obtain ⟨bw, hbw⟩ : ∃ d, z.all (inRb V) = d := ⟨_, rfl⟩
  obtain ⟨be, hbe⟩ : ∃ d, eqS (imgL S z) L = d := ⟨_, rfl⟩
  have HW : Hid (∀ W, w.grownBy W none → Calls Tryz.prog 35 #[.slice za zn zc, .int .i64 (V : Int)] W fun e w' => e = .returned (.bool bw) ∧ W.grownBy w' none) := Lib.hid (fun W hg => by
    have := cwithin_calls V z za zc W (hz.grown hg) (by omega) ⟨by omega, by omega⟩
    rwa [hzn, hbw] at this)
  have HI : Hid (∀ W, w.grownBy W none → bw = true → Calls Tryz.prog 41 #[.slice sa sn sc, .slice za zn zc] W fun e w' => ∃ a1 c1 k, e = .returned (.slice a1 k c1) ∧ Hid (IntsW w' a1 c1 (imgL S z) ∧ (imgL S z).length = k) ∧ W.grownBy w' none) := Lib.hid (fun W hg hb => by
    have hr : ∀ x ∈ z, InR S.length x := fun x hx => by rw [hsl]; rw [hb, List.all_eq_true] at hbw; exact inRb_iff.1 (hbw x hx)
    have := image_calls S sa sc z za zc W (hS.grown hg) (hz.grown hg) hzl (by omega) (fun y hy => by obtain ⟨y0, y1, y2⟩ := hsr y hy; omega) hr
    rw [hsn, hzn] at this
    exact this.mono fun e w' ⟨a, c, e1, h1, h2⟩ => ⟨a, c, zn, e1, Lib.hid ⟨h1, by unfold imgL; rw [List.length_map, hzn]⟩, h2⟩)
  have HE : Hid (∀ W a1 c1 k, w.grownBy W none → (IntsW W a1 c1 (imgL S z) ∧ (imgL S z).length = k) → Calls Tryz.prog 92 #[.slice a1 k c1, .pointer (some ⟨bb, 0, none⟩)] W fun e w' => e = .returned (.bool be) ∧ W.grownBy w' none) := Lib.hid (fun W a1 c1 k hg h1 => by
    obtain ⟨h1, rfl⟩ := h1
    have := same1_calls (M := L) (L := imgL S z) (by unfold imgL; rw [List.length_map]; omega) (by omega) W h1 (hN.grown hg)
    rwa [hbe] at this)
  have HR : Hid (mapB V S L z = (bw && be)) := Lib.hid (by unfold mapB; rw [hbw, hbe])
  rw [hsn] at p3
  rw [hzn]
  have HS : Hid (∀ W, w.grownBy W none → W.cell? ⟨bp, 0, none⟩ = some (.pointer (some ⟨b, 0, none⟩)) ∧ W.cell? ⟨b, 0, none⟩ = some (.int .i64 (V : Int)) ∧ W.cell? ⟨bf, 0, none⟩ = some (.func (.func 92) #[] #[.pointer (some ⟨bb, 0, none⟩)]) ∧ W.cell? ⟨bs, 0, none⟩ = some (.slice sa sn sc)) :=
    Lib.hid (fun W hg => ⟨hg.cell p0 (by simp), hg.cell p1 (by simp), hg.cell p2 (by simp), hg.cell p3 (by simp)⟩)
  have hdr : w.grownBy w.drew none := grown_drew w none
  rw [HR.out]
  clear p0 p1 p2 p3 hN hS hL hsl hsr hz hzl hsn hzn hbw hbe
  go_enter Tryz.func65, Tryz.ntmps65
  go_wp2_with fail
  cases bw with
  | false =>
    refine wp_region_gone_drew (S := (fun Wh : World => Wh.cell? ⟨bp, 0, none⟩ = some (.pointer (some ⟨b, 0, none⟩)) ∧ Wh.cell? ⟨b, 0, none⟩ = some (.int .i64 (V : Int)) ∧ Wh.cell? ⟨bf, 0, none⟩ = some (.func (.func 92) #[] #[.pointer (some ⟨bb, 0, none⟩)]) ∧ Wh.cell? ⟨bs, 0, none⟩ = some (.slice sa sn sc))) (T := (fun _ => True)) (m := 999) (by kernel_rfl) ⟨HS.out _ hdr, trivial⟩ (fun hHeld => ?_)
    refine wpAnyG_take (i := 0) (oi := { dst := some 6, op := Op.move (Operand.tmp 0), type := 34, pos := "checker.go:113", after := #[], guard := none }) (v := ?_) rfl (by decide) (by kernel_rfl) (by kernel_rfl) (by kernel_rfl) (fun _ _ _ h => h) (Or.inl ⟨by rfl, ?_⟩) (by assumption) ?_
    rotate_left 1
    · (intro W hSW; (try dsimp only at hSW); obtain ⟨z0, z1, z2, z3⟩ := hSW; first | (go_simp; done) | (go_simp; with_reducible rfl))
    try simp only [Act.put, List.setIfInBounds_toArray, List.set_cons_zero, List.set_cons_succ]
    refine wpAnyG_take (i := 1) (oi := { dst := some 7, op := Op.load 49 (Operand.tmp 1), type := 49, pos := "checker.go:113", after := #[], guard := none }) (v := ?_) rfl (by decide) (by kernel_rfl) (by kernel_rfl) (by kernel_rfl) (fun _ _ _ h => h) (Or.inl ⟨by rfl, ?_⟩) (by assumption) ?_
    rotate_left 1
    · (intro W hSW; (try dsimp only at hSW); obtain ⟨z0, z1, z2, z3⟩ := hSW; first | (go_simp; done) | (go_simp; with_reducible rfl))
    try simp only [Act.put, List.setIfInBounds_toArray, List.set_cons_zero, List.set_cons_succ]
    refine wpAnyG_take (i := 2) (oi := { dst := some 8, op := Op.nilCheck (Operand.tmp 7), type := 0, pos := "checker.go:113", after := #[{ on := 1, ground := Ground.data }], guard := none }) (v := ?_) rfl (by decide) (by kernel_rfl) (by kernel_rfl) (by kernel_rfl) (fun _ _ _ h => h) (Or.inl ⟨by rfl, ?_⟩) (by assumption) ?_
    rotate_left 1
    · (intro W hSW; (try dsimp only at hSW); obtain ⟨z0, z1, z2, z3⟩ := hSW; first | (go_simp; done) | (go_simp; with_reducible rfl))
    try simp only [Act.put, List.setIfInBounds_toArray, List.set_cons_zero, List.set_cons_succ]
    refine wpAnyG_take (i := 3) (oi := { dst := some 9, op := Op.fieldAddr 53 (Operand.tmp 8) 0, type := 0, pos := "checker.go:113", after := #[{ on := 2, ground := Ground.data }], guard := none }) (v := ?_) rfl (by decide) (by kernel_rfl) (by kernel_rfl) (by kernel_rfl) (fun _ _ _ h => h) (Or.inl ⟨by rfl, ?_⟩) (by assumption) ?_
    rotate_left 1
    · (intro W hSW; (try dsimp only at hSW); obtain ⟨z0, z1, z2, z3⟩ := hSW; first | (go_simp; done) | (go_simp; with_reducible rfl))
    try simp only [Act.put, List.setIfInBounds_toArray, List.set_cons_zero, List.set_cons_succ]
    refine wpAnyG_take (i := 4) (oi := { dst := some 10, op := Op.fieldAddr 24 (Operand.tmp 9) 0, type := 0, pos := "checker.go:113", after := #[{ on := 3, ground := Ground.data }], guard := none }) (v := ?_) rfl (by decide) (by kernel_rfl) (by kernel_rfl) (by kernel_rfl) (fun _ _ _ h => h) (Or.inl ⟨by rfl, ?_⟩) (by assumption) ?_
    rotate_left 1
    · (intro W hSW; (try dsimp only at hSW); obtain ⟨z0, z1, z2, z3⟩ := hSW; first | (go_simp; done) | (go_simp; with_reducible rfl))
    try simp only [Act.put, List.setIfInBounds_toArray, List.set_cons_zero, List.set_cons_succ]
    refine wpAnyG_take (i := 5) (oi := { dst := some 11, op := Op.load 3 (Operand.tmp 10), type := 3, pos := "checker.go:113", after := #[{ on := 4, ground := Ground.data }], guard := none }) (v := ?_) rfl (by decide) (by kernel_rfl) (by kernel_rfl) (by kernel_rfl) (fun _ _ _ h => h) (Or.inl ⟨by rfl, ?_⟩) (by assumption) ?_
    rotate_left 1
    · (intro W hSW; (try dsimp only at hSW); obtain ⟨z0, z1, z2, z3⟩ := hSW; first | (go_simp; done) | (go_simp; with_reducible rfl))
    try simp only [Act.put, List.setIfInBounds_toArray, List.set_cons_zero, List.set_cons_succ]
    refine wpAnyG_ready (rs := [6]) (by kernel_rfl) (by simp) ?_
    refine (AllReadyG.cons (o := { dst := some 12, op := Op.call { callee := Callee.value (Operand.func 35), args := #[Operand.tmp 6, Operand.tmp 11], argTypes := #[34, 3] }, type := 4, pos := "checker.go:113", after := #[{ on := 0, ground := Ground.data }, { on := 5, ground := Ground.data }], guard := none }) rfl (fun K hK => ?_) AllReadyG.nil)
    rw [if_pos (by rfl)]
    go_simp
    go_at_call 35
    refine (HW.out _ hdr).mono ?_
    rintro e wc1 ⟨rfl, gc1⟩
    have hgr1 := World.grownBy.trans hdr gc1
    go_wp2_with fail
    refine hK.out _ _ ⟨HS.out _ hgr1, .inr trivial⟩ (fun hHeld => ?_)
    clear hK K
    try simp only [Act.put, List.setIfInBounds_toArray, List.set_cons_zero, List.set_cons_succ]
    refine wpAnyG_take (i := 7) (oi := { dst := some 13, op := Op.move (Operand.tmp 12), type := 4, pos := "checker.go:113", after := #[{ on := 6, ground := Ground.data }, { on := 6, ground := Ground.chain }], guard := none }) (v := ?_) rfl (by decide) (by kernel_rfl) (by kernel_rfl) (by kernel_rfl) (fun _ _ _ h => h) (Or.inl ⟨by rfl, ?_⟩) (by assumption) ?_
    rotate_left 1
    · (intro W hSW; (try dsimp only at hSW); obtain ⟨z0, z1, z2, z3⟩ := hSW; first | (go_simp; done) | (go_simp; with_reducible rfl))
    try simp only [Act.put, List.setIfInBounds_toArray, List.set_cons_zero, List.set_cons_succ]
    refine wpAnyG_take (i := 8) (oi := { dst := some 14, op := Op.load 63 (Operand.tmp 2), type := 63, pos := "checker.go:113", after := #[{ on := 7, ground := Ground.guard }], guard := some (7, true) }) (v := undef) rfl (by decide) (by kernel_rfl) (by kernel_rfl) (by kernel_rfl) (fun _ _ _ h => h) (Or.inr ⟨by rfl, rfl⟩) (by assumption) ?_
    try simp only [Act.put, List.setIfInBounds_toArray, List.set_cons_zero, List.set_cons_succ]
    refine wpAnyG_take (i := 9) (oi := { dst := some 15, op := Op.load 34 (Operand.tmp 3), type := 34, pos := "checker.go:113", after := #[{ on := 7, ground := Ground.guard }], guard := some (7, true) }) (v := undef) rfl (by decide) (by kernel_rfl) (by kernel_rfl) (by kernel_rfl) (fun _ _ _ h => h) (Or.inr ⟨by rfl, rfl⟩) (by assumption) ?_
    try simp only [Act.put, List.setIfInBounds_toArray, List.set_cons_zero, List.set_cons_succ]
    refine wpAnyG_take (i := 10) (oi := { dst := some 16, op := Op.move (Operand.tmp 0), type := 34, pos := "checker.go:113", after := #[{ on := 7, ground := Ground.guard }], guard := some (7, true) }) (v := undef) rfl (by decide) (by kernel_rfl) (by kernel_rfl) (by kernel_rfl) (fun _ _ _ h => h) (Or.inr ⟨by rfl, rfl⟩) (by assumption) ?_
    try simp only [Act.put, List.setIfInBounds_toArray, List.set_cons_zero, List.set_cons_succ]
    refine wpAnyG_take (i := 11) (oi := { dst := some 17, op := Op.call { callee := Callee.value (Operand.func 41), args := #[Operand.tmp 15, Operand.tmp 16], argTypes := #[34, 34] }, type := 34, pos := "checker.go:113", after := #[{ on := 9, ground := Ground.data }, { on := 10, ground := Ground.data }, { on := 7, ground := Ground.chain }, { on := 7, ground := Ground.guard }], guard := some (7, true) }) (v := undef) rfl (by decide) (by kernel_rfl) (by kernel_rfl) (by kernel_rfl) (fun _ _ _ h => h) (Or.inr ⟨by rfl, rfl⟩) (by assumption) ?_
    try simp only [Act.put, List.setIfInBounds_toArray, List.set_cons_zero, List.set_cons_succ]
    refine wpAnyG_take (i := 12) (oi := { dst := some 18, op := Op.call { callee := Callee.value (Operand.tmp 14), args := #[Operand.tmp 17], argTypes := #[34] }, type := 4, pos := "checker.go:113", after := #[{ on := 8, ground := Ground.data }, { on := 11, ground := Ground.data }, { on := 11, ground := Ground.chain }, { on := 7, ground := Ground.guard }], guard := some (7, true) }) (v := undef) rfl (by decide) (by kernel_rfl) (by kernel_rfl) (by kernel_rfl) (fun _ _ _ h => h) (Or.inr ⟨by rfl, rfl⟩) (by assumption) ?_
    try simp only [Act.put, List.setIfInBounds_toArray, List.set_cons_zero, List.set_cons_succ]
    refine wpAnyG_take (i := 13) (oi := { dst := some 19, op := Op.pick (Operand.tmp 13) (Operand.tmp 18) (Operand.const (Value.bool false)), type := 4, pos := "checker.go:113", after := #[{ on := 7, ground := Ground.data }, { on := 12, ground := Ground.data }], guard := none }) (v := ?_) rfl (by decide) (by kernel_rfl) (by kernel_rfl) (by kernel_rfl) (fun _ _ _ h => h) (Or.inl ⟨by rfl, ?_⟩) (by assumption) ?_
    rotate_left 1
    · (intro W hSW; (try dsimp only at hSW); obtain ⟨z0, z1, z2, z3⟩ := hSW; first | (go_simp; done) | (go_simp; with_reducible rfl))
    try simp only [Act.put, List.setIfInBounds_toArray, List.set_cons_zero, List.set_cons_succ]
    refine wpAnyG_take (i := 14) (oi := { dst := some 5, op := Op.assign (Operand.tmp 19), type := 4, pos := "checker.go:113", after := #[{ on := 13, ground := Ground.data }, { on := 12, ground := Ground.chain }, { on := 0, ground := Ground.phase }, { on := 1, ground := Ground.phase }, { on := 2, ground := Ground.phase }, { on := 3, ground := Ground.phase }, { on := 4, ground := Ground.phase }, { on := 5, ground := Ground.phase }, { on := 6, ground := Ground.phase }, { on := 7, ground := Ground.phase }, { on := 8, ground := Ground.phase }, { on := 9, ground := Ground.phase }, { on := 10, ground := Ground.phase }, { on := 11, ground := Ground.phase }, { on := 12, ground := Ground.phase }, { on := 13, ground := Ground.phase }], guard := none }) (v := ?_) rfl (by decide) (by kernel_rfl) (by kernel_rfl) (by kernel_rfl) (fun _ _ _ h => h) (Or.inl ⟨by rfl, ?_⟩) (by assumption) ?_
    rotate_left 1
    · (intro W hSW; (try dsimp only at hSW); obtain ⟨z0, z1, z2, z3⟩ := hSW; first | (go_simp; done) | (go_simp; with_reducible rfl))
    try simp only [Act.put, List.setIfInBounds_toArray, List.set_cons_zero, List.set_cons_succ]
    refine wpAnyG_done (by kernel_rfl) ?_ _
    have HG := Lib.hid hgr1
    clear hHeld hdr gc1 hgr1
    go_wp2_with fail
    go_ret
    exact ⟨rfl, HG.out⟩
  | true =>
    have HIM := Lib.hid (fun W hg => HI.out W hg (by trivial))
    clear HI
    refine wp_region_gone_drew (S := (fun Wh : World => Wh.cell? ⟨bp, 0, none⟩ = some (.pointer (some ⟨b, 0, none⟩)) ∧ Wh.cell? ⟨b, 0, none⟩ = some (.int .i64 (V : Int)) ∧ Wh.cell? ⟨bf, 0, none⟩ = some (.func (.func 92) #[] #[.pointer (some ⟨bb, 0, none⟩)]) ∧ Wh.cell? ⟨bs, 0, none⟩ = some (.slice sa sn sc))) (T := (fun _ => True)) (m := 999) (by kernel_rfl) ⟨HS.out _ hdr, trivial⟩ (fun hHeld => ?_)
    refine wpAnyG_take (i := 0) (oi := { dst := some 6, op := Op.move (Operand.tmp 0), type := 34, pos := "checker.go:113", after := #[], guard := none }) (v := ?_) rfl (by decide) (by kernel_rfl) (by kernel_rfl) (by kernel_rfl) (fun _ _ _ h => h) (Or.inl ⟨by rfl, ?_⟩) (by assumption) ?_
    rotate_left 1
    · (intro W hSW; (try dsimp only at hSW); obtain ⟨z0, z1, z2, z3⟩ := hSW; first | (go_simp; done) | (go_simp; with_reducible rfl))
    try simp only [Act.put, List.setIfInBounds_toArray, List.set_cons_zero, List.set_cons_succ]
    refine wpAnyG_take (i := 1) (oi := { dst := some 7, op := Op.load 49 (Operand.tmp 1), type := 49, pos := "checker.go:113", after := #[], guard := none }) (v := ?_) rfl (by decide) (by kernel_rfl) (by kernel_rfl) (by kernel_rfl) (fun _ _ _ h => h) (Or.inl ⟨by rfl, ?_⟩) (by assumption) ?_
    rotate_left 1
    · (intro W hSW; (try dsimp only at hSW); obtain ⟨z0, z1, z2, z3⟩ := hSW; first | (go_simp; done) | (go_simp; with_reducible rfl))
    try simp only [Act.put, List.setIfInBounds_toArray, List.set_cons_zero, List.set_cons_succ]
    refine wpAnyG_take (i := 2) (oi := { dst := some 8, op := Op.nilCheck (Operand.tmp 7), type := 0, pos := "checker.go:113", after := #[{ on := 1, ground := Ground.data }], guard := none }) (v := ?_) rfl (by decide) (by kernel_rfl) (by kernel_rfl) (by kernel_rfl) (fun _ _ _ h => h) (Or.inl ⟨by rfl, ?_⟩) (by assumption) ?_
    rotate_left 1
    · (intro W hSW; (try dsimp only at hSW); obtain ⟨z0, z1, z2, z3⟩ := hSW; first | (go_simp; done) | (go_simp; with_reducible rfl))
    try simp only [Act.put, List.setIfInBounds_toArray, List.set_cons_zero, List.set_cons_succ]
    refine wpAnyG_take (i := 3) (oi := { dst := some 9, op := Op.fieldAddr 53 (Operand.tmp 8) 0, type := 0, pos := "checker.go:113", after := #[{ on := 2, ground := Ground.data }], guard := none }) (v := ?_) rfl (by decide) (by kernel_rfl) (by kernel_rfl) (by kernel_rfl) (fun _ _ _ h => h) (Or.inl ⟨by rfl, ?_⟩) (by assumption) ?_
    rotate_left 1
    · (intro W hSW; (try dsimp only at hSW); obtain ⟨z0, z1, z2, z3⟩ := hSW; first | (go_simp; done) | (go_simp; with_reducible rfl))
    try simp only [Act.put, List.setIfInBounds_toArray, List.set_cons_zero, List.set_cons_succ]
    refine wpAnyG_take (i := 4) (oi := { dst := some 10, op := Op.fieldAddr 24 (Operand.tmp 9) 0, type := 0, pos := "checker.go:113", after := #[{ on := 3, ground := Ground.data }], guard := none }) (v := ?_) rfl (by decide) (by kernel_rfl) (by kernel_rfl) (by kernel_rfl) (fun _ _ _ h => h) (Or.inl ⟨by rfl, ?_⟩) (by assumption) ?_
    rotate_left 1
    · (intro W hSW; (try dsimp only at hSW); obtain ⟨z0, z1, z2, z3⟩ := hSW; first | (go_simp; done) | (go_simp; with_reducible rfl))
    try simp only [Act.put, List.setIfInBounds_toArray, List.set_cons_zero, List.set_cons_succ]
    refine wpAnyG_take (i := 5) (oi := { dst := some 11, op := Op.load 3 (Operand.tmp 10), type := 3, pos := "checker.go:113", after := #[{ on := 4, ground := Ground.data }], guard := none }) (v := ?_) rfl (by decide) (by kernel_rfl) (by kernel_rfl) (by kernel_rfl) (fun _ _ _ h => h) (Or.inl ⟨by rfl, ?_⟩) (by assumption) ?_
    rotate_left 1
    · (intro W hSW; (try dsimp only at hSW); obtain ⟨z0, z1, z2, z3⟩ := hSW; first | (go_simp; done) | (go_simp; with_reducible rfl))
    try simp only [Act.put, List.setIfInBounds_toArray, List.set_cons_zero, List.set_cons_succ]
    refine wpAnyG_ready (rs := [6]) (by kernel_rfl) (by simp) ?_
    refine (AllReadyG.cons (o := { dst := some 12, op := Op.call { callee := Callee.value (Operand.func 35), args := #[Operand.tmp 6, Operand.tmp 11], argTypes := #[34, 3] }, type := 4, pos := "checker.go:113", after := #[{ on := 0, ground := Ground.data }, { on := 5, ground := Ground.data }], guard := none }) rfl (fun K hK => ?_) AllReadyG.nil)
    rw [if_pos (by rfl)]
    go_simp
    go_at_call 35
    refine (HW.out _ hdr).mono ?_
    rintro e wc1 ⟨rfl, gc1⟩
    have hgr1 := World.grownBy.trans hdr gc1
    go_wp2_with fail
    refine hK.out _ _ ⟨HS.out _ hgr1, .inr trivial⟩ (fun hHeld => ?_)
    clear hK K
    try simp only [Act.put, List.setIfInBounds_toArray, List.set_cons_zero, List.set_cons_succ]
    refine wpAnyG_take (i := 7) (oi := { dst := some 13, op := Op.move (Operand.tmp 12), type := 4, pos := "checker.go:113", after := #[{ on := 6, ground := Ground.data }, { on := 6, ground := Ground.chain }], guard := none }) (v := ?_) rfl (by decide) (by kernel_rfl) (by kernel_rfl) (by kernel_rfl) (fun _ _ _ h => h) (Or.inl ⟨by rfl, ?_⟩) (by assumption) ?_
    rotate_left 1
    · (intro W hSW; (try dsimp only at hSW); obtain ⟨z0, z1, z2, z3⟩ := hSW; first | (go_simp; done) | (go_simp; with_reducible rfl))
    try simp only [Act.put, List.setIfInBounds_toArray, List.set_cons_zero, List.set_cons_succ]
    refine wpAnyG_take (i := 8) (oi := { dst := some 14, op := Op.load 63 (Operand.tmp 2), type := 63, pos := "checker.go:113", after := #[{ on := 7, ground := Ground.guard }], guard := some (7, true) }) (v := ?_) rfl (by decide) (by kernel_rfl) (by kernel_rfl) (by kernel_rfl) (fun _ _ _ h => h) (Or.inl ⟨by rfl, ?_⟩) (by assumption) ?_
    rotate_left 1
    · (intro W hSW; (try dsimp only at hSW); obtain ⟨z0, z1, z2, z3⟩ := hSW; first | (go_simp; done) | (go_simp; with_reducible rfl))
    try simp only [Act.put, List.setIfInBounds_toArray, List.set_cons_zero, List.set_cons_succ]
    refine wpAnyG_take (i := 9) (oi := { dst := some 15, op := Op.load 34 (Operand.tmp 3), type := 34, pos := "checker.go:113", after := #[{ on := 7, ground := Ground.guard }], guard := some (7, true) }) (v := ?_) rfl (by decide) (by kernel_rfl) (by kernel_rfl) (by kernel_rfl) (fun _ _ _ h => h) (Or.inl ⟨by rfl, ?_⟩) (by assumption) ?_
    rotate_left 1
    · (intro W hSW; (try dsimp only at hSW); obtain ⟨z0, z1, z2, z3⟩ := hSW; first | (go_simp; done) | (go_simp; with_reducible rfl))
    try simp only [Act.put, List.setIfInBounds_toArray, List.set_cons_zero, List.set_cons_succ]
    refine wpAnyG_take (i := 10) (oi := { dst := some 16, op := Op.move (Operand.tmp 0), type := 34, pos := "checker.go:113", after := #[{ on := 7, ground := Ground.guard }], guard := some (7, true) }) (v := ?_) rfl (by decide) (by kernel_rfl) (by kernel_rfl) (by kernel_rfl) (fun _ _ _ h => h) (Or.inl ⟨by rfl, ?_⟩) (by assumption) ?_
    rotate_left 1
    · (intro W hSW; (try dsimp only at hSW); obtain ⟨z0, z1, z2, z3⟩ := hSW; first | (go_simp; done) | (go_simp; with_reducible rfl))
    try simp only [Act.put, List.setIfInBounds_toArray, List.set_cons_zero, List.set_cons_succ]
    refine wpAnyG_ready (rs := [11]) (by kernel_rfl) (by simp) ?_
    refine (AllReadyG.cons (o := { dst := some 17, op := Op.call { callee := Callee.value (Operand.func 41), args := #[Operand.tmp 15, Operand.tmp 16], argTypes := #[34, 34] }, type := 34, pos := "checker.go:113", after := #[{ on := 9, ground := Ground.data }, { on := 10, ground := Ground.data }, { on := 7, ground := Ground.chain }, { on := 7, ground := Ground.guard }], guard := some (7, true) }) rfl (fun K hK => ?_) AllReadyG.nil)
    rw [if_pos (by rfl)]
    go_simp
    go_at_call 41
    refine (HIM.out _ hgr1).mono ?_
    rintro e wc2 ⟨a1, c1, k1, rfl, YI, gc2⟩
    have hgr2 := World.grownBy.trans hgr1 gc2
    go_wp2_with fail
    refine hK.out _ _ ⟨HS.out _ hgr2, .inr trivial⟩ (fun hHeld => ?_)
    clear hK K
    try simp only [Act.put, List.setIfInBounds_toArray, List.set_cons_zero, List.set_cons_succ]
    refine wpAnyG_ready (rs := [12]) (by kernel_rfl) (by simp) ?_
    refine (AllReadyG.cons (o := { dst := some 18, op := Op.call { callee := Callee.value (Operand.tmp 14), args := #[Operand.tmp 17], argTypes := #[34] }, type := 4, pos := "checker.go:113", after := #[{ on := 8, ground := Ground.data }, { on := 11, ground := Ground.data }, { on := 11, ground := Ground.chain }, { on := 7, ground := Ground.guard }], guard := some (7, true) }) rfl (fun K hK => ?_) AllReadyG.nil)
    rw [if_pos (by rfl)]
    go_simp
    go_at_call 92
    refine (HE.out _ a1 c1 k1 hgr2 YI.out).mono ?_
    rintro e wc3 ⟨rfl, gc3⟩
    have hgr3 := World.grownBy.trans hgr2 gc3
    go_wp2_with fail
    refine hK.out _ _ ⟨HS.out _ hgr3, .inr trivial⟩ (fun hHeld => ?_)
    clear hK K
    try simp only [Act.put, List.setIfInBounds_toArray, List.set_cons_zero, List.set_cons_succ]
    refine wpAnyG_take (i := 13) (oi := { dst := some 19, op := Op.pick (Operand.tmp 13) (Operand.tmp 18) (Operand.const (Value.bool false)), type := 4, pos := "checker.go:113", after := #[{ on := 7, ground := Ground.data }, { on := 12, ground := Ground.data }], guard := none }) (v := ?_) rfl (by decide) (by kernel_rfl) (by kernel_rfl) (by kernel_rfl) (fun _ _ _ h => h) (Or.inl ⟨by rfl, ?_⟩) (by assumption) ?_
    rotate_left 1
    · (intro W hSW; (try dsimp only at hSW); obtain ⟨z0, z1, z2, z3⟩ := hSW; first | (go_simp; done) | (go_simp; with_reducible rfl))
    try simp only [Act.put, List.setIfInBounds_toArray, List.set_cons_zero, List.set_cons_succ]
    refine wpAnyG_take (i := 14) (oi := { dst := some 5, op := Op.assign (Operand.tmp 19), type := 4, pos := "checker.go:113", after := #[{ on := 13, ground := Ground.data }, { on := 12, ground := Ground.chain }, { on := 0, ground := Ground.phase }, { on := 1, ground := Ground.phase }, { on := 2, ground := Ground.phase }, { on := 3, ground := Ground.phase }, { on := 4, ground := Ground.phase }, { on := 5, ground := Ground.phase }, { on := 6, ground := Ground.phase }, { on := 7, ground := Ground.phase }, { on := 8, ground := Ground.phase }, { on := 9, ground := Ground.phase }, { on := 10, ground := Ground.phase }, { on := 11, ground := Ground.phase }, { on := 12, ground := Ground.phase }, { on := 13, ground := Ground.phase }], guard := none }) (v := ?_) rfl (by decide) (by kernel_rfl) (by kernel_rfl) (by kernel_rfl) (fun _ _ _ h => h) (Or.inl ⟨by rfl, ?_⟩) (by assumption) ?_
    rotate_left 1
    · (intro W hSW; (try dsimp only at hSW); obtain ⟨z0, z1, z2, z3⟩ := hSW; first | (go_simp; done) | (go_simp; with_reducible rfl))
    try simp only [Act.put, List.setIfInBounds_toArray, List.set_cons_zero, List.set_cons_succ]
    refine wpAnyG_done (by kernel_rfl) ?_ _
    have HG := Lib.hid hgr3
    clear hHeld hdr gc1 hgr1 hgr2 hgr3
    cases be <;> (go_wp2_with fail; go_ret; exact ⟨rfl, HG.out⟩)
end Go.Proofs.YtihaheinkpmnnaaGreat
