/- Texts of the proof: QO. -/
import Derived.Test.YthdhmflodiincaaCD00
import Derived.Test.YthdhmflodiincaaCD10
import Derived.BigQuiet
set_option maxRecDepth 100000
set_option maxHeartbeats 8000000
namespace Go.Proofs.Ythdhmflodiincaa
open Lib (hid)
open Go.RowKit Go.Shelf

abbrev qoo0 : Oper := { dst := some 76, op := Op.move (Operand.tmp 5), type := 24, pos := "builder.go:78", after := #[], guard := none }
abbrev qoo1 : Oper := { dst := some 77, op := Op.indexAddr 24 (Operand.tmp 76) (Operand.const (Value.int IntKind.i64 0)), type := 0, pos := "builder.go:78", after := #[{ on := 0, ground := Ground.data }], guard := none }
abbrev qoo2 : Oper := { dst := some 78, op := Op.fieldAddr 71 (Operand.tmp 77) 0, type := 0, pos := "builder.go:78", after := #[{ on := 1, ground := Ground.data }], guard := none }
abbrev qoo3 : Oper := { dst := some 79, op := Op.load 3 (Operand.tmp 78), type := 3, pos := "builder.go:78", after := #[{ on := 2, ground := Ground.data }], guard := none }
abbrev qoo4 : Oper := { dst := some 80, op := Op.move (Operand.tmp 5), type := 24, pos := "builder.go:78", after := #[{ on := 10, ground := Ground.gcOnly Departure.lateStores }], guard := none }
abbrev qoo5 : Oper := { dst := some 81, op := Op.indexAddr 24 (Operand.tmp 80) (Operand.const (Value.int IntKind.i64 0)), type := 0, pos := "builder.go:78", after := #[{ on := 4, ground := Ground.data }, { on := 10, ground := Ground.gcOnly Departure.lateStores }], guard := none }
abbrev qoo6 : Oper := { dst := some 82, op := Op.fieldAddr 71 (Operand.tmp 81) 1, type := 0, pos := "builder.go:78", after := #[{ on := 5, ground := Ground.data }, { on := 10, ground := Ground.gcOnly Departure.lateStores }], guard := none }
abbrev qoo7 : Oper := { dst := some 83, op := Op.load 3 (Operand.tmp 82), type := 3, pos := "builder.go:78", after := #[{ on := 6, ground := Ground.data }, { on := 10, ground := Ground.gcOnly Departure.lateStores }], guard := none }
abbrev qoo8 : Oper := { dst := some 84, op := Op.move (Operand.tmp 5), type := 24, pos := "builder.go:78", after := #[], guard := none }
abbrev qoo9 : Oper := { dst := some 85, op := Op.slice 24 (Operand.tmp 84) (some (Operand.const (Value.int IntKind.i64 1))) none none, type := 24, pos := "builder.go:78", after := #[{ on := 8, ground := Ground.data }], guard := none }
abbrev qoo10 : Oper := { dst := some 7, op := Op.assign (Operand.tmp 79), type := 3, pos := "builder.go:78", after := #[{ on := 3, ground := Ground.data }, { on := 0, ground := Ground.phase }, { on := 1, ground := Ground.phase }, { on := 2, ground := Ground.phase }, { on := 3, ground := Ground.phase }, { on := 4, ground := Ground.textOnly Departure.lateStores }, { on := 5, ground := Ground.textOnly Departure.lateStores }, { on := 6, ground := Ground.textOnly Departure.lateStores }, { on := 7, ground := Ground.textOnly Departure.lateStores }, { on := 8, ground := Ground.textOnly Departure.lateStores }, { on := 9, ground := Ground.textOnly Departure.lateStoresUnsure }], guard := none }
abbrev qoo11 : Oper := { dst := some 86, op := Op.fieldAddr 83 (Operand.tmp 6) 1, type := 0, pos := "builder.go:78", after := #[{ on := 0, ground := Ground.phase }, { on := 1, ground := Ground.phase }, { on := 2, ground := Ground.phase }, { on := 3, ground := Ground.phase }, { on := 4, ground := Ground.phase }, { on := 5, ground := Ground.phase }, { on := 6, ground := Ground.phase }, { on := 7, ground := Ground.phase }, { on := 8, ground := Ground.textOnly Departure.lateStores }, { on := 9, ground := Ground.textOnly Departure.lateStoresUnsure }, { on := 10, ground := Ground.phase }], guard := none }
abbrev qoo12 : Oper := { dst := none, op := Op.store 3 (Operand.tmp 86) (Operand.tmp 83), type := 0, pos := "builder.go:78", after := #[{ on := 11, ground := Ground.data }, { on := 7, ground := Ground.data }, { on := 10, ground := Ground.chain }, { on := 0, ground := Ground.phase }, { on := 1, ground := Ground.phase }, { on := 2, ground := Ground.phase }, { on := 3, ground := Ground.phase }, { on := 4, ground := Ground.phase }, { on := 5, ground := Ground.phase }, { on := 6, ground := Ground.phase }, { on := 7, ground := Ground.phase }, { on := 8, ground := Ground.textOnly Departure.lateStores }, { on := 9, ground := Ground.textOnly Departure.lateStoresUnsure }, { on := 10, ground := Ground.phase }], guard := none }
abbrev qoo13 : Oper := { dst := some 5, op := Op.assign (Operand.tmp 85), type := 24, pos := "builder.go:78", after := #[{ on := 9, ground := Ground.data }, { on := 12, ground := Ground.chain }, { on := 0, ground := Ground.phase }, { on := 1, ground := Ground.phase }, { on := 2, ground := Ground.phase }, { on := 3, ground := Ground.phase }, { on := 4, ground := Ground.phase }, { on := 5, ground := Ground.phase }, { on := 6, ground := Ground.phase }, { on := 7, ground := Ground.phase }, { on := 8, ground := Ground.phase }, { on := 9, ground := Ground.phase }, { on := 10, ground := Ground.phase }, { on := 11, ground := Ground.phase }, { on := 12, ground := Ground.phase }], guard := none }
abbrev qoo14 : Oper := { dst := some 63, op := Op.move (Operand.tmp 4), type := 24, pos := "builder.go:75", after := #[], guard := none }
abbrev qoo15 : Oper := { dst := some 64, op := Op.indexAddr 24 (Operand.tmp 63) (Operand.const (Value.int IntKind.i64 0)), type := 0, pos := "builder.go:75", after := #[{ on := 0, ground := Ground.data }], guard := none }
abbrev qoo16 : Oper := { dst := some 65, op := Op.fieldAddr 71 (Operand.tmp 64) 0, type := 0, pos := "builder.go:75", after := #[{ on := 1, ground := Ground.data }], guard := none }
abbrev qoo17 : Oper := { dst := some 66, op := Op.load 3 (Operand.tmp 65), type := 3, pos := "builder.go:75", after := #[{ on := 2, ground := Ground.data }], guard := none }
abbrev qoo18 : Oper := { dst := some 67, op := Op.move (Operand.tmp 4), type := 24, pos := "builder.go:75", after := #[{ on := 10, ground := Ground.gcOnly Departure.lateStores }], guard := none }
abbrev qoo19 : Oper := { dst := some 68, op := Op.indexAddr 24 (Operand.tmp 67) (Operand.const (Value.int IntKind.i64 0)), type := 0, pos := "builder.go:75", after := #[{ on := 4, ground := Ground.data }, { on := 10, ground := Ground.gcOnly Departure.lateStores }], guard := none }
abbrev qoo20 : Oper := { dst := some 69, op := Op.fieldAddr 71 (Operand.tmp 68) 1, type := 0, pos := "builder.go:75", after := #[{ on := 5, ground := Ground.data }, { on := 10, ground := Ground.gcOnly Departure.lateStores }], guard := none }
abbrev qoo21 : Oper := { dst := some 70, op := Op.load 3 (Operand.tmp 69), type := 3, pos := "builder.go:75", after := #[{ on := 6, ground := Ground.data }, { on := 10, ground := Ground.gcOnly Departure.lateStores }], guard := none }
abbrev qoo22 : Oper := { dst := some 71, op := Op.move (Operand.tmp 4), type := 24, pos := "builder.go:75", after := #[], guard := none }
abbrev qoo23 : Oper := { dst := some 72, op := Op.slice 24 (Operand.tmp 71) (some (Operand.const (Value.int IntKind.i64 1))) none none, type := 24, pos := "builder.go:75", after := #[{ on := 8, ground := Ground.data }], guard := none }
abbrev qoo24 : Oper := { dst := some 7, op := Op.assign (Operand.tmp 66), type := 3, pos := "builder.go:75", after := #[{ on := 3, ground := Ground.data }, { on := 0, ground := Ground.phase }, { on := 1, ground := Ground.phase }, { on := 2, ground := Ground.phase }, { on := 3, ground := Ground.phase }, { on := 4, ground := Ground.textOnly Departure.lateStores }, { on := 5, ground := Ground.textOnly Departure.lateStores }, { on := 6, ground := Ground.textOnly Departure.lateStores }, { on := 7, ground := Ground.textOnly Departure.lateStores }, { on := 8, ground := Ground.textOnly Departure.lateStores }, { on := 9, ground := Ground.textOnly Departure.lateStoresUnsure }], guard := none }
abbrev qoo25 : Oper := { dst := some 73, op := Op.fieldAddr 83 (Operand.tmp 6) 0, type := 0, pos := "builder.go:75", after := #[{ on := 0, ground := Ground.phase }, { on := 1, ground := Ground.phase }, { on := 2, ground := Ground.phase }, { on := 3, ground := Ground.phase }, { on := 4, ground := Ground.phase }, { on := 5, ground := Ground.phase }, { on := 6, ground := Ground.phase }, { on := 7, ground := Ground.phase }, { on := 8, ground := Ground.textOnly Departure.lateStores }, { on := 9, ground := Ground.textOnly Departure.lateStoresUnsure }, { on := 10, ground := Ground.phase }], guard := none }
abbrev qoo26 : Oper := { dst := none, op := Op.store 3 (Operand.tmp 73) (Operand.tmp 70), type := 0, pos := "builder.go:75", after := #[{ on := 11, ground := Ground.data }, { on := 7, ground := Ground.data }, { on := 10, ground := Ground.chain }, { on := 0, ground := Ground.phase }, { on := 1, ground := Ground.phase }, { on := 2, ground := Ground.phase }, { on := 3, ground := Ground.phase }, { on := 4, ground := Ground.phase }, { on := 5, ground := Ground.phase }, { on := 6, ground := Ground.phase }, { on := 7, ground := Ground.phase }, { on := 8, ground := Ground.textOnly Departure.lateStores }, { on := 9, ground := Ground.textOnly Departure.lateStoresUnsure }, { on := 10, ground := Ground.phase }], guard := none }
abbrev qoo27 : Oper := { dst := some 4, op := Op.assign (Operand.tmp 72), type := 24, pos := "builder.go:75", after := #[{ on := 9, ground := Ground.data }, { on := 12, ground := Ground.chain }, { on := 0, ground := Ground.phase }, { on := 1, ground := Ground.phase }, { on := 2, ground := Ground.phase }, { on := 3, ground := Ground.phase }, { on := 4, ground := Ground.phase }, { on := 5, ground := Ground.phase }, { on := 6, ground := Ground.phase }, { on := 7, ground := Ground.phase }, { on := 8, ground := Ground.phase }, { on := 9, ground := Ground.phase }, { on := 10, ground := Ground.phase }, { on := 11, ground := Ground.phase }, { on := 12, ground := Ground.phase }], guard := none }
attribute [local go_sem] Oper.semAt_some
theorem merged_gives (a b : List Cl) (xa ya : Option Addr) (xc yc B1 B2 sz : Nat) (w : World)
  (hsz : sz ≤ w.heap.size) (hsx : Span 0 sz w (fun W => CellsW W xa xc a)) (hsy : Span 0 sz w (fun W => CellsW W ya yc b))
  (c0 : w.cell? ⟨B1, 1, none⟩ = some (.slice xa a.length xc)) (c1 : w.cell? ⟨B2, 1, none⟩ = some (.slice ya b.length yc))
  (hl : a.length ≤ 1000) (hl' : b.length ≤ 1000) :
  GivesG mgV Fence.wide Try.prog 114 #[.pointer (some ⟨B1, 0, none⟩), .pointer (some ⟨B2, 0, none⟩)] (fun b => b < sz) (mg a b) w := by
 intro nn l J Safe hcap hJ hY h0
 obtain ⟨na, hna⟩ : ∃ m, a.length = m := ⟨_, rfl⟩
 obtain ⟨nb, hnb⟩ : ∃ m, b.length = m := ⟨_, rfl⟩
 rw [hna] at hl c0
 rw [hnb] at hl' c1
 have HXY := hid (And.intro hsx (And.intro hsy (And.intro hna hnb)))
 have HSZ := hid hsz
 have HH := hid (And.intro hJ hY)
 have hlow : Low sz Safe w w := fun b hb => ⟨rfl, hcap b hb⟩
 have HL := hid (And.intro hlow h0)
 have HC := hid (And.intro c0 c1)
 clear hsx hsy hna hnb hsz hJ hY h0 hcap hlow
 refine callsIn_of_wp Try.func114 rfl trivial ?_ rfl
 simp only [Try.ntmps114, List.size_toArray, List.length_cons, List.length_nil, Nat.reduceAdd, Nat.reduceSub, Array.replicate_succ, Array.replicate_zero, List.push_toArray, List.append_toArray, List.nil_append, List.cons_append]
 gi_wp2_with fail
 refine wpIn_wide.2 ?_
 go_quiet (fail)
 gi_wp2_with fail
 clear c0 c1
 obtain ⟨W0, hW0⟩ : ∃ z, w.drewN nq = z := ⟨_, rfl⟩
 have HD := hid (show w.grownBy W0 none from by rw [← hW0]; exact grown_drewN w nq none)
 have HL0 := hid (And.intro (HL.out.1.grown HH.out.1 HL.out.2 HD.out HSZ.out) (HH.out.1.keep _ _ _ HL.out.2 (.of_none HD.out)))
 rw [hW0]
 clear hW0
 gi_loopg [4, 5] (na + nb) (fun g s4 s5 wr => ∃ (x y : List Cl) (xa' ya' : Option Addr) (xc' yc' f : Nat) (pre : List Mg), s4 = .slice xa' x.length xc' ∧ s5 = .slice ya' y.length yc' ∧ g = x.length + y.length ∧ (x.length ≤ 1000 ∧ y.length ≤ 1000) ∧ Span 0 sz w (fun W => CellsW W xa' xc' x) ∧ Span 0 sz w (fun W => CellsW W ya' yc' y) ∧ (pre ++ mgF f x y = mg a b ∧ x.length + y.length ≤ f) ∧ J pre wr ∧ Low sz Safe w wr)
 case atStart => exact ⟨a, b, xa, ya, xc, yc, na + nb, [], by rw [HXY.out.2.2.1], by rw [HXY.out.2.2.2], by rw [HXY.out.2.2.1, HXY.out.2.2.2], ⟨by rw [HXY.out.2.2.1]; exact hl, by rw [HXY.out.2.2.2]; exact hl'⟩, HXY.out.1, HXY.out.2.1, ⟨by show mgF (na + nb) a b = mg a b; unfold mg; rw [HXY.out.2.2.1, HXY.out.2.2.2], by rw [HXY.out.2.2.1, HXY.out.2.2.2]; exact Nat.le_refl _⟩, HL0.out.2, HL0.out.1⟩
 case round =>
  obtain ⟨x, y, xa', ya', xc', yc', f, pre, rfl, rfl, hg, hlen, hsx, hsy, hpre, hj, hlow⟩ := hrel
  have HI := hid (And.intro hg (And.intro hlen (And.intro hsx (And.intro hsy (And.intro hj hlow)))))
  have HP := hid hpre
  clear hg hlen hsx hsy hpre hj hlow
  cases x with
  | nil =>
   cases y with
   | nil =>
    have HJE := hid (show J (mg a b) wr from by
     have h9 := HP.out.1
     rw [show mgF f [] [] = [] from by cases f <;> rfl, List.append_nil] at h9
     rw [← h9]
     exact HI.out.2.2.2.2.1)
    gi_wp2_with fail
    go_end0
    exact ⟨⟨_, rfl⟩, HJE.out⟩
   | cons d y =>
    obtain ⟨f, rfl⟩ : ∃ g, f = g + 1 := ⟨f - 1, by have h9 := HP.out.2; simp only [List.length_cons] at h9; omega⟩
    obtain ⟨q, hq⟩ : ∃ p, y.length = p := ⟨_, rfl⟩
    rw [List.length_cons, hq] at HI HP ⊢
    have HLY := hid hq
    clear hq
    have g0 : decide (0 < q + 1) = true := decide_eq_true (by omega)
    have g1 : (q + 1 == 0) = false := by simp
    have g2 : decide ((0 : Int) < (q : Int) + 1) = true := decide_eq_true (by omega)
    have g3 : (((q : Int) + 1) == 0) = false := by simp; omega
    have g4 : (0 : Int) < (q : Int) + 1 := by omega
    obtain ⟨bb, ob, rfl, y0, y1⟩ := (HI.out.2.2.2.1.2 wr (fun b _ hb => (HI.out.2.2.2.2.2 b hb).1)).at (i := 0) rfl
    rw [Nat.zero_mul, Nat.add_zero] at y0 y1
    have Hy0 := hid y0
    have Hy1 := hid y1
    gi_wp2_with fail
    have hpb := PB.new wr 1 1 false false
    have hgA := gAl wr (.cells #[.int .i64 1, .int .i64 1, .bool false, .bool false] 83) none
    obtain ⟨V0, hV0⟩ : ∃ z, wr.alloc (.cells #[.int .i64 1, .int .i64 1, .bool false, .bool false] 83) = z := ⟨_, rfl⟩
    rw [hV0] at hpb hgA ⊢
    clear hV0
    obtain ⟨bp, hbp⟩ : ∃ z, wr.heap.size = z := ⟨_, rfl⟩
    rw [hbp] at hpb ⊢
    have HB := hid hpb
    have HG := hid hgA
    have HBP := hid hbp
    clear hpb hgA hbp y0 y1
    have y0 := HG.out.cell Hy0.out (by simp)
    have y1 := HG.out.cell Hy1.out (by simp)
    refine wpIn_wide.2 ?_
    refine wp_region_still_tail 20 (by kernel_rfl) (by kernel_rfl) ?_
    simp only [List.take_succ_cons, List.take_zero, List.drop_succ_cons, List.drop_zero]
    iterate 8 ((with_reducible refine still_do ?h1 (fun K hK => ?_)); (case h1 => rfl); go_simp; (with_reducible refine hK _ ?_); clear hK K)
    iterate 9 ((with_reducible refine still_skip ?h1 ?_); (case h1 => rfl); simp only [Act.put, sA, sB, sC])
    iterate 3 ((with_reducible refine still_do ?h1 (fun K hK => ?_)); (case h1 => rfl); go_simp; (with_reducible refine hK _ ?_); clear hK K)
    with_reducible refine wpStill_nil ?_
    change wpList _ _ _ _ _ V0.drew
    obtain ⟨D1, hD⟩ : ∃ z, V0.drew = z := ⟨_, rfl⟩
    have hgd : V0.grownBy D1 none := by rw [← hD]; exact ⟨rfl, rfl, rfl, Nat.le_refl _, fun _ _ _ => rfl⟩
    rw [hD]
    replace HB := hid (HB.out.grown hgd)
    replace HG := hid (gT HG.out hgd)
    clear hD hgd y0 y1
    have k0 := HB.out.c2
    have kf := HB.out.fr 2
    go_wp2_with fail
    clear k0 kf
    replace HB := hid (HB.out.s2 false)
    replace HG := hid (grown_own HG.out (grown_set D1 bp 2 (.bool false)) (fun k e => by cases e; have := HBP.out; omega))
    obtain ⟨V1, hV⟩ : ∃ z, D1.setCell ⟨bp, 2, none⟩ (.bool false) = z := ⟨_, rfl⟩
    rw [hV] at HB HG ⊢
    clear hV
    gi_wp2_with fail
    have y0 := HG.out.cell Hy0.out (by simp)
    have y1 := HG.out.cell Hy1.out (by simp)
    refine wpIn_wide.2 ?_
    refine wp_region_still_tail 20 (by kernel_rfl) (by kernel_rfl) ?_
    simp only [List.take_succ_cons, List.take_zero, List.drop_succ_cons, List.drop_zero]
    iterate 4 ((with_reducible refine still_do ?h1 (fun K hK => ?_)); (case h1 => rfl); go_simp; (with_reducible refine hK _ ?_); clear hK K)
    iterate 14 ((with_reducible refine still_skip ?h1 ?_); (case h1 => rfl); simp only [Act.put, sA, sB, sC])
    iterate 2 ((with_reducible refine still_do ?h1 (fun K hK => ?_)); (case h1 => rfl); go_simp; (with_reducible refine hK _ ?_); clear hK K)
    with_reducible refine wpStill_nil ?_
    change wpList _ _ _ _ _ V1.drew
    obtain ⟨D2, hD⟩ : ∃ z, V1.drew = z := ⟨_, rfl⟩
    have hgd : V1.grownBy D2 none := by rw [← hD]; exact ⟨rfl, rfl, rfl, Nat.le_refl _, fun _ _ _ => rfl⟩
    rw [hD]
    replace HB := hid (HB.out.grown hgd)
    replace HG := hid (gT HG.out hgd)
    clear hD hgd y0 y1
    have k0 := HB.out.c3
    have kf := HB.out.fr 3
    go_wp2_with fail
    clear k0 kf
    replace HB := hid (HB.out.s3 true)
    replace HG := hid (grown_own HG.out (grown_set D2 bp 3 (.bool true)) (fun k e => by cases e; have := HBP.out; omega))
    obtain ⟨V2, hV⟩ : ∃ z, D2.setCell ⟨bp, 3, none⟩ (.bool true) = z := ⟨_, rfl⟩
    rw [hV] at HB HG ⊢
    clear hV
    have k2 := HB.out.c2
    have k3 := HB.out.c3
    gi_wp2_with fail
    clear k2 k3
    obtain ⟨nb2, nd2, hs2, hc2⟩ := cells_tail (b := bb) (o := ob) (p := q) (cap := yc') (by have h9 := (HI.out.2.2.2.1.here).1; rw [List.length_cons, HLY.out] at h9; exact h9)
    have HC2 := hid hc2
    clear hc2
    refine wpIn_wide.2 ?_
    have HS := hid (fun (Wh : World) (hWh : wr.grownBy Wh none) => (⟨hWh, hWh.cell Hy0.out (by simp), hWh.cell Hy1.out (by simp)⟩ : (fun Wh : World => wr.grownBy Wh none ∧ Wh.cell? ⟨bb, ob, none⟩ = some (.int .i64 d.1) ∧ Wh.cell? ⟨bb, ob + 1, none⟩ = some (.int .i64 d.2)) Wh))
    have hdr : wr.grownBy V2.drew none := gT HG.out (⟨rfl, rfl, rfl, Nat.le_refl _, fun _ _ _ => rfl⟩ : V2.grownBy V2.drew none)
    refine wp_region_held_drew (S := (fun Wh : World => wr.grownBy Wh none ∧ Wh.cell? ⟨bb, ob, none⟩ = some (.int .i64 d.1) ∧ Wh.cell? ⟨bb, ob + 1, none⟩ = some (.int .i64 d.2))) (by kernel_rfl) (HS.out _ hdr) (fun hH => ?_)
    refine tq 0 qoo0 ?_ ?_ hH ?_
    rotate_left 1
    · (intro W h; (try dsimp only at h); go_simp <;> with_reducible rfl)
    try simp only [Act.put, sA, sB, sC]
    refine tq 1 qoo1 ?_ ?_ hH ?_
    rotate_left 1
    · (intro W h; (try dsimp only at h); go_simp <;> with_reducible rfl)
    try simp only [Act.put, sA, sB, sC]
    refine tq 2 qoo2 ?_ ?_ hH ?_
    rotate_left 1
    · (intro W h; (try dsimp only at h); go_simp <;> with_reducible rfl)
    try simp only [Act.put, sA, sB, sC]
    refine tq 3 qoo3 ?_ ?_ hH ?_
    rotate_left 1
    · (intro W h; (try dsimp only at h); go_simp <;> with_reducible rfl)
    try simp only [Act.put, sA, sB, sC]
    refine tq 4 qoo4 ?_ ?_ hH ?_
    rotate_left 1
    · (intro W h; (try dsimp only at h); go_simp <;> with_reducible rfl)
    try simp only [Act.put, sA, sB, sC]
    refine tq 5 qoo5 ?_ ?_ hH ?_
    rotate_left 1
    · (intro W h; (try dsimp only at h); go_simp <;> with_reducible rfl)
    try simp only [Act.put, sA, sB, sC]
    refine tq 6 qoo6 ?_ ?_ hH ?_
    rotate_left 1
    · (intro W h; (try dsimp only at h); go_simp <;> with_reducible rfl)
    try simp only [Act.put, sA, sB, sC]
    refine tq 7 qoo7 ?_ ?_ hH ?_
    rotate_left 1
    · (intro W h; (try dsimp only at h); go_simp <;> with_reducible rfl)
    try simp only [Act.put, sA, sB, sC]
    refine tq 8 qoo8 ?_ ?_ hH ?_
    rotate_left 1
    · (intro W h; (try dsimp only at h); go_simp <;> with_reducible rfl)
    try simp only [Act.put, sA, sB, sC]
    refine tq 9 qoo9 ?_ ?_ hH ?_
    rotate_left 1
    · (intro W h; (try dsimp only at h); go_simp <;> with_reducible rfl)
    try simp only [Act.put, sA, sB, sC]
    refine tq 10 qoo10 ?_ ?_ hH ?_
    rotate_left 1
    · (intro W h; (try dsimp only at h); go_simp <;> with_reducible rfl)
    try simp only [Act.put, sA, sB, sC]
    refine tq 11 qoo11 ?_ ?_ hH ?_
    rotate_left 1
    · (intro W h; (try dsimp only at h); go_simp <;> with_reducible rfl)
    try simp only [Act.put, sA, sB, sC]
    refine wpAnyH_ready (rs := [12]) (by kernel_rfl) (by simp) ?_
    refine (AllReadyH.cons (o := qoo12) rfl (fun K hK => ?_) AllReadyH.nil)
    rw [if_pos (by rfl)]
    have hbd := HB.out.grown (⟨rfl, rfl, rfl, Nat.le_refl _, fun _ _ _ => rfl⟩ : V2.grownBy V2.drew none)
    have k0 := hbd.c1
    have kf := hbd.fr 1
    go_simp
    clear k0 kf
    have hgS := grown_own hdr (grown_set V2.drew bp 1 (.int .i64 d.2)) (fun k e => by cases e; have := HBP.out; omega)
    have hbS := hbd.s1 d.2
    obtain ⟨WS, hWS⟩ : ∃ z, (World.setCell V2 ⟨bp, 1, none⟩ (.int .i64 d.2)).drew = z := ⟨_, rfl⟩
    rw [show World.setCell V2.drew ⟨bp, 1, none⟩ (.int .i64 d.2) = (World.setCell V2 ⟨bp, 1, none⟩ (.int .i64 d.2)).drew from rfl, hWS] at hgS hbS
    rw [hWS]
    clear hWS hbd
    refine hK.out _ _ (HS.out _ hgS) (fun hH => ?_)
    clear hK K
    try simp only [Act.put, sA, sB, sC]
    refine tq 13 qoo13 ?_ ?_ hH ?_
    rotate_left 1
    · (intro W h; (try dsimp only at h); go_simp <;> with_reducible rfl)
    try simp only [Act.put, sA, sB, sC]
    refine wpAnyH_done (by kernel_rfl) ?_ _
    have hEND := hgS
    clear hH
    replace HB := hid hbS
    replace HG := hid hEND
    clear hbS hEND HS
    clear hdr hgS
    obtain ⟨V3, rfl⟩ : ∃ z, z = WS := ⟨_, rfl⟩
    clear hs2
    have HQ := hid (show (pre ++ [((d.1, 1, d.2, false, true) : Mg)]) ++ mgF f [] y = mg a b from by rw [← HP.out.1, List.append_assoc, show mgF (f + 1) [] (d :: y) = ((d.1, 1, d.2, false, true) : Mg) :: mgF f [] y from rfl]; rfl)
    have HJ := hid (HH.out.1.keep _ _ _ HI.out.2.2.2.2.1 (.of_none HG.out))
    obtain ⟨fn, tmps, assign, body, hy, hRI⟩ := HH.out.2 pre (d.1, 1, d.2, false, true) _ HJ.out (by rw [← HQ.out]; exact List.prefix_append _ _)
    simp only [mgV] at hy
    have HRI := hid hRI
    clear hRI
    have k0 := HB.out.c0
    have k1 := HB.out.c1
    have k2 := HB.out.c2
    have k3 := HB.out.c3
    gi_wp2_with fail
    clear k0 k1 k2 k3 hy
    refine ⟨fun h => (by cases h), ?_⟩
    refine HRI.out.mono ?_
    rintro e W3 ⟨rfl, hJ3, hs3⟩
    have H3 := hid (And.intro hJ3 ((HI.out.2.2.2.2.2.grown HH.out.1 HI.out.2.2.2.2.1 HG.out (HI.out.2.2.2.2.2.size HSZ.out)).saved hs3))
    clear hJ3 hs3
    gi_wp2_with fail
    gi_roundg (0 + q)
    case measure => rw [HI.out.1]; (try simp only [List.length_nil]); omega
    case rel => exact ⟨[], y, xa', nb2, xc', nd2, f, _, rfl, by rw [HLY.out], by (try simp only [List.length_nil, HLY.out]), by have h9 := HI.out.2.1; (try simp only [List.length_nil] at h9); (try simp only [List.length_nil, HLY.out]); omega, HI.out.2.2.1, (HI.out.2.2.2.1.map (fun W h => HC2.out W d y HLY.out h)), ⟨HQ.out, by have h9 := HP.out.2; (try simp only [List.length_nil] at h9); (try simp only [List.length_nil, HLY.out]); omega⟩, H3.out.1, H3.out.2⟩
  | cons c x =>
   cases y with
   | nil =>
    obtain ⟨f, rfl⟩ : ∃ g, f = g + 1 := ⟨f - 1, by have h9 := HP.out.2; simp only [List.length_cons] at h9; omega⟩
    obtain ⟨p, hp⟩ : ∃ p, x.length = p := ⟨_, rfl⟩
    rw [List.length_cons, hp] at HI HP ⊢
    have HLX := hid hp
    clear hp
    have f0 : decide (0 < p + 1) = true := decide_eq_true (by omega)
    have f1 : (p + 1 == 0) = false := by simp
    have f2 : decide ((0 : Int) < (p : Int) + 1) = true := decide_eq_true (by omega)
    have f3 : (((p : Int) + 1) == 0) = false := by simp; omega
    have f4 : (0 : Int) < (p : Int) + 1 := by omega
    obtain ⟨ba, oa, rfl, x0, x1⟩ := (HI.out.2.2.1.2 wr (fun b _ hb => (HI.out.2.2.2.2.2 b hb).1)).at (i := 0) rfl
    rw [Nat.zero_mul, Nat.add_zero] at x0 x1
    have Hx0 := hid x0
    have Hx1 := hid x1
    gi_wp2_with fail
    have hpb := PB.new wr 1 1 false false
    have hgA := gAl wr (.cells #[.int .i64 1, .int .i64 1, .bool false, .bool false] 83) none
    obtain ⟨V0, hV0⟩ : ∃ z, wr.alloc (.cells #[.int .i64 1, .int .i64 1, .bool false, .bool false] 83) = z := ⟨_, rfl⟩
    rw [hV0] at hpb hgA ⊢
    clear hV0
    obtain ⟨bp, hbp⟩ : ∃ z, wr.heap.size = z := ⟨_, rfl⟩
    rw [hbp] at hpb ⊢
    have HB := hid hpb
    have HG := hid hgA
    have HBP := hid hbp
    clear hpb hgA hbp x0 x1
    have x0 := HG.out.cell Hx0.out (by simp)
    have x1 := HG.out.cell Hx1.out (by simp)
    refine wpIn_wide.2 ?_
    refine wp_region_still_tail 20 (by kernel_rfl) (by kernel_rfl) ?_
    simp only [List.take_succ_cons, List.take_zero, List.drop_succ_cons, List.drop_zero]
    iterate 4 ((with_reducible refine still_do ?h1 (fun K hK => ?_)); (case h1 => rfl); go_simp; (with_reducible refine hK _ ?_); clear hK K)
    iterate 14 ((with_reducible refine still_skip ?h1 ?_); (case h1 => rfl); simp only [Act.put, sA, sB, sC])
    iterate 2 ((with_reducible refine still_do ?h1 (fun K hK => ?_)); (case h1 => rfl); go_simp; (with_reducible refine hK _ ?_); clear hK K)
    with_reducible refine wpStill_nil ?_
    change wpList _ _ _ _ _ V0.drew
    obtain ⟨D1, hD⟩ : ∃ z, V0.drew = z := ⟨_, rfl⟩
    have hgd : V0.grownBy D1 none := by rw [← hD]; exact ⟨rfl, rfl, rfl, Nat.le_refl _, fun _ _ _ => rfl⟩
    rw [hD]
    replace HB := hid (HB.out.grown hgd)
    replace HG := hid (gT HG.out hgd)
    clear hD hgd x0 x1
    have k0 := HB.out.c2
    have kf := HB.out.fr 2
    go_wp2_with fail
    clear k0 kf
    replace HB := hid (HB.out.s2 true)
    replace HG := hid (grown_own HG.out (grown_set D1 bp 2 (.bool true)) (fun k e => by cases e; have := HBP.out; omega))
    obtain ⟨V1, hV⟩ : ∃ z, D1.setCell ⟨bp, 2, none⟩ (.bool true) = z := ⟨_, rfl⟩
    rw [hV] at HB HG ⊢
    clear hV
    gi_wp2_with fail
    have x0 := HG.out.cell Hx0.out (by simp)
    have x1 := HG.out.cell Hx1.out (by simp)
    refine wpIn_wide.2 ?_
    refine wp_region_still_tail 20 (by kernel_rfl) (by kernel_rfl) ?_
    simp only [List.take_succ_cons, List.take_zero, List.drop_succ_cons, List.drop_zero]
    iterate 8 ((with_reducible refine still_do ?h1 (fun K hK => ?_)); (case h1 => rfl); go_simp; (with_reducible refine hK _ ?_); clear hK K)
    iterate 9 ((with_reducible refine still_skip ?h1 ?_); (case h1 => rfl); simp only [Act.put, sA, sB, sC])
    iterate 3 ((with_reducible refine still_do ?h1 (fun K hK => ?_)); (case h1 => rfl); go_simp; (with_reducible refine hK _ ?_); clear hK K)
    with_reducible refine wpStill_nil ?_
    change wpList _ _ _ _ _ V1.drew
    obtain ⟨D2, hD⟩ : ∃ z, V1.drew = z := ⟨_, rfl⟩
    have hgd : V1.grownBy D2 none := by rw [← hD]; exact ⟨rfl, rfl, rfl, Nat.le_refl _, fun _ _ _ => rfl⟩
    rw [hD]
    replace HB := hid (HB.out.grown hgd)
    replace HG := hid (gT HG.out hgd)
    clear hD hgd x0 x1
    have k0 := HB.out.c3
    have kf := HB.out.fr 3
    go_wp2_with fail
    clear k0 kf
    replace HB := hid (HB.out.s3 false)
    replace HG := hid (grown_own HG.out (grown_set D2 bp 3 (.bool false)) (fun k e => by cases e; have := HBP.out; omega))
    obtain ⟨V2, hV⟩ : ∃ z, D2.setCell ⟨bp, 3, none⟩ (.bool false) = z := ⟨_, rfl⟩
    rw [hV] at HB HG ⊢
    clear hV
    have k2 := HB.out.c2
    have k3 := HB.out.c3
    gi_wp2_with fail
    clear k2 k3
    obtain ⟨na2, nc2, hs1, hc1⟩ := cells_tail (b := ba) (o := oa) (p := p) (cap := xc') (by have h9 := (HI.out.2.2.1.here).1; rw [List.length_cons, HLX.out] at h9; exact h9)
    have HC1 := hid hc1
    clear hc1
    refine wpIn_wide.2 ?_
    have HS := hid (fun (Wh : World) (hWh : wr.grownBy Wh none) => (⟨hWh, hWh.cell Hx0.out (by simp), hWh.cell Hx1.out (by simp)⟩ : (fun Wh : World => wr.grownBy Wh none ∧ Wh.cell? ⟨ba, oa, none⟩ = some (.int .i64 c.1) ∧ Wh.cell? ⟨ba, oa + 1, none⟩ = some (.int .i64 c.2)) Wh))
    have hdr : wr.grownBy V2.drew none := gT HG.out (⟨rfl, rfl, rfl, Nat.le_refl _, fun _ _ _ => rfl⟩ : V2.grownBy V2.drew none)
    refine wp_region_held_drew (S := (fun Wh : World => wr.grownBy Wh none ∧ Wh.cell? ⟨ba, oa, none⟩ = some (.int .i64 c.1) ∧ Wh.cell? ⟨ba, oa + 1, none⟩ = some (.int .i64 c.2))) (by kernel_rfl) (HS.out _ hdr) (fun hH => ?_)
    refine tq 0 qoo14 ?_ ?_ hH ?_
    rotate_left 1
    · (intro W h; (try dsimp only at h); go_simp <;> with_reducible rfl)
    try simp only [Act.put, sA, sB, sC]
    refine tq 1 qoo15 ?_ ?_ hH ?_
    rotate_left 1
    · (intro W h; (try dsimp only at h); go_simp <;> with_reducible rfl)
    try simp only [Act.put, sA, sB, sC]
    refine tq 2 qoo16 ?_ ?_ hH ?_
    rotate_left 1
    · (intro W h; (try dsimp only at h); go_simp <;> with_reducible rfl)
    try simp only [Act.put, sA, sB, sC]
    refine tq 3 qoo17 ?_ ?_ hH ?_
    rotate_left 1
    · (intro W h; (try dsimp only at h); go_simp <;> with_reducible rfl)
    try simp only [Act.put, sA, sB, sC]
    refine tq 4 qoo18 ?_ ?_ hH ?_
    rotate_left 1
    · (intro W h; (try dsimp only at h); go_simp <;> with_reducible rfl)
    try simp only [Act.put, sA, sB, sC]
    refine tq 5 qoo19 ?_ ?_ hH ?_
    rotate_left 1
    · (intro W h; (try dsimp only at h); go_simp <;> with_reducible rfl)
    try simp only [Act.put, sA, sB, sC]
    refine tq 6 qoo20 ?_ ?_ hH ?_
    rotate_left 1
    · (intro W h; (try dsimp only at h); go_simp <;> with_reducible rfl)
    try simp only [Act.put, sA, sB, sC]
    refine tq 7 qoo21 ?_ ?_ hH ?_
    rotate_left 1
    · (intro W h; (try dsimp only at h); go_simp <;> with_reducible rfl)
    try simp only [Act.put, sA, sB, sC]
    refine tq 8 qoo22 ?_ ?_ hH ?_
    rotate_left 1
    · (intro W h; (try dsimp only at h); go_simp <;> with_reducible rfl)
    try simp only [Act.put, sA, sB, sC]
    refine tq 9 qoo23 ?_ ?_ hH ?_
    rotate_left 1
    · (intro W h; (try dsimp only at h); go_simp <;> with_reducible rfl)
    try simp only [Act.put, sA, sB, sC]
    refine tq 10 qoo24 ?_ ?_ hH ?_
    rotate_left 1
    · (intro W h; (try dsimp only at h); go_simp <;> with_reducible rfl)
    try simp only [Act.put, sA, sB, sC]
    refine tq 11 qoo25 ?_ ?_ hH ?_
    rotate_left 1
    · (intro W h; (try dsimp only at h); go_simp <;> with_reducible rfl)
    try simp only [Act.put, sA, sB, sC]
    refine wpAnyH_ready (rs := [12]) (by kernel_rfl) (by simp) ?_
    refine (AllReadyH.cons (o := qoo26) rfl (fun K hK => ?_) AllReadyH.nil)
    rw [if_pos (by rfl)]
    have hbd := HB.out.grown (⟨rfl, rfl, rfl, Nat.le_refl _, fun _ _ _ => rfl⟩ : V2.grownBy V2.drew none)
    have k0 := hbd.c0
    have kf := hbd.fr 0
    go_simp
    clear k0 kf
    have hgS := grown_own hdr (grown_set V2.drew bp 0 (.int .i64 c.2)) (fun k e => by cases e; have := HBP.out; omega)
    have hbS := hbd.s0 c.2
    obtain ⟨WS, hWS⟩ : ∃ z, (World.setCell V2 ⟨bp, 0, none⟩ (.int .i64 c.2)).drew = z := ⟨_, rfl⟩
    rw [show World.setCell V2.drew ⟨bp, 0, none⟩ (.int .i64 c.2) = (World.setCell V2 ⟨bp, 0, none⟩ (.int .i64 c.2)).drew from rfl, hWS] at hgS hbS
    rw [hWS]
    clear hWS hbd
    refine hK.out _ _ (HS.out _ hgS) (fun hH => ?_)
    clear hK K
    try simp only [Act.put, sA, sB, sC]
    refine tq 13 qoo27 ?_ ?_ hH ?_
    rotate_left 1
    · (intro W h; (try dsimp only at h); go_simp <;> with_reducible rfl)
    try simp only [Act.put, sA, sB, sC]
    refine wpAnyH_done (by kernel_rfl) ?_ _
    have hEND := hgS
    clear hH
    replace HB := hid hbS
    replace HG := hid hEND
    clear hbS hEND HS
    clear hdr hgS
    obtain ⟨V3, rfl⟩ : ∃ z, z = WS := ⟨_, rfl⟩
    clear hs1
    have HQ := hid (show (pre ++ [((c.1, c.2, 1, true, false) : Mg)]) ++ mgF f x [] = mg a b from by rw [← HP.out.1, List.append_assoc, show mgF (f + 1) (c :: x) [] = ((c.1, c.2, 1, true, false) : Mg) :: mgF f x [] from rfl]; rfl)
    have HJ := hid (HH.out.1.keep _ _ _ HI.out.2.2.2.2.1 (.of_none HG.out))
    obtain ⟨fn, tmps, assign, body, hy, hRI⟩ := HH.out.2 pre (c.1, c.2, 1, true, false) _ HJ.out (by rw [← HQ.out]; exact List.prefix_append _ _)
    simp only [mgV] at hy
    have HRI := hid hRI
    clear hRI
    have k0 := HB.out.c0
    have k1 := HB.out.c1
    have k2 := HB.out.c2
    have k3 := HB.out.c3
    gi_wp2_with fail
    clear k0 k1 k2 k3 hy
    refine ⟨fun h => (by cases h), ?_⟩
    refine HRI.out.mono ?_
    rintro e W3 ⟨rfl, hJ3, hs3⟩
    have H3 := hid (And.intro hJ3 ((HI.out.2.2.2.2.2.grown HH.out.1 HI.out.2.2.2.2.1 HG.out (HI.out.2.2.2.2.2.size HSZ.out)).saved hs3))
    clear hJ3 hs3
    gi_wp2_with fail
    gi_roundg (p + 0)
    case measure => rw [HI.out.1]; (try simp only [List.length_nil]); omega
    case rel => exact ⟨x, [], na2, ya', nc2, yc', f, _, by rw [HLX.out], rfl, by (try simp only [List.length_nil, HLX.out]), by have h9 := HI.out.2.1; (try simp only [List.length_nil] at h9); (try simp only [List.length_nil, HLX.out]); omega, (HI.out.2.2.1.map (fun W h => HC1.out W c x HLX.out h)), HI.out.2.2.2.1, ⟨HQ.out, by have h9 := HP.out.2; (try simp only [List.length_nil] at h9); (try simp only [List.length_nil, HLX.out]); omega⟩, H3.out.1, H3.out.2⟩
   | cons d y =>
    by_cases hcd : c.1 < d.1
    ·
     skip
     obtain ⟨f, rfl⟩ : ∃ g, f = g + 1 := ⟨f - 1, by have h9 := HP.out.2; simp only [List.length_cons] at h9; omega⟩
     obtain ⟨p, hp⟩ : ∃ p, x.length = p := ⟨_, rfl⟩
     rw [List.length_cons, hp] at HI HP ⊢
     have HLX := hid hp
     clear hp
     have f0 : decide (0 < p + 1) = true := decide_eq_true (by omega)
     have f1 : (p + 1 == 0) = false := by simp
     have f2 : decide ((0 : Int) < (p : Int) + 1) = true := decide_eq_true (by omega)
     have f3 : (((p : Int) + 1) == 0) = false := by simp; omega
     have f4 : (0 : Int) < (p : Int) + 1 := by omega
     obtain ⟨ba, oa, rfl, x0, x1⟩ := (HI.out.2.2.1.2 wr (fun b _ hb => (HI.out.2.2.2.2.2 b hb).1)).at (i := 0) rfl
     rw [Nat.zero_mul, Nat.add_zero] at x0 x1
     obtain ⟨q, hq⟩ : ∃ p, y.length = p := ⟨_, rfl⟩
     rw [List.length_cons, hq] at HI HP ⊢
     have HLY := hid hq
     clear hq
     have g0 : decide (0 < q + 1) = true := decide_eq_true (by omega)
     have g1 : (q + 1 == 0) = false := by simp
     have g2 : decide ((0 : Int) < (q : Int) + 1) = true := decide_eq_true (by omega)
     have g3 : (((q : Int) + 1) == 0) = false := by simp; omega
     have g4 : (0 : Int) < (q : Int) + 1 := by omega
     obtain ⟨bb, ob, rfl, y0, y1⟩ := (HI.out.2.2.2.1.2 wr (fun b _ hb => (HI.out.2.2.2.2.2 b hb).1)).at (i := 0) rfl
     rw [Nat.zero_mul, Nat.add_zero] at y0 y1
     have t0 : decide (c.1 ≤ d.1) = true := decide_eq_true (by omega)
     have t1 : decide (d.1 ≤ c.1) = false := decide_eq_false (by omega)
     have HCD := hid hcd
     clear hcd
     have Hx0 := hid x0
     have Hx1 := hid x1
     have Hy0 := hid y0
     have Hy1 := hid y1
     gi_wp2_with fail
     have hpb := PB.new wr 1 1 false false
     have hgA := gAl wr (.cells #[.int .i64 1, .int .i64 1, .bool false, .bool false] 83) none
     obtain ⟨V0, hV0⟩ : ∃ z, wr.alloc (.cells #[.int .i64 1, .int .i64 1, .bool false, .bool false] 83) = z := ⟨_, rfl⟩
     rw [hV0] at hpb hgA ⊢
     clear hV0
     obtain ⟨bp, hbp⟩ : ∃ z, wr.heap.size = z := ⟨_, rfl⟩
     rw [hbp] at hpb ⊢
     have HB := hid hpb
     have HG := hid hgA
     have HBP := hid hbp
     clear hpb hgA hbp x0 x1 y0 y1
     have x0 := HG.out.cell Hx0.out (by simp)
     have x1 := HG.out.cell Hx1.out (by simp)
     have y0 := HG.out.cell Hy0.out (by simp)
     have y1 := HG.out.cell Hy1.out (by simp)
     refine wpIn_wide.2 ?_
     refine wp_region_still_tail 20 (by kernel_rfl) (by kernel_rfl) ?_
     simp only [List.take_succ_cons, List.take_zero, List.drop_succ_cons, List.drop_zero]
     iterate 20 ((with_reducible refine still_do ?h1 (fun K hK => ?_)); (case h1 => rfl); go_simp; (with_reducible refine hK _ ?_); clear hK K)
     with_reducible refine wpStill_nil ?_
     change wpList _ _ _ _ _ V0.drew
     obtain ⟨D1, hD⟩ : ∃ z, V0.drew = z := ⟨_, rfl⟩
     have hgd : V0.grownBy D1 none := by rw [← hD]; exact ⟨rfl, rfl, rfl, Nat.le_refl _, fun _ _ _ => rfl⟩
     rw [hD]
     replace HB := hid (HB.out.grown hgd)
     replace HG := hid (gT HG.out hgd)
     clear hD hgd x0 x1 y0 y1
     have k0 := HB.out.c2
     have kf := HB.out.fr 2
     go_wp2_with fail
     clear k0 kf
     replace HB := hid (HB.out.s2 true)
     replace HG := hid (grown_own HG.out (grown_set D1 bp 2 (.bool true)) (fun k e => by cases e; have := HBP.out; omega))
     obtain ⟨V1, hV⟩ : ∃ z, D1.setCell ⟨bp, 2, none⟩ (.bool true) = z := ⟨_, rfl⟩
     rw [hV] at HB HG ⊢
     clear hV
     gi_wp2_with fail
     have x0 := HG.out.cell Hx0.out (by simp)
     have x1 := HG.out.cell Hx1.out (by simp)
     have y0 := HG.out.cell Hy0.out (by simp)
     have y1 := HG.out.cell Hy1.out (by simp)
     refine wpIn_wide.2 ?_
     refine wp_region_still_tail 20 (by kernel_rfl) (by kernel_rfl) ?_
     simp only [List.take_succ_cons, List.take_zero, List.drop_succ_cons, List.drop_zero]
     iterate 20 ((with_reducible refine still_do ?h1 (fun K hK => ?_)); (case h1 => rfl); go_simp; (with_reducible refine hK _ ?_); clear hK K)
     with_reducible refine wpStill_nil ?_
     change wpList _ _ _ _ _ V1.drew
     obtain ⟨D2, hD⟩ : ∃ z, V1.drew = z := ⟨_, rfl⟩
     have hgd : V1.grownBy D2 none := by rw [← hD]; exact ⟨rfl, rfl, rfl, Nat.le_refl _, fun _ _ _ => rfl⟩
     rw [hD]
     replace HB := hid (HB.out.grown hgd)
     replace HG := hid (gT HG.out hgd)
     clear hD hgd x0 x1 y0 y1
     have k0 := HB.out.c3
     have kf := HB.out.fr 3
     go_wp2_with fail
     clear k0 kf
     replace HB := hid (HB.out.s3 false)
     replace HG := hid (grown_own HG.out (grown_set D2 bp 3 (.bool false)) (fun k e => by cases e; have := HBP.out; omega))
     obtain ⟨V2, hV⟩ : ∃ z, D2.setCell ⟨bp, 3, none⟩ (.bool false) = z := ⟨_, rfl⟩
     rw [hV] at HB HG ⊢
     clear hV
     have k2 := HB.out.c2
     have k3 := HB.out.c3
     gi_wp2_with fail
     clear k2 k3
     obtain ⟨na2, nc2, hs1, hc1⟩ := cells_tail (b := ba) (o := oa) (p := p) (cap := xc') (by have h9 := (HI.out.2.2.1.here).1; rw [List.length_cons, HLX.out] at h9; exact h9)
     have HC1 := hid hc1
     clear hc1
     refine wpIn_wide.2 ?_
     have HS := hid (fun (Wh : World) (hWh : wr.grownBy Wh none) => (⟨hWh, hWh.cell Hx0.out (by simp), hWh.cell Hx1.out (by simp)⟩ : (fun Wh : World => wr.grownBy Wh none ∧ Wh.cell? ⟨ba, oa, none⟩ = some (.int .i64 c.1) ∧ Wh.cell? ⟨ba, oa + 1, none⟩ = some (.int .i64 c.2)) Wh))
     have hdr : wr.grownBy V2.drew none := gT HG.out (⟨rfl, rfl, rfl, Nat.le_refl _, fun _ _ _ => rfl⟩ : V2.grownBy V2.drew none)
     refine wp_region_held_drew (S := (fun Wh : World => wr.grownBy Wh none ∧ Wh.cell? ⟨ba, oa, none⟩ = some (.int .i64 c.1) ∧ Wh.cell? ⟨ba, oa + 1, none⟩ = some (.int .i64 c.2))) (by kernel_rfl) (HS.out _ hdr) (fun hH => ?_)
     refine tq 0 qoo14 ?_ ?_ hH ?_
     rotate_left 1
     · (intro W h; (try dsimp only at h); go_simp <;> with_reducible rfl)
     try simp only [Act.put, sA, sB, sC]
     refine tq 1 qoo15 ?_ ?_ hH ?_
     rotate_left 1
     · (intro W h; (try dsimp only at h); go_simp <;> with_reducible rfl)
     try simp only [Act.put, sA, sB, sC]
     refine tq 2 qoo16 ?_ ?_ hH ?_
     rotate_left 1
     · (intro W h; (try dsimp only at h); go_simp <;> with_reducible rfl)
     try simp only [Act.put, sA, sB, sC]
     refine tq 3 qoo17 ?_ ?_ hH ?_
     rotate_left 1
     · (intro W h; (try dsimp only at h); go_simp <;> with_reducible rfl)
     try simp only [Act.put, sA, sB, sC]
     refine tq 4 qoo18 ?_ ?_ hH ?_
     rotate_left 1
     · (intro W h; (try dsimp only at h); go_simp <;> with_reducible rfl)
     try simp only [Act.put, sA, sB, sC]
     refine tq 5 qoo19 ?_ ?_ hH ?_
     rotate_left 1
     · (intro W h; (try dsimp only at h); go_simp <;> with_reducible rfl)
     try simp only [Act.put, sA, sB, sC]
     refine tq 6 qoo20 ?_ ?_ hH ?_
     rotate_left 1
     · (intro W h; (try dsimp only at h); go_simp <;> with_reducible rfl)
     try simp only [Act.put, sA, sB, sC]
     refine tq 7 qoo21 ?_ ?_ hH ?_
     rotate_left 1
     · (intro W h; (try dsimp only at h); go_simp <;> with_reducible rfl)
     try simp only [Act.put, sA, sB, sC]
     refine tq 8 qoo22 ?_ ?_ hH ?_
     rotate_left 1
     · (intro W h; (try dsimp only at h); go_simp <;> with_reducible rfl)
     try simp only [Act.put, sA, sB, sC]
     refine tq 9 qoo23 ?_ ?_ hH ?_
     rotate_left 1
     · (intro W h; (try dsimp only at h); go_simp <;> with_reducible rfl)
     try simp only [Act.put, sA, sB, sC]
     refine tq 10 qoo24 ?_ ?_ hH ?_
     rotate_left 1
     · (intro W h; (try dsimp only at h); go_simp <;> with_reducible rfl)
     try simp only [Act.put, sA, sB, sC]
     refine tq 11 qoo25 ?_ ?_ hH ?_
     rotate_left 1
     · (intro W h; (try dsimp only at h); go_simp <;> with_reducible rfl)
     try simp only [Act.put, sA, sB, sC]
     refine wpAnyH_ready (rs := [12]) (by kernel_rfl) (by simp) ?_
     refine (AllReadyH.cons (o := qoo26) rfl (fun K hK => ?_) AllReadyH.nil)
     rw [if_pos (by rfl)]
     have hbd := HB.out.grown (⟨rfl, rfl, rfl, Nat.le_refl _, fun _ _ _ => rfl⟩ : V2.grownBy V2.drew none)
     have k0 := hbd.c0
     have kf := hbd.fr 0
     go_simp
     clear k0 kf
     have hgS := grown_own hdr (grown_set V2.drew bp 0 (.int .i64 c.2)) (fun k e => by cases e; have := HBP.out; omega)
     have hbS := hbd.s0 c.2
     obtain ⟨WS, hWS⟩ : ∃ z, (World.setCell V2 ⟨bp, 0, none⟩ (.int .i64 c.2)).drew = z := ⟨_, rfl⟩
     rw [show World.setCell V2.drew ⟨bp, 0, none⟩ (.int .i64 c.2) = (World.setCell V2 ⟨bp, 0, none⟩ (.int .i64 c.2)).drew from rfl, hWS] at hgS hbS
     rw [hWS]
     clear hWS hbd
     refine hK.out _ _ (HS.out _ hgS) (fun hH => ?_)
     clear hK K
     try simp only [Act.put, sA, sB, sC]
     refine tq 13 qoo27 ?_ ?_ hH ?_
     rotate_left 1
     · (intro W h; (try dsimp only at h); go_simp <;> with_reducible rfl)
     try simp only [Act.put, sA, sB, sC]
     refine wpAnyH_done (by kernel_rfl) ?_ _
     have hEND := hgS
     clear hH
     replace HB := hid hbS
     replace HG := hid hEND
     clear hbS hEND HS
     clear hdr hgS
     obtain ⟨V3, rfl⟩ : ∃ z, z = WS := ⟨_, rfl⟩
     clear hs1
     have HQ := hid (show (pre ++ [((c.1, c.2, 1, true, false) : Mg)]) ++ mgF f x (d :: y) = mg a b from by rw [← HP.out.1, List.append_assoc, show mgF (f + 1) (c :: x) (d :: y) = ((c.1, c.2, 1, true, false) : Mg) :: mgF f x (d :: y) from if_pos HCD.out]; rfl)
     have HJ := hid (HH.out.1.keep _ _ _ HI.out.2.2.2.2.1 (.of_none HG.out))
     obtain ⟨fn, tmps, assign, body, hy, hRI⟩ := HH.out.2 pre (c.1, c.2, 1, true, false) _ HJ.out (by rw [← HQ.out]; exact List.prefix_append _ _)
     simp only [mgV] at hy
     have HRI := hid hRI
     clear hRI
     have k0 := HB.out.c0
     have k1 := HB.out.c1
     have k2 := HB.out.c2
     have k3 := HB.out.c3
     gi_wp2_with fail
     clear k0 k1 k2 k3 hy
     refine ⟨fun h => (by cases h), ?_⟩
     refine HRI.out.mono ?_
     rintro e W3 ⟨rfl, hJ3, hs3⟩
     have H3 := hid (And.intro hJ3 ((HI.out.2.2.2.2.2.grown HH.out.1 HI.out.2.2.2.2.1 HG.out (HI.out.2.2.2.2.2.size HSZ.out)).saved hs3))
     clear hJ3 hs3
     gi_wp2_with fail
     gi_roundg (p + (q + 1))
     case measure => rw [HI.out.1]; (try simp only [List.length_cons, List.length_nil, HLX.out, HLY.out]); omega
     case rel => exact ⟨x, (d :: y), na2, (some ⟨bb, ob, none⟩), nc2, yc', f, _, by rw [HLX.out], by rw [List.length_cons, HLY.out], by (try simp only [List.length_cons, HLX.out, HLY.out]), by have h9 := HI.out.2.1; (try simp only [List.length_cons, List.length_nil, HLX.out, HLY.out] at h9); (try simp only [List.length_cons, HLX.out, HLY.out]); omega, (HI.out.2.2.1.map (fun W h => HC1.out W c x HLX.out h)), HI.out.2.2.2.1, ⟨HQ.out, by have h9 := HP.out.2; (try simp only [List.length_cons, List.length_nil, HLX.out, HLY.out] at h9); (try simp only [List.length_cons, HLX.out, HLY.out]); omega⟩, H3.out.1, H3.out.2⟩
    ·
     by_cases hdc : d.1 < c.1
     ·
      skip
      obtain ⟨f, rfl⟩ : ∃ g, f = g + 1 := ⟨f - 1, by have h9 := HP.out.2; simp only [List.length_cons] at h9; omega⟩
      obtain ⟨p, hp⟩ : ∃ p, x.length = p := ⟨_, rfl⟩
      rw [List.length_cons, hp] at HI HP ⊢
      have HLX := hid hp
      clear hp
      have f0 : decide (0 < p + 1) = true := decide_eq_true (by omega)
      have f1 : (p + 1 == 0) = false := by simp
      have f2 : decide ((0 : Int) < (p : Int) + 1) = true := decide_eq_true (by omega)
      have f3 : (((p : Int) + 1) == 0) = false := by simp; omega
      have f4 : (0 : Int) < (p : Int) + 1 := by omega
      obtain ⟨ba, oa, rfl, x0, x1⟩ := (HI.out.2.2.1.2 wr (fun b _ hb => (HI.out.2.2.2.2.2 b hb).1)).at (i := 0) rfl
      rw [Nat.zero_mul, Nat.add_zero] at x0 x1
      obtain ⟨q, hq⟩ : ∃ p, y.length = p := ⟨_, rfl⟩
      rw [List.length_cons, hq] at HI HP ⊢
      have HLY := hid hq
      clear hq
      have g0 : decide (0 < q + 1) = true := decide_eq_true (by omega)
      have g1 : (q + 1 == 0) = false := by simp
      have g2 : decide ((0 : Int) < (q : Int) + 1) = true := decide_eq_true (by omega)
      have g3 : (((q : Int) + 1) == 0) = false := by simp; omega
      have g4 : (0 : Int) < (q : Int) + 1 := by omega
      obtain ⟨bb, ob, rfl, y0, y1⟩ := (HI.out.2.2.2.1.2 wr (fun b _ hb => (HI.out.2.2.2.2.2 b hb).1)).at (i := 0) rfl
      rw [Nat.zero_mul, Nat.add_zero] at y0 y1
      have t0 : decide (c.1 ≤ d.1) = false := decide_eq_false (by omega)
      have t1 : decide (d.1 ≤ c.1) = true := decide_eq_true (by omega)
      have HCD := hid hcd
      clear hcd
      have HDC := hid hdc
      clear hdc
      have Hx0 := hid x0
      have Hx1 := hid x1
      have Hy0 := hid y0
      have Hy1 := hid y1
      gi_wp2_with fail
      have hpb := PB.new wr 1 1 false false
      have hgA := gAl wr (.cells #[.int .i64 1, .int .i64 1, .bool false, .bool false] 83) none
      obtain ⟨V0, hV0⟩ : ∃ z, wr.alloc (.cells #[.int .i64 1, .int .i64 1, .bool false, .bool false] 83) = z := ⟨_, rfl⟩
      rw [hV0] at hpb hgA ⊢
      clear hV0
      obtain ⟨bp, hbp⟩ : ∃ z, wr.heap.size = z := ⟨_, rfl⟩
      rw [hbp] at hpb ⊢
      have HB := hid hpb
      have HG := hid hgA
      have HBP := hid hbp
      clear hpb hgA hbp x0 x1 y0 y1
      have x0 := HG.out.cell Hx0.out (by simp)
      have x1 := HG.out.cell Hx1.out (by simp)
      have y0 := HG.out.cell Hy0.out (by simp)
      have y1 := HG.out.cell Hy1.out (by simp)
      refine wpIn_wide.2 ?_
      refine wp_region_still_tail 20 (by kernel_rfl) (by kernel_rfl) ?_
      simp only [List.take_succ_cons, List.take_zero, List.drop_succ_cons, List.drop_zero]
      iterate 20 ((with_reducible refine still_do ?h1 (fun K hK => ?_)); (case h1 => rfl); go_simp; (with_reducible refine hK _ ?_); clear hK K)
      with_reducible refine wpStill_nil ?_
      change wpList _ _ _ _ _ V0.drew
      obtain ⟨D1, hD⟩ : ∃ z, V0.drew = z := ⟨_, rfl⟩
      have hgd : V0.grownBy D1 none := by rw [← hD]; exact ⟨rfl, rfl, rfl, Nat.le_refl _, fun _ _ _ => rfl⟩
      rw [hD]
      replace HB := hid (HB.out.grown hgd)
      replace HG := hid (gT HG.out hgd)
      clear hD hgd x0 x1 y0 y1
      have k0 := HB.out.c2
      have kf := HB.out.fr 2
      go_wp2_with fail
      clear k0 kf
      replace HB := hid (HB.out.s2 false)
      replace HG := hid (grown_own HG.out (grown_set D1 bp 2 (.bool false)) (fun k e => by cases e; have := HBP.out; omega))
      obtain ⟨V1, hV⟩ : ∃ z, D1.setCell ⟨bp, 2, none⟩ (.bool false) = z := ⟨_, rfl⟩
      rw [hV] at HB HG ⊢
      clear hV
      gi_wp2_with fail
      have x0 := HG.out.cell Hx0.out (by simp)
      have x1 := HG.out.cell Hx1.out (by simp)
      have y0 := HG.out.cell Hy0.out (by simp)
      have y1 := HG.out.cell Hy1.out (by simp)
      refine wpIn_wide.2 ?_
      refine wp_region_still_tail 20 (by kernel_rfl) (by kernel_rfl) ?_
      simp only [List.take_succ_cons, List.take_zero, List.drop_succ_cons, List.drop_zero]
      iterate 20 ((with_reducible refine still_do ?h1 (fun K hK => ?_)); (case h1 => rfl); go_simp; (with_reducible refine hK _ ?_); clear hK K)
      with_reducible refine wpStill_nil ?_
      change wpList _ _ _ _ _ V1.drew
      obtain ⟨D2, hD⟩ : ∃ z, V1.drew = z := ⟨_, rfl⟩
      have hgd : V1.grownBy D2 none := by rw [← hD]; exact ⟨rfl, rfl, rfl, Nat.le_refl _, fun _ _ _ => rfl⟩
      rw [hD]
      replace HB := hid (HB.out.grown hgd)
      replace HG := hid (gT HG.out hgd)
      clear hD hgd x0 x1 y0 y1
      have k0 := HB.out.c3
      have kf := HB.out.fr 3
      go_wp2_with fail
      clear k0 kf
      replace HB := hid (HB.out.s3 true)
      replace HG := hid (grown_own HG.out (grown_set D2 bp 3 (.bool true)) (fun k e => by cases e; have := HBP.out; omega))
      obtain ⟨V2, hV⟩ : ∃ z, D2.setCell ⟨bp, 3, none⟩ (.bool true) = z := ⟨_, rfl⟩
      rw [hV] at HB HG ⊢
      clear hV
      have k2 := HB.out.c2
      have k3 := HB.out.c3
      gi_wp2_with fail
      clear k2 k3
      obtain ⟨nb2, nd2, hs2, hc2⟩ := cells_tail (b := bb) (o := ob) (p := q) (cap := yc') (by have h9 := (HI.out.2.2.2.1.here).1; rw [List.length_cons, HLY.out] at h9; exact h9)
      have HC2 := hid hc2
      clear hc2
      refine wpIn_wide.2 ?_
      have HS := hid (fun (Wh : World) (hWh : wr.grownBy Wh none) => (⟨hWh, hWh.cell Hy0.out (by simp), hWh.cell Hy1.out (by simp)⟩ : (fun Wh : World => wr.grownBy Wh none ∧ Wh.cell? ⟨bb, ob, none⟩ = some (.int .i64 d.1) ∧ Wh.cell? ⟨bb, ob + 1, none⟩ = some (.int .i64 d.2)) Wh))
      have hdr : wr.grownBy V2.drew none := gT HG.out (⟨rfl, rfl, rfl, Nat.le_refl _, fun _ _ _ => rfl⟩ : V2.grownBy V2.drew none)
      refine wp_region_held_drew (S := (fun Wh : World => wr.grownBy Wh none ∧ Wh.cell? ⟨bb, ob, none⟩ = some (.int .i64 d.1) ∧ Wh.cell? ⟨bb, ob + 1, none⟩ = some (.int .i64 d.2))) (by kernel_rfl) (HS.out _ hdr) (fun hH => ?_)
      refine tq 0 qoo0 ?_ ?_ hH ?_
      rotate_left 1
      · (intro W h; (try dsimp only at h); go_simp <;> with_reducible rfl)
      try simp only [Act.put, sA, sB, sC]
      refine tq 1 qoo1 ?_ ?_ hH ?_
      rotate_left 1
      · (intro W h; (try dsimp only at h); go_simp <;> with_reducible rfl)
      try simp only [Act.put, sA, sB, sC]
      refine tq 2 qoo2 ?_ ?_ hH ?_
      rotate_left 1
      · (intro W h; (try dsimp only at h); go_simp <;> with_reducible rfl)
      try simp only [Act.put, sA, sB, sC]
      refine tq 3 qoo3 ?_ ?_ hH ?_
      rotate_left 1
      · (intro W h; (try dsimp only at h); go_simp <;> with_reducible rfl)
      try simp only [Act.put, sA, sB, sC]
      refine tq 4 qoo4 ?_ ?_ hH ?_
      rotate_left 1
      · (intro W h; (try dsimp only at h); go_simp <;> with_reducible rfl)
      try simp only [Act.put, sA, sB, sC]
      refine tq 5 qoo5 ?_ ?_ hH ?_
      rotate_left 1
      · (intro W h; (try dsimp only at h); go_simp <;> with_reducible rfl)
      try simp only [Act.put, sA, sB, sC]
      refine tq 6 qoo6 ?_ ?_ hH ?_
      rotate_left 1
      · (intro W h; (try dsimp only at h); go_simp <;> with_reducible rfl)
      try simp only [Act.put, sA, sB, sC]
      refine tq 7 qoo7 ?_ ?_ hH ?_
      rotate_left 1
      · (intro W h; (try dsimp only at h); go_simp <;> with_reducible rfl)
      try simp only [Act.put, sA, sB, sC]
      refine tq 8 qoo8 ?_ ?_ hH ?_
      rotate_left 1
      · (intro W h; (try dsimp only at h); go_simp <;> with_reducible rfl)
      try simp only [Act.put, sA, sB, sC]
      refine tq 9 qoo9 ?_ ?_ hH ?_
      rotate_left 1
      · (intro W h; (try dsimp only at h); go_simp <;> with_reducible rfl)
      try simp only [Act.put, sA, sB, sC]
      refine tq 10 qoo10 ?_ ?_ hH ?_
      rotate_left 1
      · (intro W h; (try dsimp only at h); go_simp <;> with_reducible rfl)
      try simp only [Act.put, sA, sB, sC]
      refine tq 11 qoo11 ?_ ?_ hH ?_
      rotate_left 1
      · (intro W h; (try dsimp only at h); go_simp <;> with_reducible rfl)
      try simp only [Act.put, sA, sB, sC]
      refine wpAnyH_ready (rs := [12]) (by kernel_rfl) (by simp) ?_
      refine (AllReadyH.cons (o := qoo12) rfl (fun K hK => ?_) AllReadyH.nil)
      rw [if_pos (by rfl)]
      have hbd := HB.out.grown (⟨rfl, rfl, rfl, Nat.le_refl _, fun _ _ _ => rfl⟩ : V2.grownBy V2.drew none)
      have k0 := hbd.c1
      have kf := hbd.fr 1
      go_simp
      clear k0 kf
      have hgS := grown_own hdr (grown_set V2.drew bp 1 (.int .i64 d.2)) (fun k e => by cases e; have := HBP.out; omega)
      have hbS := hbd.s1 d.2
      obtain ⟨WS, hWS⟩ : ∃ z, (World.setCell V2 ⟨bp, 1, none⟩ (.int .i64 d.2)).drew = z := ⟨_, rfl⟩
      rw [show World.setCell V2.drew ⟨bp, 1, none⟩ (.int .i64 d.2) = (World.setCell V2 ⟨bp, 1, none⟩ (.int .i64 d.2)).drew from rfl, hWS] at hgS hbS
      rw [hWS]
      clear hWS hbd
      refine hK.out _ _ (HS.out _ hgS) (fun hH => ?_)
      clear hK K
      try simp only [Act.put, sA, sB, sC]
      refine tq 13 qoo13 ?_ ?_ hH ?_
      rotate_left 1
      · (intro W h; (try dsimp only at h); go_simp <;> with_reducible rfl)
      try simp only [Act.put, sA, sB, sC]
      refine wpAnyH_done (by kernel_rfl) ?_ _
      have hEND := hgS
      clear hH
      replace HB := hid hbS
      replace HG := hid hEND
      clear hbS hEND HS
      clear hdr hgS
      obtain ⟨V3, rfl⟩ : ∃ z, z = WS := ⟨_, rfl⟩
      clear hs2
      have HQ := hid (show (pre ++ [((d.1, 1, d.2, false, true) : Mg)]) ++ mgF f (c :: x) y = mg a b from by rw [← HP.out.1, List.append_assoc, show mgF (f + 1) (c :: x) (d :: y) = ((d.1, 1, d.2, false, true) : Mg) :: mgF f (c :: x) y from (if_neg (Int.not_lt.2 HCD.out)).trans (if_pos HDC.out)]; rfl)
      have HJ := hid (HH.out.1.keep _ _ _ HI.out.2.2.2.2.1 (.of_none HG.out))
      obtain ⟨fn, tmps, assign, body, hy, hRI⟩ := HH.out.2 pre (d.1, 1, d.2, false, true) _ HJ.out (by rw [← HQ.out]; exact List.prefix_append _ _)
      simp only [mgV] at hy
      have HRI := hid hRI
      clear hRI
      have k0 := HB.out.c0
      have k1 := HB.out.c1
      have k2 := HB.out.c2
      have k3 := HB.out.c3
      gi_wp2_with fail
      clear k0 k1 k2 k3 hy
      refine ⟨fun h => (by cases h), ?_⟩
      refine HRI.out.mono ?_
      rintro e W3 ⟨rfl, hJ3, hs3⟩
      have H3 := hid (And.intro hJ3 ((HI.out.2.2.2.2.2.grown HH.out.1 HI.out.2.2.2.2.1 HG.out (HI.out.2.2.2.2.2.size HSZ.out)).saved hs3))
      clear hJ3 hs3
      gi_wp2_with fail
      gi_roundg ((p + 1) + q)
      case measure => rw [HI.out.1]; (try simp only [List.length_cons, List.length_nil, HLX.out, HLY.out]); omega
      case rel => exact ⟨(c :: x), y, (some ⟨ba, oa, none⟩), nb2, xc', nd2, f, _, by rw [List.length_cons, HLX.out], by rw [HLY.out], by (try simp only [List.length_cons, HLX.out, HLY.out]), by have h9 := HI.out.2.1; (try simp only [List.length_cons, List.length_nil, HLX.out, HLY.out] at h9); (try simp only [List.length_cons, HLX.out, HLY.out]); omega, HI.out.2.2.1, (HI.out.2.2.2.1.map (fun W h => HC2.out W d y HLY.out h)), ⟨HQ.out, by have h9 := HP.out.2; (try simp only [List.length_cons, List.length_nil, HLX.out, HLY.out] at h9); (try simp only [List.length_cons, HLX.out, HLY.out]); omega⟩, H3.out.1, H3.out.2⟩
     ·
      skip
      obtain ⟨f, rfl⟩ : ∃ g, f = g + 1 := ⟨f - 1, by have h9 := HP.out.2; simp only [List.length_cons] at h9; omega⟩
      obtain ⟨p, hp⟩ : ∃ p, x.length = p := ⟨_, rfl⟩
      rw [List.length_cons, hp] at HI HP ⊢
      have HLX := hid hp
      clear hp
      have f0 : decide (0 < p + 1) = true := decide_eq_true (by omega)
      have f1 : (p + 1 == 0) = false := by simp
      have f2 : decide ((0 : Int) < (p : Int) + 1) = true := decide_eq_true (by omega)
      have f3 : (((p : Int) + 1) == 0) = false := by simp; omega
      have f4 : (0 : Int) < (p : Int) + 1 := by omega
      obtain ⟨ba, oa, rfl, x0, x1⟩ := (HI.out.2.2.1.2 wr (fun b _ hb => (HI.out.2.2.2.2.2 b hb).1)).at (i := 0) rfl
      rw [Nat.zero_mul, Nat.add_zero] at x0 x1
      obtain ⟨q, hq⟩ : ∃ p, y.length = p := ⟨_, rfl⟩
      rw [List.length_cons, hq] at HI HP ⊢
      have HLY := hid hq
      clear hq
      have g0 : decide (0 < q + 1) = true := decide_eq_true (by omega)
      have g1 : (q + 1 == 0) = false := by simp
      have g2 : decide ((0 : Int) < (q : Int) + 1) = true := decide_eq_true (by omega)
      have g3 : (((q : Int) + 1) == 0) = false := by simp; omega
      have g4 : (0 : Int) < (q : Int) + 1 := by omega
      obtain ⟨bb, ob, rfl, y0, y1⟩ := (HI.out.2.2.2.1.2 wr (fun b _ hb => (HI.out.2.2.2.2.2 b hb).1)).at (i := 0) rfl
      rw [Nat.zero_mul, Nat.add_zero] at y0 y1
      have t0 : decide (c.1 ≤ d.1) = true := decide_eq_true (by omega)
      have t1 : decide (d.1 ≤ c.1) = true := decide_eq_true (by omega)
      have HCD := hid hcd
      clear hcd
      have HDC := hid hdc
      clear hdc
      have Hx0 := hid x0
      have Hx1 := hid x1
      have Hy0 := hid y0
      have Hy1 := hid y1
      gi_wp2_with fail
      have hpb := PB.new wr 1 1 false false
      have hgA := gAl wr (.cells #[.int .i64 1, .int .i64 1, .bool false, .bool false] 83) none
      obtain ⟨V0, hV0⟩ : ∃ z, wr.alloc (.cells #[.int .i64 1, .int .i64 1, .bool false, .bool false] 83) = z := ⟨_, rfl⟩
      rw [hV0] at hpb hgA ⊢
      clear hV0
      obtain ⟨bp, hbp⟩ : ∃ z, wr.heap.size = z := ⟨_, rfl⟩
      rw [hbp] at hpb ⊢
      have HB := hid hpb
      have HG := hid hgA
      have HBP := hid hbp
      clear hpb hgA hbp x0 x1 y0 y1
      have x0 := HG.out.cell Hx0.out (by simp)
      have x1 := HG.out.cell Hx1.out (by simp)
      have y0 := HG.out.cell Hy0.out (by simp)
      have y1 := HG.out.cell Hy1.out (by simp)
      refine wpIn_wide.2 ?_
      refine wp_region_still_tail 20 (by kernel_rfl) (by kernel_rfl) ?_
      simp only [List.take_succ_cons, List.take_zero, List.drop_succ_cons, List.drop_zero]
      iterate 20 ((with_reducible refine still_do ?h1 (fun K hK => ?_)); (case h1 => rfl); go_simp; (with_reducible refine hK _ ?_); clear hK K)
      with_reducible refine wpStill_nil ?_
      change wpList _ _ _ _ _ V0.drew
      obtain ⟨D1, hD⟩ : ∃ z, V0.drew = z := ⟨_, rfl⟩
      have hgd : V0.grownBy D1 none := by rw [← hD]; exact ⟨rfl, rfl, rfl, Nat.le_refl _, fun _ _ _ => rfl⟩
      rw [hD]
      replace HB := hid (HB.out.grown hgd)
      replace HG := hid (gT HG.out hgd)
      clear hD hgd x0 x1 y0 y1
      have k0 := HB.out.c2
      have kf := HB.out.fr 2
      go_wp2_with fail
      clear k0 kf
      replace HB := hid (HB.out.s2 true)
      replace HG := hid (grown_own HG.out (grown_set D1 bp 2 (.bool true)) (fun k e => by cases e; have := HBP.out; omega))
      obtain ⟨V1, hV⟩ : ∃ z, D1.setCell ⟨bp, 2, none⟩ (.bool true) = z := ⟨_, rfl⟩
      rw [hV] at HB HG ⊢
      clear hV
      gi_wp2_with fail
      have x0 := HG.out.cell Hx0.out (by simp)
      have x1 := HG.out.cell Hx1.out (by simp)
      have y0 := HG.out.cell Hy0.out (by simp)
      have y1 := HG.out.cell Hy1.out (by simp)
      refine wpIn_wide.2 ?_
      refine wp_region_still_tail 20 (by kernel_rfl) (by kernel_rfl) ?_
      simp only [List.take_succ_cons, List.take_zero, List.drop_succ_cons, List.drop_zero]
      iterate 20 ((with_reducible refine still_do ?h1 (fun K hK => ?_)); (case h1 => rfl); go_simp; (with_reducible refine hK _ ?_); clear hK K)
      with_reducible refine wpStill_nil ?_
      change wpList _ _ _ _ _ V1.drew
      obtain ⟨D2, hD⟩ : ∃ z, V1.drew = z := ⟨_, rfl⟩
      have hgd : V1.grownBy D2 none := by rw [← hD]; exact ⟨rfl, rfl, rfl, Nat.le_refl _, fun _ _ _ => rfl⟩
      rw [hD]
      replace HB := hid (HB.out.grown hgd)
      replace HG := hid (gT HG.out hgd)
      clear hD hgd x0 x1 y0 y1
      have k0 := HB.out.c3
      have kf := HB.out.fr 3
      go_wp2_with fail
      clear k0 kf
      replace HB := hid (HB.out.s3 true)
      replace HG := hid (grown_own HG.out (grown_set D2 bp 3 (.bool true)) (fun k e => by cases e; have := HBP.out; omega))
      obtain ⟨V2, hV⟩ : ∃ z, D2.setCell ⟨bp, 3, none⟩ (.bool true) = z := ⟨_, rfl⟩
      rw [hV] at HB HG ⊢
      clear hV
      have k2 := HB.out.c2
      have k3 := HB.out.c3
      gi_wp2_with fail
      clear k2 k3
      obtain ⟨na2, nc2, hs1, hc1⟩ := cells_tail (b := ba) (o := oa) (p := p) (cap := xc') (by have h9 := (HI.out.2.2.1.here).1; rw [List.length_cons, HLX.out] at h9; exact h9)
      have HC1 := hid hc1
      clear hc1
      refine wpIn_wide.2 ?_
      have HS := hid (fun (Wh : World) (hWh : wr.grownBy Wh none) => (⟨hWh, hWh.cell Hx0.out (by simp), hWh.cell Hx1.out (by simp)⟩ : (fun Wh : World => wr.grownBy Wh none ∧ Wh.cell? ⟨ba, oa, none⟩ = some (.int .i64 c.1) ∧ Wh.cell? ⟨ba, oa + 1, none⟩ = some (.int .i64 c.2)) Wh))
      have hdr : wr.grownBy V2.drew none := gT HG.out (⟨rfl, rfl, rfl, Nat.le_refl _, fun _ _ _ => rfl⟩ : V2.grownBy V2.drew none)
      refine wp_region_held_drew (S := (fun Wh : World => wr.grownBy Wh none ∧ Wh.cell? ⟨ba, oa, none⟩ = some (.int .i64 c.1) ∧ Wh.cell? ⟨ba, oa + 1, none⟩ = some (.int .i64 c.2))) (by kernel_rfl) (HS.out _ hdr) (fun hH => ?_)
      refine tq 0 qoo14 ?_ ?_ hH ?_
      rotate_left 1
      · (intro W h; (try dsimp only at h); go_simp <;> with_reducible rfl)
      try simp only [Act.put, sA, sB, sC]
      refine tq 1 qoo15 ?_ ?_ hH ?_
      rotate_left 1
      · (intro W h; (try dsimp only at h); go_simp <;> with_reducible rfl)
      try simp only [Act.put, sA, sB, sC]
      refine tq 2 qoo16 ?_ ?_ hH ?_
      rotate_left 1
      · (intro W h; (try dsimp only at h); go_simp <;> with_reducible rfl)
      try simp only [Act.put, sA, sB, sC]
      refine tq 3 qoo17 ?_ ?_ hH ?_
      rotate_left 1
      · (intro W h; (try dsimp only at h); go_simp <;> with_reducible rfl)
      try simp only [Act.put, sA, sB, sC]
      refine tq 4 qoo18 ?_ ?_ hH ?_
      rotate_left 1
      · (intro W h; (try dsimp only at h); go_simp <;> with_reducible rfl)
      try simp only [Act.put, sA, sB, sC]
      refine tq 5 qoo19 ?_ ?_ hH ?_
      rotate_left 1
      · (intro W h; (try dsimp only at h); go_simp <;> with_reducible rfl)
      try simp only [Act.put, sA, sB, sC]
      refine tq 6 qoo20 ?_ ?_ hH ?_
      rotate_left 1
      · (intro W h; (try dsimp only at h); go_simp <;> with_reducible rfl)
      try simp only [Act.put, sA, sB, sC]
      refine tq 7 qoo21 ?_ ?_ hH ?_
      rotate_left 1
      · (intro W h; (try dsimp only at h); go_simp <;> with_reducible rfl)
      try simp only [Act.put, sA, sB, sC]
      refine tq 8 qoo22 ?_ ?_ hH ?_
      rotate_left 1
      · (intro W h; (try dsimp only at h); go_simp <;> with_reducible rfl)
      try simp only [Act.put, sA, sB, sC]
      refine tq 9 qoo23 ?_ ?_ hH ?_
      rotate_left 1
      · (intro W h; (try dsimp only at h); go_simp <;> with_reducible rfl)
      try simp only [Act.put, sA, sB, sC]
      refine tq 10 qoo24 ?_ ?_ hH ?_
      rotate_left 1
      · (intro W h; (try dsimp only at h); go_simp <;> with_reducible rfl)
      try simp only [Act.put, sA, sB, sC]
      refine tq 11 qoo25 ?_ ?_ hH ?_
      rotate_left 1
      · (intro W h; (try dsimp only at h); go_simp <;> with_reducible rfl)
      try simp only [Act.put, sA, sB, sC]
      refine wpAnyH_ready (rs := [12]) (by kernel_rfl) (by simp) ?_
      refine (AllReadyH.cons (o := qoo26) rfl (fun K hK => ?_) AllReadyH.nil)
      rw [if_pos (by rfl)]
      have hbd := HB.out.grown (⟨rfl, rfl, rfl, Nat.le_refl _, fun _ _ _ => rfl⟩ : V2.grownBy V2.drew none)
      have k0 := hbd.c0
      have kf := hbd.fr 0
      go_simp
      clear k0 kf
      have hgS := grown_own hdr (grown_set V2.drew bp 0 (.int .i64 c.2)) (fun k e => by cases e; have := HBP.out; omega)
      have hbS := hbd.s0 c.2
      obtain ⟨WS, hWS⟩ : ∃ z, (World.setCell V2 ⟨bp, 0, none⟩ (.int .i64 c.2)).drew = z := ⟨_, rfl⟩
      rw [show World.setCell V2.drew ⟨bp, 0, none⟩ (.int .i64 c.2) = (World.setCell V2 ⟨bp, 0, none⟩ (.int .i64 c.2)).drew from rfl, hWS] at hgS hbS
      rw [hWS]
      clear hWS hbd
      refine hK.out _ _ (HS.out _ hgS) (fun hH => ?_)
      clear hK K
      try simp only [Act.put, sA, sB, sC]
      refine tq 13 qoo27 ?_ ?_ hH ?_
      rotate_left 1
      · (intro W h; (try dsimp only at h); go_simp <;> with_reducible rfl)
      try simp only [Act.put, sA, sB, sC]
      refine wpAnyH_done (by kernel_rfl) ?_ _
      have hEND := hgS
      clear hH
      replace HB := hid hbS
      replace HG := hid hEND
      clear hbS hEND HS
      clear hdr hgS
      obtain ⟨V3, rfl⟩ : ∃ z, z = WS := ⟨_, rfl⟩
      clear hs1
      have k2 := HB.out.c2
      have k3 := HB.out.c3
      gi_wp2_with fail
      clear k2 k3
      obtain ⟨nb2, nd2, hs2, hc2⟩ := cells_tail (b := bb) (o := ob) (p := q) (cap := yc') (by have h9 := (HI.out.2.2.2.1.here).1; rw [List.length_cons, HLY.out] at h9; exact h9)
      have HC2 := hid hc2
      clear hc2
      refine wpIn_wide.2 ?_
      have HS := hid (fun (Wh : World) (hWh : wr.grownBy Wh none) => (⟨hWh, hWh.cell Hy0.out (by simp), hWh.cell Hy1.out (by simp)⟩ : (fun Wh : World => wr.grownBy Wh none ∧ Wh.cell? ⟨bb, ob, none⟩ = some (.int .i64 d.1) ∧ Wh.cell? ⟨bb, ob + 1, none⟩ = some (.int .i64 d.2)) Wh))
      have hdr : wr.grownBy V3.drew none := gT HG.out (⟨rfl, rfl, rfl, Nat.le_refl _, fun _ _ _ => rfl⟩ : V3.grownBy V3.drew none)
      refine wp_region_held_drew (S := (fun Wh : World => wr.grownBy Wh none ∧ Wh.cell? ⟨bb, ob, none⟩ = some (.int .i64 d.1) ∧ Wh.cell? ⟨bb, ob + 1, none⟩ = some (.int .i64 d.2))) (by kernel_rfl) (HS.out _ hdr) (fun hH => ?_)
      refine tq 0 qoo0 ?_ ?_ hH ?_
      rotate_left 1
      · (intro W h; (try dsimp only at h); go_simp <;> with_reducible rfl)
      try simp only [Act.put, sA, sB, sC]
      refine tq 1 qoo1 ?_ ?_ hH ?_
      rotate_left 1
      · (intro W h; (try dsimp only at h); go_simp <;> with_reducible rfl)
      try simp only [Act.put, sA, sB, sC]
      refine tq 2 qoo2 ?_ ?_ hH ?_
      rotate_left 1
      · (intro W h; (try dsimp only at h); go_simp <;> with_reducible rfl)
      try simp only [Act.put, sA, sB, sC]
      refine tq 3 qoo3 ?_ ?_ hH ?_
      rotate_left 1
      · (intro W h; (try dsimp only at h); go_simp <;> with_reducible rfl)
      try simp only [Act.put, sA, sB, sC]
      refine tq 4 qoo4 ?_ ?_ hH ?_
      rotate_left 1
      · (intro W h; (try dsimp only at h); go_simp <;> with_reducible rfl)
      try simp only [Act.put, sA, sB, sC]
      refine tq 5 qoo5 ?_ ?_ hH ?_
      rotate_left 1
      · (intro W h; (try dsimp only at h); go_simp <;> with_reducible rfl)
      try simp only [Act.put, sA, sB, sC]
      refine tq 6 qoo6 ?_ ?_ hH ?_
      rotate_left 1
      · (intro W h; (try dsimp only at h); go_simp <;> with_reducible rfl)
      try simp only [Act.put, sA, sB, sC]
      refine tq 7 qoo7 ?_ ?_ hH ?_
      rotate_left 1
      · (intro W h; (try dsimp only at h); go_simp <;> with_reducible rfl)
      try simp only [Act.put, sA, sB, sC]
      refine tq 8 qoo8 ?_ ?_ hH ?_
      rotate_left 1
      · (intro W h; (try dsimp only at h); go_simp <;> with_reducible rfl)
      try simp only [Act.put, sA, sB, sC]
      refine tq 9 qoo9 ?_ ?_ hH ?_
      rotate_left 1
      · (intro W h; (try dsimp only at h); go_simp <;> with_reducible rfl)
      try simp only [Act.put, sA, sB, sC]
      refine tq 10 qoo10 ?_ ?_ hH ?_
      rotate_left 1
      · (intro W h; (try dsimp only at h); go_simp <;> with_reducible rfl)
      try simp only [Act.put, sA, sB, sC]
      refine tq 11 qoo11 ?_ ?_ hH ?_
      rotate_left 1
      · (intro W h; (try dsimp only at h); go_simp <;> with_reducible rfl)
      try simp only [Act.put, sA, sB, sC]
      refine wpAnyH_ready (rs := [12]) (by kernel_rfl) (by simp) ?_
      refine (AllReadyH.cons (o := qoo12) rfl (fun K hK => ?_) AllReadyH.nil)
      rw [if_pos (by rfl)]
      have hbd := HB.out.grown (⟨rfl, rfl, rfl, Nat.le_refl _, fun _ _ _ => rfl⟩ : V3.grownBy V3.drew none)
      have k0 := hbd.c1
      have kf := hbd.fr 1
      go_simp
      clear k0 kf
      have hgS := grown_own hdr (grown_set V3.drew bp 1 (.int .i64 d.2)) (fun k e => by cases e; have := HBP.out; omega)
      have hbS := hbd.s1 d.2
      obtain ⟨WS, hWS⟩ : ∃ z, (World.setCell V3 ⟨bp, 1, none⟩ (.int .i64 d.2)).drew = z := ⟨_, rfl⟩
      rw [show World.setCell V3.drew ⟨bp, 1, none⟩ (.int .i64 d.2) = (World.setCell V3 ⟨bp, 1, none⟩ (.int .i64 d.2)).drew from rfl, hWS] at hgS hbS
      rw [hWS]
      clear hWS hbd
      refine hK.out _ _ (HS.out _ hgS) (fun hH => ?_)
      clear hK K
      try simp only [Act.put, sA, sB, sC]
      refine tq 13 qoo13 ?_ ?_ hH ?_
      rotate_left 1
      · (intro W h; (try dsimp only at h); go_simp <;> with_reducible rfl)
      try simp only [Act.put, sA, sB, sC]
      refine wpAnyH_done (by kernel_rfl) ?_ _
      have hEND := hgS
      clear hH
      replace HB := hid hbS
      replace HG := hid hEND
      clear hbS hEND HS
      clear hdr hgS
      obtain ⟨V4, rfl⟩ : ∃ z, z = WS := ⟨_, rfl⟩
      clear hs2
      have HQ := hid (show (pre ++ [((d.1, c.2, d.2, true, true) : Mg)]) ++ mgF f x y = mg a b from by rw [← HP.out.1, List.append_assoc, show mgF (f + 1) (c :: x) (d :: y) = ((d.1, c.2, d.2, true, true) : Mg) :: mgF f x y from by rw [show d.1 = c.1 from by have h1 := HCD.out; have h2 := HDC.out; omega]; exact (if_neg (Int.not_lt.2 HCD.out)).trans (if_neg (Int.not_lt.2 HDC.out))]; rfl)
      have HJ := hid (HH.out.1.keep _ _ _ HI.out.2.2.2.2.1 (.of_none HG.out))
      obtain ⟨fn, tmps, assign, body, hy, hRI⟩ := HH.out.2 pre (d.1, c.2, d.2, true, true) _ HJ.out (by rw [← HQ.out]; exact List.prefix_append _ _)
      simp only [mgV] at hy
      have HRI := hid hRI
      clear hRI
      have k0 := HB.out.c0
      have k1 := HB.out.c1
      have k2 := HB.out.c2
      have k3 := HB.out.c3
      gi_wp2_with fail
      clear k0 k1 k2 k3 hy
      refine ⟨fun h => (by cases h), ?_⟩
      refine HRI.out.mono ?_
      rintro e W3 ⟨rfl, hJ3, hs3⟩
      have H3 := hid (And.intro hJ3 ((HI.out.2.2.2.2.2.grown HH.out.1 HI.out.2.2.2.2.1 HG.out (HI.out.2.2.2.2.2.size HSZ.out)).saved hs3))
      clear hJ3 hs3
      gi_wp2_with fail
      gi_roundg (p + q)
      case measure => rw [HI.out.1]; (try simp only [List.length_cons, List.length_nil, HLX.out, HLY.out]); omega
      case rel => exact ⟨x, y, na2, nb2, nc2, nd2, f, _, by rw [HLX.out], by rw [HLY.out], by (try simp only [HLX.out, HLY.out]), by have h9 := HI.out.2.1; (try simp only [List.length_cons, List.length_nil, HLX.out, HLY.out] at h9); (try simp only [HLX.out, HLY.out]); omega, (HI.out.2.2.1.map (fun W h => HC1.out W c x HLX.out h)), (HI.out.2.2.2.1.map (fun W h => HC2.out W d y HLY.out h)), ⟨HQ.out, by have h9 := HP.out.2; (try simp only [List.length_cons, List.length_nil, HLX.out, HLY.out] at h9); (try simp only [HLX.out, HLY.out]); omega⟩, H3.out.1, H3.out.2⟩
end Go.Proofs.Ythdhmflodiincaa
