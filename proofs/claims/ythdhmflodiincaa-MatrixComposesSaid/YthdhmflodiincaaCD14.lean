/- Texts of the proof: QV. -/
import Derived.Test.YthdhmflodiincaaCD00
import Derived.Test.YthdhmflodiincaaCD12
import Derived.Deep.DeepCutAuto
set_option maxRecDepth 100000
set_option maxHeartbeats 8000000
namespace Go.Proofs.Ythdhmflodiincaa
open Lib (hid)
open Go.RowKit Go.Shelf Go.Maps

abbrev qvo0 : Oper := { dst := some 25, op := Op.load 3 (Operand.tmp 9), type := 3, pos := "matrix.go:185", after := #[], guard := none }
abbrev qvo1 : Oper := { dst := some 34, op := Op.call { callee := Callee.value (Operand.func 83), args := #[Operand.tmp 33], argTypes := #[3] }, type := 3, pos := "matrix.go:185", after := #[{ on := 12, ground := Ground.data }], guard := none }
abbrev qvo2 : Oper := { dst := some 35, op := Op.call { callee := Callee.value (Operand.func 81), args := #[Operand.tmp 29, Operand.tmp 31, Operand.tmp 34], argTypes := #[86, 3, 3] }, type := 3, pos := "matrix.go:185", after := #[{ on := 8, ground := Ground.data }, { on := 10, ground := Ground.data }, { on := 13, ground := Ground.data }, { on := 13, ground := Ground.chain }], guard := none }
abbrev qvo3 : Oper := { dst := some 36, op := Op.call { callee := Callee.value (Operand.func 83), args := #[Operand.tmp 35], argTypes := #[3] }, type := 3, pos := "matrix.go:185", after := #[{ on := 14, ground := Ground.data }, { on := 14, ground := Ground.chain }], guard := none }
abbrev qvo4 : Oper := { dst := some 37, op := Op.call { callee := Callee.value (Operand.func 81), args := #[Operand.tmp 24, Operand.tmp 25, Operand.tmp 36], argTypes := #[86, 3, 3] }, type := 3, pos := "matrix.go:185", after := #[{ on := 3, ground := Ground.data }, { on := 4, ground := Ground.data }, { on := 15, ground := Ground.data }, { on := 15, ground := Ground.chain }], guard := none }
abbrev qvo5 : Oper := { dst := none, op := Op.store 3 (Operand.tmp 9) (Operand.tmp 37), type := 0, pos := "matrix.go:185", after := #[{ on := 16, ground := Ground.data }, { on := 16, ground := Ground.chain }, { on := 0, ground := Ground.phase }, { on := 1, ground := Ground.phase }, { on := 2, ground := Ground.phase }, { on := 3, ground := Ground.phase }, { on := 4, ground := Ground.phase }, { on := 5, ground := Ground.phase }, { on := 6, ground := Ground.phase }, { on := 7, ground := Ground.phase }, { on := 8, ground := Ground.phase }, { on := 9, ground := Ground.phase }, { on := 10, ground := Ground.phase }, { on := 11, ground := Ground.phase }, { on := 12, ground := Ground.phase }, { on := 13, ground := Ground.phase }, { on := 14, ground := Ground.phase }, { on := 15, ground := Ground.phase }, { on := 16, ground := Ground.phase }], guard := none }
attribute [local go_sem] Oper.semAt_some
theorem resM28 (tmps : Array Value) (w : World) (b : Nat) (a : Option Addr) (n d : Nat) (x : Value) (ht : tmps.getD 6 undef = .pointer (some ⟨b, 0, none⟩)) (hu : tmps.getD 7 undef = x) (h0 : w.cell? ⟨b, 0, none⟩ = some (.slice a n d)) :
  (results Try.f28 tmps).run Try.prog w = .ok (.tuple #[.agg #[.slice a n d], x]) w := by
 have ht' : tmps[6]?.getD undef = .pointer (some ⟨b, 0, none⟩) := by simpa using ht
 have hu' : tmps[7]?.getD undef = x := by simpa using hu
 simp [results, ht', hu', go_sem, h0, Result.andThen]
def inZF (r : Int) (z : Mg) : Pr Int := if z.2.2.2.1 = true then (andP z.2.1 (notR z.2.2.1)).bind fun t => andP r (notR t) else .ret r
theorem inZ_run {a b : List Cl} (ha : UpM a) (hb : UpM b) {gs : List Gt} : (foldP inZF (mg a b) 0).run gs = (inP a b).run gs := by
 rw [mg_rk ha hb, foldP_map]
 rfl
theorem min_calls (gs : List Gt) (a b : List Cl) (ar br : Int) (gF : List Gt) (rF : Int) (xa : Option Addr) (xc : Nat) (aa : Option Addr) (na ca : Nat) (ba : Option Addr) (nb cb : Nat) (w : World)
  (eF : (inP a b).run gs = (gF, rF)) (h : GatesW w xa xc gs) (hma : CellsW w aa ca a) (hna : a.length = na) (hmb : CellsW w ba cb b) (hnb : b.length = nb) (hG : Good gs) (hMa : Mat gs a) (hMb : Mat gs b) (hl : gs.length + 2 * (na + nb) ≤ 880) (hla : na ≤ 200) (hlb : nb ≤ 200) :
  Calls Try.prog 28 #[.agg #[.slice xa gs.length xc], .agg #[.int .i64 ar, .slice aa na ca], .agg #[.int .i64 br, .slice ba nb cb]] w (Ans w gF rF) := by
 obtain ⟨ng, hng⟩ : ∃ n, gs.length = n := ⟨_, rfl⟩
 have hb4 := b4 w (.slice xa ng xc) (.int .i64 ar) (.slice aa na ca) (.int .i64 br) (.slice ba nb cb)
 obtain ⟨W4, hW4⟩ : ∃ z, w4 w (.slice xa ng xc) (.int .i64 ar) (.slice aa na ca) (.int .i64 br) (.slice ba nb cb) = z := ⟨_, rfl⟩
 rw [hW4] at hb4
 unfold w4 at hW4
 rw [hng] at hl ⊢
 have HB := hid hb4
 have HN := hid (And.intro hng (And.intro hna hnb))
 have HL := hid (And.intro hl (And.intro hla hlb))
 have HE := hid eF
 have HGM := hid (And.intro hG (And.intro hMa hMb))
 have HC := hid (And.intro h (And.intro hma hmb))
 have HNB := hid (fun (U : World) (hU : W4.grownBy U none) => newb_calls gs xa xc U (h.grown (gT hb4.g hU)))
 rw [hng] at HNB
 have z0 := HB.out.c
 have z1 := HB.out.a0
 have z2 := HB.out.a1
 have z3 := HB.out.b0
 have z4 := HB.out.b1
 clear hb4 hng eF h hma hna hmb hnb hG hMa hMb hl hla hlb
 refine (callsIn_wide (n := 3)).1 ?_
 refine callsIn_of_wp_marks Try.func28 rfl trivial ?_ rfl
 simp only [Try.ntmps28, List.size_toArray, List.length_cons, List.length_nil, Nat.reduceAdd, Nat.reduceSub, Array.replicate_succ, Array.replicate_zero, List.push_toArray, List.append_toArray, List.nil_append, List.cons_append]
 refine wpIn_wide.2 ?_
 go_wp2_with fail
 clear hW4 z0 z1 z2 z3 z4
 refine (HNB.out W4 (grown_refl _ _)).mono ?_
 rintro e V1 ⟨q, p, rfl, hp, hq, hpq, hq0, hgx, hg1⟩
 have hgA := gAl V1 (.cells #[.pointer (some ⟨q, 0, none⟩)] 77) none
 have hc8 := (one_cell V1 (.pointer (some ⟨q, 0, none⟩)) 77).2.1
 obtain ⟨V2, hV2⟩ : ∃ z, V1.alloc (.cells #[.pointer (some ⟨q, 0, none⟩)] 77) = z := ⟨_, rfl⟩
 have hs2 : V2.heap.size = V1.heap.size + 1 := by rw [← hV2]; simp
 rw [hV2] at hgA hc8
 have hmb := (show Rc (V2.alloc (.cells #[.int .i64 0] 3)) V2.heap.size 0 (.int .i64 0) from ⟨(one_cell V2 _ 3).2.1, (one_cell V2 _ 3).2.2⟩)
 have hgB := gAl V2 (.cells #[.int .i64 0] 3) none
 obtain ⟨V3, hV3⟩ : ∃ z, V2.alloc (.cells #[.int .i64 0] 3) = z := ⟨_, rfl⟩
 have hs3 : V3.heap.size = V2.heap.size + 1 := by rw [← hV3]; simp
 rw [hV3] at hmb hgB
 obtain ⟨b8, hb8⟩ : ∃ z, V1.heap.size = z := ⟨_, rfl⟩
 obtain ⟨m, hm⟩ : ∃ z, V2.heap.size = z := ⟨_, rfl⟩
 have HST := hid (show RSt w p q m gs 0 V3 from ⟨⟨0, ((hgx.grown hgA).grown hgB).own⟩, hgB.cell (hgA.cell hq0 (by simp)) (by simp), by rw [← hm]; exact hmb, gT HB.out.g (gT hg1 (gT hgA hgB)), ⟨by have := HB.out.sz; omega, by rw [← hm, hs2]; have := hgx.p_lt; omega, by have := HB.out.sz; omega⟩, fun hk => by
   have h1 : m = p := ((hgx.grown hgA).grown hgB).own_in hk
   have h3 := hgx.p_lt
   omega, fun e => hpq (((hgx.grown hgA).grown hgB).own_in e).symm, by have h3 : q < V1.heap.size := lies_lt hq0; omega⟩)
 have HSZ := hid (And.intro hs2 (And.intro hs3 (And.intro hb8 (And.intro hm (show W4.heap.size ≤ V1.heap.size from hg1.size)))))
 have HG3 := hid (gT hg1 (gT hgA hgB))
 have HC8 := hid (show V3.cell? ⟨b8, 0, none⟩ = some (.pointer (some ⟨q, 0, none⟩)) from by rw [← hb8]; exact hgB.cell hc8 (by simp))
 have HGX := hid ((hgx.grown hgA).grown hgB)
 have HPQ := hid (And.intro hp (And.intro hq (And.intro hpq (And.intro hgx.p_lt (show q < V1.heap.size from lies_lt hq0)))))
 have HGA := hid (gT hg1 hgA)
 have y1 := HG3.out.cell HB.out.a0 (by simp)
 have y2 := HG3.out.cell HB.out.a1 (by simp)
 have y3 := HG3.out.cell HB.out.b0 (by simp)
 have y4 := HG3.out.cell HB.out.b1 (by simp)
 have HV3 := hid hV3
 clear hp hq hpq hq0 hgx hg1 hgA hc8 hs2 hmb hgB hs3 hV3
 go_upto_region 3 with fail
 rw [HV3.out]
 clear hV2 hb8 hm HV3
 go_wp2_with fail
 clear y1 y2 y3 y4
 refine (merged_calls _ _ _ _ _ _ _ _ V3).mono ?_
 rintro e U4 ⟨rfl, hU4⟩
 have hc4 := merged_cells ar br aa ba na nb ca cb V3
 have g4 : V3.grownBy U4 none := by rw [hU4]; exact (gAl _ _ none).trans (gAl _ _ none)
 rw [← hU4] at hc4
 have HC4 := hid (And.intro hc4 g4)
 clear hc4 g4 hU4
 go_wp2_with fail
 have HST4 := hid (rsafe_keep (B := p) HST.out (Quiet.of_none HC4.out.2) (Nat.le_refl _)).1
 have HOC := hid (show ∀ k, OwnC p U4 k → k = p from fun k hk => by
  obtain ⟨hi0, h0⟩ := HST.out.gx
  have h1 := h0.own_kept (fun o v hv => HC4.out.2.cell hv (by simp)) hk
  exact HGX.out.own_in h1)
 have HLI := hid (show LoopR w U4 p q m inZF gs [] U4 from ⟨⟨gs, 0, HST4.out, rfl, HGM.out.1, (one_ok HGM.out.1).2, List.prefix_refl _, Nat.le_refl _⟩, fun b hb => ⟨rfl, hb⟩⟩)
 have HS4 := hid (show U4.heap.size = m + 3 from by have h1 := HC4.out.1.2.2; have h2 := HSZ.out; omega)
 have HWS := hid (show w.heap.size + 4 ≤ p ∧ p < b8 ∧ b8 + 1 = m ∧ w.heap.size + 4 ≤ q ∧ q < b8 from by have h1 := HB.out.sz; have h2 := HSZ.out; have h3 := HPQ.out; omega)
 have HGW := hid (gT HB.out.g (gT HG3.out HC4.out.2))
 refine wpIn_wide.1 (rangeYesA (n := 3) (vals := mgV) (gf := 114) (lb := #[.pointer (some ⟨V3.heap.size, 0, none⟩), .pointer (some ⟨V3.heap.size + 1, 0, none⟩)]) rfl rfl rfl trivial (enters_of Try.func114 (by kernel_rfl) rfl) (fun _ => rfl)
  (caps := fun b => b < w.heap.size) (xs := mg a b) (fun U g => merged_gives a b aa ba ca cb V3.heap.size (V3.heap.size + 1) w.heap.size U (gT HGW.out g).size (HC.out.2.1.span.grown (gT HGW.out g)) (HC.out.2.2.span.grown (gT HGW.out g))
   (by rw [HN.out.2.1]; exact g.cell HC4.out.1.1 (by simp)) (by rw [HN.out.2.2]; exact g.cell HC4.out.1.2.1 (by simp)) (by rw [HN.out.2.1]; have := HL.out; omega) (by rw [HN.out.2.2]; have := HL.out; omega))
  (LoopR w U4 p q m inZF gs) (SafeR p m) (fun _ _ h => h.1) (loopR_abide (by have := HS4.out; have := HWS.out; omega) (Nat.le_refl _)) (fun b hb => ⟨by have := HS4.out; have := HWS.out; omega, fun e => by have := HOC.out b e; have := HWS.out; omega, by have := HWS.out; omega⟩) HLI.out ?round ?done)
 case round =>
  intro l' pre x V hF hpre
  obtain ⟨k, ra, rb, ia, ib⟩ := x
  simp only [mgV]
  have HF := hid hF
  have HPRE := hid hpre
  clear hF hpre
  gi_wp2_with fail
  refine ⟨gAl V _ none, fun W2 hq => ?_⟩
  obtain ⟨hI2, hbp, c0, c1, c2, c3⟩ := HF.out.begin hq (by have := HS4.out; have := HWS.out; omega) (Nat.le_refl _)
  obtain ⟨bp, hbpe⟩ : ∃ z, V.heap.size = z := ⟨_, rfl⟩
  rw [hbpe] at hbp c0 c1 c2 c3 ⊢
  obtain ⟨⟨g, r, hst, hrun, hgd, hor, hpx, hgl⟩, hlow⟩ := hI2
  have hs8 := hlow b8 ⟨by have := HS4.out; have := HWS.out; omega, fun e => by have := HOC.out b8 e; have := HWS.out; omega, by have := HWS.out; omega⟩
  have HK8 := hid (show W2.cell? ⟨b8, 0, none⟩ = some (.pointer (some ⟨q, 0, none⟩)) from (World.cell?_of_block (a := ⟨b8, 0, none⟩) hs8.1).trans (HC4.out.2.cell HC8.out (by simp)))
  have HSF := hid (show SafeR p m W2 b8 ∧ SafeR p m W2 q ∧ SafeR p m W2 bp from ⟨hs8.2, ⟨lies_lt hst.q0, hst.nq.1, hst.nq.2⟩, hbp⟩)
  have HK := hid (And.intro c0 c1)
  have HRUN := hid hrun
  have HLOW := hid hlow
  have HGD := hid (And.intro hgd hpx)
  have hml := mg_len HGM.out.2.1.1 HGM.out.2.2.1
  have hpl := HPRE.out.length_le
  rw [List.length_append, List.length_singleton] at hpl
  have HBD := hid (show pre.length + 1 ≤ na + nb ∧ g.length ≤ gs.length + 2 * pre.length ∧ gs.length + 2 * (na + nb) ≤ 880 ∧ na + nb ≤ 400 from by have h1 := HN.out; have h2 := HL.out; rw [← h1.1] at h2; omega)
  have hok := mg_ok HGM.out.1 HGM.out.2.1 HGM.out.2.2 (HPRE.out.subset (List.mem_append_right _ (List.mem_singleton.2 rfl)))
  have hoa : Ok g ra := by have h1 := hok.1; have h2 := hpx.length_le; unfold Ok at h1 ⊢; simp only at h1; omega
  have hob : Ok g rb := by have h1 := hok.2; have h2 := hpx.length_le; unfold Ok at h1 ⊢; simp only at h1; omega
  have HRA := hid (show ra ≤ 9223372036854775807 from by unfold Ok at hoa; have := HBD.out; omega)
  have HRB := hid (show rb ≤ 9223372036854775807 from by unfold Ok at hob; have := HBD.out; omega)
  have HST2 := hid hst
  have HSTD := hid hst.drew
  have HOR := hid hor
  have HRR := hid (show r ≤ 9223372036854775807 from by unfold Ok at hor; have := HBD.out; omega)
  clear hq hbpe hbp hst hrun hgd hpx hgl hlow hs8 hml hpl hok
  cases ia with
  | true =>
   obtain ⟨qq, hqq⟩ : ∃ z, andC g ra (notR rb) = z := ⟨_, rfl⟩
   obtain ⟨g1, t⟩ := qq
   have h1 := step_and HGD.out.1 ra (notR rb)
   have h2 := and_ok HGD.out.1 (by have := HBD.out; omega) hoa (notR_ok hob)
   have h3 := @and_len g ra (notR rb)
   rw [hqq] at h1 h2 h3
   have h3' : g1.length ≤ g.length + 1 := h3
   have hr1 : Ok g1 r := by have h9 := h1.pre.length_le; have h8 := HOR.out; unfold Ok at h8 ⊢; simp only at h9; omega
   obtain ⟨qr, hqr⟩ : ∃ z, andC g1 r (notR t) = z := ⟨_, rfl⟩
   obtain ⟨g2, u⟩ := qr
   have h4 := step_and h1.good r (notR t)
   have h5 := and_ok h1.good (by have := HBD.out; omega) hr1 (notR_ok h2)
   have h6 := @and_len g1 r (notR t)
   rw [hqr] at h4 h5 h6
   have h6' : g2.length ≤ g1.length + 1 := h6
   have HFX := hid (show (inZF r (k, ra, rb, true, ib)).run g = (g2, u) from by show ((andP ra (notR rb)).bind fun t => andP r (notR t)).run g = _; rw [Pr.run_bind]; show andC (andC g ra (notR rb)).1 r (notR (andC g ra (notR rb)).2) = _; rw [hqq]; exact hqr)
   have HNX := hid (show Good g2 ∧ Ok g2 u ∧ gs <+: g2 ∧ g2.length ≤ gs.length + 2 * (pre.length + 1) from ⟨h4.good, h5, HGD.out.2.trans (h1.pre.trans h4.pre), by have := HBD.out; omega⟩)
   have HQ1 := hid hqq
   have HQ2 := hid hqr
   have HG1 := hid (show Good g1 ∧ g1.length ≤ 990 from ⟨h1.good, by have := HBD.out; omega⟩)
   have HTL := hid (show t ≤ 9223372036854775807 from by have h9 : Ok g1 t := h2; unfold Ok at h9; have := HBD.out; omega)
   obtain ⟨hi, hgx⟩ := HSTD.out.gx
   have HGX2 := hid hgx
   clear hqq hqr h1 h2 h3 h3' h4 h5 h6 h6' hr1 hor hgx hoa hob c0 c1
   gi_wp2_with fail
   clear c2 c3
   have HS := hid (fun (Wh : World) (hWh : Saved (SafeR p m) W2 Wh) => (⟨hWh, hWh.cellR HSF.out.1 HK8.out, hWh.cellR HSF.out.2.1 HST2.out.q0, hWh.cellR HSF.out.2.2 HK.out.1, hWh.cellR HSF.out.2.2 HK.out.2⟩ : (fun Wh : World => Saved (SafeR p m) W2 Wh ∧ Wh.cell? ⟨b8, 0, none⟩ = some (.pointer (some ⟨q, 0, none⟩)) ∧ Wh.cell? ⟨q, 0, none⟩ = some (.pointer (some ⟨p, 0, none⟩)) ∧ Wh.cell? ⟨bp, 0, none⟩ = some (.int .i64 ra) ∧ Wh.cell? ⟨bp, 1, none⟩ = some (.int .i64 rb)) Wh))
   have hdr : Saved (SafeR p m) W2 W2.drew := fun _ hb => ⟨rfl, hb⟩
   refine wpIn_region_held_round (S := (fun Wh : World => Saved (SafeR p m) W2 Wh ∧ Wh.cell? ⟨b8, 0, none⟩ = some (.pointer (some ⟨q, 0, none⟩)) ∧ Wh.cell? ⟨q, 0, none⟩ = some (.pointer (some ⟨p, 0, none⟩)) ∧ Wh.cell? ⟨bp, 0, none⟩ = some (.int .i64 ra) ∧ Wh.cell? ⟨bp, 1, none⟩ = some (.int .i64 rb))) (by kernel_rfl) (by kernel_rfl) (by rintro ⟨_, _, h⟩; exact h) (HS.out _ hdr) (fun hH => ?_)
   refine tq 0 ({ dst := some 21, op := Op.load 77 (Operand.tmp 8), type := 77, pos := "matrix.go:185", after := #[], guard := none }) ?_ ?_ hH ?_
   rotate_left 1
   · (intro W h; (try dsimp only at h); go_simp <;> with_reducible rfl)
   try simp only [Act.put, sA, sB, sC]
   refine tq 1 ({ dst := some 22, op := Op.nilCheck (Operand.tmp 21), type := 0, pos := "matrix.go:185", after := #[{ on := 0, ground := Ground.data }], guard := none }) ?_ ?_ hH ?_
   rotate_left 1
   · (intro W h; (try dsimp only at h); go_simp <;> with_reducible rfl)
   try simp only [Act.put, sA, sB, sC]
   refine tq 2 ({ dst := some 23, op := Op.fieldAddr 88 (Operand.tmp 22) 0, type := 0, pos := "matrix.go:185", after := #[{ on := 1, ground := Ground.data }], guard := none }) ?_ ?_ hH ?_
   rotate_left 1
   · (intro W h; (try dsimp only at h); go_simp <;> with_reducible rfl)
   try simp only [Act.put, sA, sB, sC]
   refine tq 3 ({ dst := some 24, op := Op.load 86 (Operand.tmp 23), type := 86, pos := "matrix.go:185", after := #[{ on := 2, ground := Ground.data }], guard := none }) ?_ ?_ hH ?_
   rotate_left 1
   · (intro W h; (try dsimp only at h); go_simp <;> with_reducible rfl)
   try simp only [Act.put, sA, sB, sC]
   refine tq 5 ({ dst := some 26, op := Op.load 77 (Operand.tmp 8), type := 77, pos := "matrix.go:185", after := #[], guard := none }) ?_ ?_ hH ?_
   rotate_left 1
   · (intro W h; (try dsimp only at h); go_simp <;> with_reducible rfl)
   try simp only [Act.put, sA, sB, sC]
   refine tq 6 ({ dst := some 27, op := Op.nilCheck (Operand.tmp 26), type := 0, pos := "matrix.go:185", after := #[{ on := 5, ground := Ground.data }], guard := none }) ?_ ?_ hH ?_
   rotate_left 1
   · (intro W h; (try dsimp only at h); go_simp <;> with_reducible rfl)
   try simp only [Act.put, sA, sB, sC]
   refine tq 7 ({ dst := some 28, op := Op.fieldAddr 88 (Operand.tmp 27) 0, type := 0, pos := "matrix.go:185", after := #[{ on := 6, ground := Ground.data }], guard := none }) ?_ ?_ hH ?_
   rotate_left 1
   · (intro W h; (try dsimp only at h); go_simp <;> with_reducible rfl)
   try simp only [Act.put, sA, sB, sC]
   refine tq 8 ({ dst := some 29, op := Op.load 86 (Operand.tmp 28), type := 86, pos := "matrix.go:185", after := #[{ on := 7, ground := Ground.data }], guard := none }) ?_ ?_ hH ?_
   rotate_left 1
   · (intro W h; (try dsimp only at h); go_simp <;> with_reducible rfl)
   try simp only [Act.put, sA, sB, sC]
   refine tq 9 ({ dst := some 30, op := Op.fieldAddr 83 (Operand.tmp 11) 0, type := 0, pos := "matrix.go:185", after := #[], guard := none }) ?_ ?_ hH ?_
   rotate_left 1
   · (intro W h; (try dsimp only at h); go_simp <;> with_reducible rfl)
   try simp only [Act.put, sA, sB, sC]
   refine tq 10 ({ dst := some 31, op := Op.load 3 (Operand.tmp 30), type := 3, pos := "matrix.go:185", after := #[{ on := 9, ground := Ground.data }], guard := none }) ?_ ?_ hH ?_
   rotate_left 1
   · (intro W h; (try dsimp only at h); go_simp <;> with_reducible rfl)
   try simp only [Act.put, sA, sB, sC]
   refine tq 11 ({ dst := some 32, op := Op.fieldAddr 83 (Operand.tmp 11) 1, type := 0, pos := "matrix.go:185", after := #[], guard := none }) ?_ ?_ hH ?_
   rotate_left 1
   · (intro W h; (try dsimp only at h); go_simp <;> with_reducible rfl)
   try simp only [Act.put, sA, sB, sC]
   refine tq 12 ({ dst := some 33, op := Op.load 3 (Operand.tmp 32), type := 3, pos := "matrix.go:185", after := #[{ on := 11, ground := Ground.data }], guard := none }) ?_ ?_ hH ?_
   rotate_left 1
   · (intro W h; (try dsimp only at h); go_simp <;> with_reducible rfl)
   try simp only [Act.put, sA, sB, sC]
   refine wpAnyH_ready (rs := [4, 13]) (by kernel_rfl) (by simp) ?_
   refine (AllReadyH.cons (o := qvo0) rfl (fun K hK => ?_) (AllReadyH.cons (o := qvo1) rfl (fun K hK => ?_) AllReadyH.nil))
   ·
    rw [if_pos (by rfl)]
    have k1 := (show (World.drew W2).cell? ⟨m, 0, none⟩ = some (.int .i64 r) from HST2.out.rc.1)
    go_simp
    clear k1
    refine hK.out _ _ (HS.out _ hdr) (fun hH => ?_)
    clear hK K
    try simp only [Act.put, sA, sB, sC]
    refine wpAnyH_ready (rs := [13]) (by kernel_rfl) (by simp) ?_
    refine (AllReadyH.cons (o := qvo1) rfl (fun K hK => ?_) AllReadyH.nil)
    rw [if_pos (by rfl)]
    go_simp
    go_at_call 83
    refine (not_at rb HRB.out).mono ?_
    rintro e w9 ⟨rfl, hw9⟩
    rw [hw9]
    clear hw9 w9
    go_wp2_with fail
    refine hK.out _ _ (HS.out _ hdr) (fun hH => ?_)
    clear hK K
    try simp only [Act.put, sA, sB, sC]
    refine wpAnyH_ready (rs := [14]) (by kernel_rfl) (by simp) ?_
    refine (AllReadyH.cons (o := qvo2) rfl (fun K hK => ?_) AllReadyH.nil)
    rw [if_pos (by rfl)]
    go_simp
    go_at_call 81
    refine (gand_c g ra (notR rb) p g1 t HQ1.out HGD.out.1 (by have := HBD.out; omega) (OwnC p (World.drew W2)) (World.drew W2) hi HGX2.out).mono ?_
    rintro e wM ⟨rfl, hi2, hgx2, hof2⟩
    have hs3 := HSTD.out.step hgx2 hof2
    have hv3 := Saved.trans hdr hs3.2
    obtain ⟨hi3, hgx3⟩ := hs3.1.gx
    go_wp2_with fail
    refine hK.out _ _ (HS.out _ hv3) (fun hH => ?_)
    clear hK K
    try simp only [Act.put, sA, sB, sC]
    refine wpAnyH_ready (rs := [15]) (by kernel_rfl) (by simp) ?_
    refine (AllReadyH.cons (o := qvo3) rfl (fun K hK => ?_) AllReadyH.nil)
    rw [if_pos (by rfl)]
    go_simp
    go_at_call 83
    refine (not_at t HTL.out).mono ?_
    rintro e w9 ⟨rfl, hw9⟩
    rw [hw9]
    clear hw9 w9
    go_wp2_with fail
    refine hK.out _ _ (HS.out _ hv3) (fun hH => ?_)
    clear hK K
    try simp only [Act.put, sA, sB, sC]
    refine wpAnyH_ready (rs := [16]) (by kernel_rfl) (by simp) ?_
    refine (AllReadyH.cons (o := qvo4) rfl (fun K hK => ?_) AllReadyH.nil)
    rw [if_pos (by rfl)]
    go_simp
    go_at_call 81
    refine (gand_c g1 r (notR t) p g2 u HQ2.out HG1.out.1 (by have := HG1.out; omega) (OwnC p wM) wM hi3 hgx3).mono ?_
    rintro e wN ⟨rfl, hi4, hgx4, hof4⟩
    have hs4 := hs3.1.step hgx4 hof4
    have hv4 := Saved.trans hv3 hs4.2
    go_wp2_with fail
    refine hK.out _ _ (HS.out _ hv4) (fun hH => ?_)
    clear hK K
    try simp only [Act.put, sA, sB, sC]
    refine wpAnyH_ready (rs := [17]) (by kernel_rfl) (by simp) ?_
    refine (AllReadyH.cons (o := qvo5) rfl (fun K hK => ?_) AllReadyH.nil)
    rw [if_pos (by rfl)]
    have k1 := hs4.1.rc.1
    have kf := hs4.1.rc.2
    go_simp
    clear k1 kf
    have hs5 := hs4.1.set u
    have hvS := Saved.trans hv4 hs5.2
    refine hK.out _ _ (HS.out _ hvS) (fun hH => ?_)
    clear hK K
    try simp only [Act.put, sA, sB, sC]
    refine wpAnyH_done (by kernel_rfl) ?_ _
    have hEND := hvS
    clear hH
    exact ⟨LoopR.next HLOW.out hs5.1 hvS HRUN.out HFX.out HNX.out.1 HNX.out.2.1 HNX.out.2.2.1 HNX.out.2.2.2, hvS⟩
   ·
    rw [if_pos (by rfl)]
    go_simp
    go_at_call 83
    refine (not_at rb HRB.out).mono ?_
    rintro e w9 ⟨rfl, hw9⟩
    rw [hw9]
    clear hw9 w9
    go_wp2_with fail
    refine hK.out _ _ (HS.out _ hdr) (fun hH => ?_)
    clear hK K
    try simp only [Act.put, sA, sB, sC]
    refine wpAnyH_ready (rs := [4, 14]) (by kernel_rfl) (by simp) ?_
    refine (AllReadyH.cons (o := qvo0) rfl (fun K hK => ?_) (AllReadyH.cons (o := qvo2) rfl (fun K hK => ?_) AllReadyH.nil))
    ·
     rw [if_pos (by rfl)]
     have k1 := (show (World.drew W2).cell? ⟨m, 0, none⟩ = some (.int .i64 r) from HST2.out.rc.1)
     go_simp
     clear k1
     refine hK.out _ _ (HS.out _ hdr) (fun hH => ?_)
     clear hK K
     try simp only [Act.put, sA, sB, sC]
     refine wpAnyH_ready (rs := [14]) (by kernel_rfl) (by simp) ?_
     refine (AllReadyH.cons (o := qvo2) rfl (fun K hK => ?_) AllReadyH.nil)
     rw [if_pos (by rfl)]
     go_simp
     go_at_call 81
     refine (gand_c g ra (notR rb) p g1 t HQ1.out HGD.out.1 (by have := HBD.out; omega) (OwnC p (World.drew W2)) (World.drew W2) hi HGX2.out).mono ?_
     rintro e wM ⟨rfl, hi2, hgx2, hof2⟩
     have hs3 := HSTD.out.step hgx2 hof2
     have hv3 := Saved.trans hdr hs3.2
     obtain ⟨hi3, hgx3⟩ := hs3.1.gx
     go_wp2_with fail
     refine hK.out _ _ (HS.out _ hv3) (fun hH => ?_)
     clear hK K
     try simp only [Act.put, sA, sB, sC]
     refine wpAnyH_ready (rs := [15]) (by kernel_rfl) (by simp) ?_
     refine (AllReadyH.cons (o := qvo3) rfl (fun K hK => ?_) AllReadyH.nil)
     rw [if_pos (by rfl)]
     go_simp
     go_at_call 83
     refine (not_at t HTL.out).mono ?_
     rintro e w9 ⟨rfl, hw9⟩
     rw [hw9]
     clear hw9 w9
     go_wp2_with fail
     refine hK.out _ _ (HS.out _ hv3) (fun hH => ?_)
     clear hK K
     try simp only [Act.put, sA, sB, sC]
     refine wpAnyH_ready (rs := [16]) (by kernel_rfl) (by simp) ?_
     refine (AllReadyH.cons (o := qvo4) rfl (fun K hK => ?_) AllReadyH.nil)
     rw [if_pos (by rfl)]
     go_simp
     go_at_call 81
     refine (gand_c g1 r (notR t) p g2 u HQ2.out HG1.out.1 (by have := HG1.out; omega) (OwnC p wM) wM hi3 hgx3).mono ?_
     rintro e wN ⟨rfl, hi4, hgx4, hof4⟩
     have hs4 := hs3.1.step hgx4 hof4
     have hv4 := Saved.trans hv3 hs4.2
     go_wp2_with fail
     refine hK.out _ _ (HS.out _ hv4) (fun hH => ?_)
     clear hK K
     try simp only [Act.put, sA, sB, sC]
     refine wpAnyH_ready (rs := [17]) (by kernel_rfl) (by simp) ?_
     refine (AllReadyH.cons (o := qvo5) rfl (fun K hK => ?_) AllReadyH.nil)
     rw [if_pos (by rfl)]
     have k1 := hs4.1.rc.1
     have kf := hs4.1.rc.2
     go_simp
     clear k1 kf
     have hs5 := hs4.1.set u
     have hvS := Saved.trans hv4 hs5.2
     refine hK.out _ _ (HS.out _ hvS) (fun hH => ?_)
     clear hK K
     try simp only [Act.put, sA, sB, sC]
     refine wpAnyH_done (by kernel_rfl) ?_ _
     have hEND := hvS
     clear hH
     exact ⟨LoopR.next HLOW.out hs5.1 hvS HRUN.out HFX.out HNX.out.1 HNX.out.2.1 HNX.out.2.2.1 HNX.out.2.2.2, hvS⟩
    ·
     rw [if_pos (by rfl)]
     go_simp
     go_at_call 81
     refine (gand_c g ra (notR rb) p g1 t HQ1.out HGD.out.1 (by have := HBD.out; omega) (OwnC p (World.drew W2)) (World.drew W2) hi HGX2.out).mono ?_
     rintro e wM ⟨rfl, hi2, hgx2, hof2⟩
     have hs3 := HSTD.out.step hgx2 hof2
     have hv3 := Saved.trans hdr hs3.2
     obtain ⟨hi3, hgx3⟩ := hs3.1.gx
     go_wp2_with fail
     refine hK.out _ _ (HS.out _ hv3) (fun hH => ?_)
     clear hK K
     try simp only [Act.put, sA, sB, sC]
     refine wpAnyH_ready (rs := [4, 15]) (by kernel_rfl) (by simp) ?_
     refine (AllReadyH.cons (o := qvo0) rfl (fun K hK => ?_) (AllReadyH.cons (o := qvo3) rfl (fun K hK => ?_) AllReadyH.nil))
     ·
      rw [if_pos (by rfl)]
      have k1 := hs3.1.rc.1
      go_simp
      clear k1
      refine hK.out _ _ (HS.out _ hv3) (fun hH => ?_)
      clear hK K
      try simp only [Act.put, sA, sB, sC]
      refine wpAnyH_ready (rs := [15]) (by kernel_rfl) (by simp) ?_
      refine (AllReadyH.cons (o := qvo3) rfl (fun K hK => ?_) AllReadyH.nil)
      rw [if_pos (by rfl)]
      go_simp
      go_at_call 83
      refine (not_at t HTL.out).mono ?_
      rintro e w9 ⟨rfl, hw9⟩
      rw [hw9]
      clear hw9 w9
      go_wp2_with fail
      refine hK.out _ _ (HS.out _ hv3) (fun hH => ?_)
      clear hK K
      try simp only [Act.put, sA, sB, sC]
      refine wpAnyH_ready (rs := [16]) (by kernel_rfl) (by simp) ?_
      refine (AllReadyH.cons (o := qvo4) rfl (fun K hK => ?_) AllReadyH.nil)
      rw [if_pos (by rfl)]
      go_simp
      go_at_call 81
      refine (gand_c g1 r (notR t) p g2 u HQ2.out HG1.out.1 (by have := HG1.out; omega) (OwnC p wM) wM hi3 hgx3).mono ?_
      rintro e wN ⟨rfl, hi4, hgx4, hof4⟩
      have hs4 := hs3.1.step hgx4 hof4
      have hv4 := Saved.trans hv3 hs4.2
      go_wp2_with fail
      refine hK.out _ _ (HS.out _ hv4) (fun hH => ?_)
      clear hK K
      try simp only [Act.put, sA, sB, sC]
      refine wpAnyH_ready (rs := [17]) (by kernel_rfl) (by simp) ?_
      refine (AllReadyH.cons (o := qvo5) rfl (fun K hK => ?_) AllReadyH.nil)
      rw [if_pos (by rfl)]
      have k1 := hs4.1.rc.1
      have kf := hs4.1.rc.2
      go_simp
      clear k1 kf
      have hs5 := hs4.1.set u
      have hvS := Saved.trans hv4 hs5.2
      refine hK.out _ _ (HS.out _ hvS) (fun hH => ?_)
      clear hK K
      try simp only [Act.put, sA, sB, sC]
      refine wpAnyH_done (by kernel_rfl) ?_ _
      have hEND := hvS
      clear hH
      exact ⟨LoopR.next HLOW.out hs5.1 hvS HRUN.out HFX.out HNX.out.1 HNX.out.2.1 HNX.out.2.2.1 HNX.out.2.2.2, hvS⟩
     ·
      rw [if_pos (by rfl)]
      go_simp
      go_at_call 83
      refine (not_at t HTL.out).mono ?_
      rintro e w9 ⟨rfl, hw9⟩
      rw [hw9]
      clear hw9 w9
      go_wp2_with fail
      refine hK.out _ _ (HS.out _ hv3) (fun hH => ?_)
      clear hK K
      try simp only [Act.put, sA, sB, sC]
      refine wpAnyH_ready (rs := [4]) (by kernel_rfl) (by simp) ?_
      refine (AllReadyH.cons (o := qvo0) rfl (fun K hK => ?_) AllReadyH.nil)
      rw [if_pos (by rfl)]
      have k1 := hs3.1.rc.1
      go_simp
      clear k1
      refine hK.out _ _ (HS.out _ hv3) (fun hH => ?_)
      clear hK K
      try simp only [Act.put, sA, sB, sC]
      refine wpAnyH_ready (rs := [16]) (by kernel_rfl) (by simp) ?_
      refine (AllReadyH.cons (o := qvo4) rfl (fun K hK => ?_) AllReadyH.nil)
      rw [if_pos (by rfl)]
      go_simp
      go_at_call 81
      refine (gand_c g1 r (notR t) p g2 u HQ2.out HG1.out.1 (by have := HG1.out; omega) (OwnC p wM) wM hi3 hgx3).mono ?_
      rintro e wN ⟨rfl, hi4, hgx4, hof4⟩
      have hs4 := hs3.1.step hgx4 hof4
      have hv4 := Saved.trans hv3 hs4.2
      go_wp2_with fail
      refine hK.out _ _ (HS.out _ hv4) (fun hH => ?_)
      clear hK K
      try simp only [Act.put, sA, sB, sC]
      refine wpAnyH_ready (rs := [17]) (by kernel_rfl) (by simp) ?_
      refine (AllReadyH.cons (o := qvo5) rfl (fun K hK => ?_) AllReadyH.nil)
      rw [if_pos (by rfl)]
      have k1 := hs4.1.rc.1
      have kf := hs4.1.rc.2
      go_simp
      clear k1 kf
      have hs5 := hs4.1.set u
      have hvS := Saved.trans hv4 hs5.2
      refine hK.out _ _ (HS.out _ hvS) (fun hH => ?_)
      clear hK K
      try simp only [Act.put, sA, sB, sC]
      refine wpAnyH_done (by kernel_rfl) ?_ _
      have hEND := hvS
      clear hH
      exact ⟨LoopR.next HLOW.out hs5.1 hvS HRUN.out HFX.out HNX.out.1 HNX.out.2.1 HNX.out.2.2.1 HNX.out.2.2.2, hvS⟩
  | false =>
   clear hor hoa hob c0 c1
   gi_wp2_with fail
   exact ⟨LoopR.next HLOW.out HST2.out (fun _ h => ⟨rfl, h⟩) HRUN.out (show (inZF r (k, ra, rb, false, ib)).run g = (g, r) from rfl) HGD.out.1 HOR.out HGD.out.2 (by have := HBD.out; omega), fun _ h => ⟨rfl, h⟩⟩
 case done =>
  intro D V hD hF hsD hdef
  obtain ⟨⟨g, r, hst, hrun, hgd, hor, hpx, hgl⟩, hlow⟩ := hF
  have e9 : (inP a b).run gs = (g, r) := by rw [← inZ_run HGM.out.2.1.1 HGM.out.2.2.1]; exact hrun
  rw [HE.out] at e9
  injection e9 with e1 e2
  subst e1 e2
  clear hrun HE
  obtain ⟨g, hgg⟩ : ∃ z, z = gF := ⟨_, rfl⟩
  obtain ⟨r, hrr⟩ : ∃ z, z = rF := ⟨_, rfl⟩
  rw [← hgg] at hst hgd hor hpx hgl ⊢
  rw [← hrr] at hst hor ⊢
  have HGG := hid (And.intro hgg hrr)
  clear hgg hrr
  have hml := mg_len HGM.out.2.1.1 HGM.out.2.2.1
  obtain ⟨b6, hb6⟩ : ∃ z, w.heap.size + 3 = z := ⟨_, rfl⟩
  have HWB := hid (show w.heap.size ≤ b6 ∧ b6 < p ∧ p < b8 ∧ b8 < m ∧ b6 < q ∧ q < b8 ∧ m + 3 ≤ D ∧ p ≠ q from by have h1 := HWS.out; have h2 := HS4.out; have h3 := HPQ.out; omega)
  have hsafe : ∀ k, k < U4.heap.size → k ≠ p → k < m → SafeR p m U4 k := fun k h1 h2 h3 => ⟨h1, fun e => h2 (HOC.out k e), by omega⟩
  have h8 := hlow b8 (hsafe b8 (by have := HS4.out; have := HWS.out; omega) (by have := HWB.out; omega) (by have := HWB.out; omega))
  have h6 := hlow b6 (hsafe b6 (by have := HS4.out; have := HWB.out; omega) (by have := HWB.out; omega) (by have := HWB.out; omega))
  have hg54 := gT HG3.out HC4.out.2
  have H8 := hid (show V.cell? ⟨b8, 0, none⟩ = some (.pointer (some ⟨q, 0, none⟩)) from (World.cell?_of_block (a := ⟨b8, 0, none⟩) h8.1).trans (HC4.out.2.cell HC8.out (by simp)))
  have hrc : ∀ b o v, W4.cell? ⟨b, o, none⟩ = some v → W4.frozen? ⟨b, o, none⟩ = false → V.heap[b]? = U4.heap[b]? → Rc V b o v := fun b o v h1 h2 h3 => ⟨(World.cell?_of_block (a := ⟨b, o, none⟩) h3).trans (hg54.cell h1 (by simp)), (World.frozen?_of_block (a := ⟨b, o, none⟩) h3).trans ((grown_frozen hg54 (lies_lt h1) o).trans h2)⟩
  have R6 := hid (hrc b6 0 _ (by rw [← hb6]; exact HB.out.r) (by rw [← hb6]; exact HB.out.rf) h6.1)
  obtain ⟨hi, hgx⟩ := hst.gx
  have HGX2 := hid hgx
  have HST := hid hst
  have HFG := hid (show w.grownBy V.drew none from gT hst.grown ⟨rfl, rfl, rfl, Nat.le_refl _, fun _ _ _ => rfl⟩)
  have HD := hid (show w.heap.size ≤ D ∧ D < V.heap.size ∧ V.heap[D]? = some (.deferred (some [])) from ⟨by have := HWS.out; have := HS4.out; omega, hsD.1, hdef⟩)
  have HBD := hid (show g.length ≤ 1000 from by have h1 := HN.out; have h2 := HL.out; omega)
  clear hst hgd hor hpx hgl hlow hml hsafe h8 h6 hg54 hrc hgx hdef hsD hD
  have e6 : w.heap.size + 1 + 1 + 1 = b6 := hb6
  rw [e6]
  clear e6 hb6
  go_wp2_with fail
  refine wp_onlyN ?_
  have r6 := R6.out
  have hx : GX p (OwnC p V) V.drew g hi := HGX2.out.grown ⟨rfl, rfl, rfl, Nat.le_refl _, fun _ _ _ => rfl⟩
  replace r6 : Rc V.drew b6 0 _ := r6
  have HS := hid (fun (Wh : World) (hWh : FinA w V (fun k => k = b8 ∨ k = q ∨ k = m ∨ k = D) (m + 1) none 0 [] Wh) => (⟨(World.cell?_of_block (a := ⟨b8, 0, none⟩) (hWh.kp b8 (.inl rfl) (lies_lt H8.out))).trans H8.out, (World.cell?_of_block (a := ⟨q, 0, none⟩) (hWh.kp q (.inr (.inl rfl)) (lies_lt HST.out.q0))).trans HST.out.q0, (World.cell?_of_block (a := ⟨m, 0, none⟩) (hWh.kp m (.inr (.inr (.inl rfl))) (lies_lt HST.out.rc.1))).trans HST.out.rc.1⟩ : (fun Wh : World => Wh.cell? ⟨b8, 0, none⟩ = some (.pointer (some ⟨q, 0, none⟩)) ∧ Wh.cell? ⟨q, 0, none⟩ = some (.pointer (some ⟨p, 0, none⟩)) ∧ Wh.cell? ⟨m, 0, none⟩ = some (.int .i64 r)) Wh))
  have hdr : FinA w V (fun k => k = b8 ∨ k = q ∨ k = m ∨ k = D) (m + 1) none 0 [] V.drew := ⟨fun _ _ _ => rfl, ⟨Nat.le_refl _, fun W _ => ⟨Nat.le_refl _, .inl rfl⟩⟩, HFG.out⟩
  refine wp_region_held_drew (S := (fun Wh : World => Wh.cell? ⟨b8, 0, none⟩ = some (.pointer (some ⟨q, 0, none⟩)) ∧ Wh.cell? ⟨q, 0, none⟩ = some (.pointer (some ⟨p, 0, none⟩)) ∧ Wh.cell? ⟨m, 0, none⟩ = some (.int .i64 r))) (by kernel_rfl) (HS.out _ hdr) (fun hH => ?_)
  refine tq 0 ({ dst := some 38, op := Op.load 77 (Operand.tmp 8), type := 77, pos := "matrix.go:188", after := #[], guard := none }) ?_ ?_ hH ?_
  rotate_left 1
  · (intro W h; (try dsimp only at h); go_simp <;> with_reducible rfl)
  try simp only [Act.put, sA, sB, sC]
  refine tq 1 ({ dst := some 39, op := Op.nilCheck (Operand.tmp 38), type := 0, pos := "matrix.go:188", after := #[{ on := 0, ground := Ground.data }], guard := none }) ?_ ?_ hH ?_
  rotate_left 1
  · (intro W h; (try dsimp only at h); go_simp <;> with_reducible rfl)
  try simp only [Act.put, sA, sB, sC]
  refine tq 2 ({ dst := some 40, op := Op.fieldAddr 88 (Operand.tmp 39) 0, type := 0, pos := "matrix.go:188", after := #[{ on := 1, ground := Ground.data }], guard := none }) ?_ ?_ hH ?_
  rotate_left 1
  · (intro W h; (try dsimp only at h); go_simp <;> with_reducible rfl)
  try simp only [Act.put, sA, sB, sC]
  refine tq 3 ({ dst := some 41, op := Op.load 86 (Operand.tmp 40), type := 86, pos := "matrix.go:188", after := #[{ on := 2, ground := Ground.data }], guard := none }) ?_ ?_ hH ?_
  rotate_left 1
  · (intro W h; (try dsimp only at h); go_simp <;> with_reducible rfl)
  try simp only [Act.put, sA, sB, sC]
  refine tq 5 ({ dst := some 43, op := Op.load 3 (Operand.tmp 9), type := 3, pos := "matrix.go:188", after := #[{ on := 6, ground := Ground.gcOnly Departure.lateStores }], guard := none }) ?_ ?_ hH ?_
  rotate_left 1
  · (intro W h; (try dsimp only at h); go_simp <;> with_reducible rfl)
  try simp only [Act.put, sA, sB, sC]
  refine wpAnyH_ready (rs := [4]) (by kernel_rfl) (by simp) ?_
  refine (AllReadyH.cons (o := { dst := some 42, op := Op.call { callee := Callee.value (Operand.func 76), args := #[Operand.tmp 41], argTypes := #[86] }, type := 30, pos := "matrix.go:188", after := #[{ on := 3, ground := Ground.data }], guard := none }) rfl (fun K hK => ?_) AllReadyH.nil)
  rw [if_pos (by rfl)]
  go_simp
  go_at_call 76
  refine (gcircuit_off g p (OwnC p V) _ hi hx (by have := HBD.out; omega)).mono ?_
  rintro e wM ⟨ca1, cc1, rfl, hsp, hof⟩
  have hf := hdr.step hof (fun k e => by have e' : k = p := e; have := HWB.out; refine ⟨by omega, ?_, by omega⟩; rintro (h | h | h | h) <;> omega)
  replace r6 := r6.step hof (fun e => by have e' : b6 = p := e; have := HWB.out; omega)
  clear hof hx
  go_wp2_with fail
  refine hK.out _ _ (HS.out _ hf) (fun hH => ?_)
  clear hK K
  try simp only [Act.put, sA, sB, sC]
  refine wpAnyH_ready (rs := [6]) (by kernel_rfl) (by simp) ?_
  refine (AllReadyH.cons (o := { dst := none, op := Op.store 30 (Operand.tmp 6) (Operand.tmp 42), type := 0, pos := "matrix.go:188", after := #[{ on := 4, ground := Ground.data }, { on := 4, ground := Ground.chain }, { on := 0, ground := Ground.phase }, { on := 1, ground := Ground.phase }, { on := 2, ground := Ground.phase }, { on := 3, ground := Ground.phase }, { on := 4, ground := Ground.phase }, { on := 5, ground := Ground.textOnly Departure.lateStores }], guard := none }) rfl (fun K hK => ?_) AllReadyH.nil)
  rw [if_pos (by rfl)]
  have k1 := r6.1
  have kf := r6.2
  go_simp
  clear k1 kf
  have hof := off_set wM b6 0 (.slice ca1 g.length cc1)
  have hf6 := hf.step hof (fun k e => by have e' : k = b6 := e; have := HWB.out; refine ⟨by omega, ?_, by omega⟩; rintro (h | h | h | h) <;> omega)
  replace r6 := r6.set (.slice ca1 g.length cc1)
  replace hsp := hsp.away hof (fun k e => by have e' : k = b6 := e; have := HWB.out; omega)
  clear hof
  refine hK.out _ _ (HS.out _ hf6) (fun hH => ?_)
  clear hK K
  try simp only [Act.put, sA, sB, sC]
  refine tq 7 ({ dst := some 7, op := Op.assign (Operand.tmp 43), type := 3, pos := "matrix.go:188", after := #[{ on := 5, ground := Ground.data }, { on := 6, ground := Ground.chain }, { on := 0, ground := Ground.phase }, { on := 1, ground := Ground.phase }, { on := 2, ground := Ground.phase }, { on := 3, ground := Ground.phase }, { on := 4, ground := Ground.phase }, { on := 5, ground := Ground.phase }, { on := 6, ground := Ground.phase }], guard := none }) ?_ ?_ hH ?_
  rotate_left 1
  · (intro W h; (try dsimp only at h); go_simp <;> with_reducible rfl)
  try simp only [Act.put, sA, sB, sC]
  refine wpAnyH_done (by kernel_rfl) ?_ _
  have hEND := hf6
  clear hH
  simp only [onlyN]
  go_wp2_with fail
  have hdD := (hEND.kp D (.inr (.inr (.inr rfl))) HD.out.2.1).trans HD.out.2.2
  have hqf := Quiet.put (B := 0) (.deferred none) (Nat.zero_le _) hdD rfl
  exact ⟨by simp, .inl ⟨D, _, rfl, run_takeDeferred hdD, _, resM28 _ _ b6 _ _ _ _ rfl rfl (hqf.cell r6.1), (show Ans w gF rF _ _ from by rw [← HGG.out.1, ← HGG.out.2]; exact ⟨ca1, cc1, rfl, hsp.here.quiet hqf, grown_own hEND.gw (grownBy_putObj' _ D (.deferred none)) (fun x e => by cases e; have := HD.out.1; have := HWB.out; omega)⟩)⟩⟩
end Go.Proofs.Ythdhmflodiincaa
