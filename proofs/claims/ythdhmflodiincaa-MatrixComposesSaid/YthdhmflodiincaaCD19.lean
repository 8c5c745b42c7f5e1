/- Texts of the proof: QS20 RU RV RW. -/
import Derived.Test.YthdhmflodiincaaCD00
import Derived.Test.YthdhmflodiincaaCD12
import Derived.Deep.DeepCutAuto
import Derived.Test.YthdhmflodiincaaCD16
import Derived.Test.YthdhmflodiincaaCD17
import Derived.Test.YthdhmflodiincaaCD18
import Derived.Test.YthdhmflodiincaaCD13
import Derived.Test.YthdhmflodiincaaCD15
import Derived.Test.YthdhmflodiincaaCD14
set_option maxRecDepth 100000
set_option maxHeartbeats 8000000
namespace Go.Proofs.Ythdhmflodiincaa
open Lib (hid)
open Go.RowKit Go.Shelf Go.Maps

abbrev qs20o0 : Oper := { dst := some 29, op := Op.load 24 (Operand.tmp 28), type := 24, pos := "matrix.go:67", after := #[{ on := 0, ground := Ground.data }], guard := none }
abbrev qs20o1 : Oper := { dst := some 39, op := Op.call { callee := Callee.value (Operand.func 81), args := #[Operand.tmp 34, Operand.tmp 36, Operand.tmp 38], argTypes := #[86, 3, 3] }, type := 3, pos := "matrix.go:67", after := #[{ on := 6, ground := Ground.data }, { on := 8, ground := Ground.data }, { on := 10, ground := Ground.data }], guard := none }
abbrev qs20o2 : Oper := { dst := some 40, op := Op.call { callee := Callee.value (Operand.func 74), args := #[Operand.tmp 29, Operand.tmp 30, Operand.tmp 39], argTypes := #[24, 3, 3] }, type := 24, pos := "matrix.go:67", after := #[{ on := 1, ground := Ground.data }, { on := 2, ground := Ground.data }, { on := 11, ground := Ground.data }, { on := 11, ground := Ground.chain }], guard := none }
abbrev qs20o3 : Oper := { dst := some 41, op := Op.fieldAddr 26 (Operand.tmp 9) 1, type := 0, pos := "matrix.go:67", after := #[{ on := 0, ground := Ground.phase }, { on := 1, ground := Ground.phase }, { on := 2, ground := Ground.phase }, { on := 3, ground := Ground.phase }, { on := 4, ground := Ground.phase }, { on := 5, ground := Ground.phase }, { on := 6, ground := Ground.phase }, { on := 7, ground := Ground.phase }, { on := 8, ground := Ground.phase }, { on := 9, ground := Ground.phase }, { on := 10, ground := Ground.phase }, { on := 11, ground := Ground.phase }, { on := 12, ground := Ground.phase }], guard := none }
abbrev qs20o4 : Oper := { dst := none, op := Op.store 24 (Operand.tmp 41) (Operand.tmp 40), type := 0, pos := "matrix.go:67", after := #[{ on := 13, ground := Ground.data }, { on := 12, ground := Ground.data }, { on := 12, ground := Ground.chain }, { on := 0, ground := Ground.phase }, { on := 1, ground := Ground.phase }, { on := 2, ground := Ground.phase }, { on := 3, ground := Ground.phase }, { on := 4, ground := Ground.phase }, { on := 5, ground := Ground.phase }, { on := 6, ground := Ground.phase }, { on := 7, ground := Ground.phase }, { on := 8, ground := Ground.phase }, { on := 9, ground := Ground.phase }, { on := 10, ground := Ground.phase }, { on := 11, ground := Ground.phase }, { on := 12, ground := Ground.phase }], guard := none }
attribute [local go_sem] Oper.semAt_some
theorem resM20 (tmps : Array Value) (w : World) (b c : Nat) (a : Option Addr) (n d : Nat) (x y : Value) (ht : tmps.getD 6 undef = .pointer (some ⟨b, 0, none⟩)) (hu : tmps.getD 7 undef = .pointer (some ⟨c, 0, none⟩)) (h0 : w.cell? ⟨b, 0, none⟩ = some (.slice a n d)) (h1 : w.cell? ⟨c, 0, none⟩ = some x) (h2 : w.cell? ⟨c, 1, none⟩ = some y) :
  (results Try.f20 tmps).run Try.prog w = .ok (.tuple #[.agg #[.slice a n d], .agg #[x, y]]) w := by
 have ht' : tmps[6]?.getD undef = .pointer (some ⟨b, 0, none⟩) := by simpa using ht
 have hu' : tmps[7]?.getD undef = .pointer (some ⟨c, 0, none⟩) := by simpa using hu
 simp [results, ht', hu', go_sem, h0, h1, h2, Result.andThen]
def interZ (z : Mg) : Pr Int := if z.2.2.2.1 = true ∧ z.2.2.2.2 = true then andP z.2.1 z.2.2.1 else .ret 1
def interZF (m : List Cl) (z : Mg) : Pr (List Cl) := (interZ z).bind fun r => .ret (keptM m z.1 r)
theorem minter_calls (gs : List Gt) (a b : List Cl) (ar br : Int) (gF : List Gt) (mF : List Cl) (xa : Option Addr) (xc : Nat) (aa : Option Addr) (na ca : Nat) (ba : Option Addr) (nb cb : Nat) (w : World)
  (eF : (minterP a b).run gs = (gF, mF)) (h : GatesW w xa xc gs) (hma : CellsW w aa ca a) (hna : a.length = na) (hmb : CellsW w ba cb b) (hnb : b.length = nb) (hG : Good gs) (hMa : Mat gs a) (hMb : Mat gs b) (hl : gs.length + 2 * (na + nb) ≤ 880) (hla : na ≤ 200) (hlb : nb ≤ 200) :
  Calls Try.prog 20 #[.agg #[.slice xa gs.length xc], .agg #[.int .i64 ar, .slice aa na ca], .agg #[.int .i64 br, .slice ba nb cb]] w (AnsM w gF ar mF) := by
 obtain ⟨ng, hng⟩ : ∃ n, gs.length = n := ⟨_, rfl⟩
 have hb5 := b5 w (.slice xa ng xc) (.int .i64 ar) (.slice aa na ca) (.int .i64 br) (.slice ba nb cb)
 obtain ⟨W5, hW5⟩ : ∃ z, w5 w (.slice xa ng xc) (.int .i64 ar) (.slice aa na ca) (.int .i64 br) (.slice ba nb cb) = z := ⟨_, rfl⟩
 rw [hW5] at hb5
 unfold w5 at hW5
 rw [hng] at hl ⊢
 have HB := hid hb5
 have HN := hid (And.intro hng (And.intro hna hnb))
 have HL := hid (And.intro hl (And.intro hla hlb))
 have HE := hid eF
 have HGM := hid (And.intro hG (And.intro hMa hMb))
 have HC := hid (And.intro h (And.intro hma hmb))
 have HNB := hid (fun (U : World) (hU : W5.grownBy U none) => newb_calls gs xa xc U (h.grown (gT hb5.g hU)))
 rw [hng] at HNB
 have z0 := HB.out.c
 have z1 := HB.out.a0
 have z2 := HB.out.a1
 have z3 := HB.out.b0
 have z4 := HB.out.b1
 clear hb5 hng eF h hma hna hmb hnb hG hMa hMb hl hla hlb
 refine (callsIn_wide (n := 3)).1 ?_
 refine callsIn_of_wp_marks Try.func20 rfl trivial ?_ rfl
 simp only [Try.ntmps20, List.size_toArray, List.length_cons, List.length_nil, Nat.reduceAdd, Nat.reduceSub, Array.replicate_succ, Array.replicate_zero, List.push_toArray, List.append_toArray, List.nil_append, List.cons_append]
 refine wpIn_wide.2 ?_
 go_wp2_with fail
 clear hW5 z0 z1 z2 z3 z4
 refine (HNB.out W5 (grown_refl _ _)).mono ?_
 rintro e V1 ⟨q, p, rfl, hp, hq, hpq, hq0, hgx, hg1⟩
 have hgA := gAl V1 (.cells #[.pointer (some ⟨q, 0, none⟩)] 77) none
 have hc8 := (one_cell V1 (.pointer (some ⟨q, 0, none⟩)) 77).2.1
 obtain ⟨V2, hV2⟩ : ∃ z, V1.alloc (.cells #[.pointer (some ⟨q, 0, none⟩)] 77) = z := ⟨_, rfl⟩
 have hs2 : V2.heap.size = V1.heap.size + 1 := by rw [← hV2]; simp
 rw [hV2] at hgA hc8
 have hmb := MB.made V2 ar
 have hgB := gAl V2 (.cells #[.int .i64 ar, .slice none 0 0] 26) none
 obtain ⟨V3, hV3⟩ : ∃ z, V2.alloc (.cells #[.int .i64 ar, .slice none 0 0] 26) = z := ⟨_, rfl⟩
 have hs3 : V3.heap.size = V2.heap.size + 1 := by rw [← hV3]; simp
 rw [hV3] at hmb hgB
 obtain ⟨b8, hb8⟩ : ∃ z, V1.heap.size = z := ⟨_, rfl⟩
 obtain ⟨m, hm⟩ : ∃ z, V2.heap.size = z := ⟨_, rfl⟩
 have HST := hid (show MSt w p q m ar gs [] V3 from ⟨⟨0, ((hgx.grown hgA).grown hgB).own⟩, hgB.cell (hgA.cell hq0 (by simp)) (by simp), by rw [← hm]; exact hmb, gT HB.out.g (gT hg1 (gT hgA hgB)), ⟨by have := HB.out.sz; omega, by rw [← hm, hs2]; have := hgx.p_lt; omega, by have := HB.out.sz; omega⟩, fun k hk hb => by
   have h1 := ((hgx.grown hgA).grown hgB).own_in hk
   have h2 := hmb.own_lt (by rw [hm]; exact hb)
   have h3 := hgx.p_lt
   have h1' : k = p := h1
   omega, fun e => hpq (((hgx.grown hgA).grown hgB).own_in e).symm, fun e => by
   have h2 := hmb.own_lt (by rw [hm]; exact e)
   have h3 : q < V1.heap.size := lies_lt hq0
   omega⟩)
 have HSZ := hid (And.intro hs2 (And.intro hs3 (And.intro hb8 (And.intro hm (show W5.heap.size ≤ V1.heap.size from hg1.size)))))
 have HG3 := hid (gT hg1 (gT hgA hgB))
 have HC8 := hid (show V3.cell? ⟨b8, 0, none⟩ = some (.pointer (some ⟨q, 0, none⟩)) from by rw [← hb8]; exact hgB.cell hc8 (by simp))
 have HGX := hid ((hgx.grown hgA).grown hgB)
 have HPQ := hid (And.intro hp (And.intro hq (And.intro hpq (And.intro hgx.p_lt (show q < V1.heap.size from lies_lt hq0)))))
 have HGA := hid (gT hg1 hgA)
 have z1 := HGA.out.cell HB.out.a0 (by simp)
 have y1 := HG3.out.cell HB.out.a0 (by simp)
 have y2 := HG3.out.cell HB.out.a1 (by simp)
 have y3 := HG3.out.cell HB.out.b0 (by simp)
 have y4 := HG3.out.cell HB.out.b1 (by simp)
 have HV3 := hid hV3
 clear hp hq hpq hq0 hgx hg1 hgA hc8 hs2 hmb hgB hs3 hV3
 go_upto_region 3 with fail
 rw [HV3.out]
 clear hV2 hb8 hm z1 HV3
 go_wp2_with fail
 clear y1 y2 y3 y4
 refine (merged_calls _ _ _ _ _ _ _ _ V3).mono ?_
 rintro e V4 ⟨rfl, hV4⟩
 have hc4 := merged_cells ar br aa ba na nb ca cb V3
 have g4 : V3.grownBy V4 none := by rw [hV4]; exact (gAl _ _ none).trans (gAl _ _ none)
 rw [← hV4] at hc4
 have HC4 := hid (And.intro hc4 g4)
 clear hc4 g4 hV4
 go_wp2_with fail
 have HST4 := hid (msafe_keep (B := p) HST.out (Quiet.of_none HC4.out.2) (Nat.le_refl _)).1
 have HOC := hid (show ∀ k, OwnC p V4 k → k = p from fun k hk => by
  obtain ⟨hi0, h0⟩ := HST.out.gx
  have h1 := h0.own_kept (fun o v hv => HC4.out.2.cell hv (by simp)) hk
  exact HGX.out.own_in h1)
 have HOB := hid (show ∀ k, OwnB m V4 k → m ≤ k from fun k hk => (HST4.out.mb.own_lt hk).1)
 have HLI := hid (show LoopI w V4 p q m ar interZF gs [] V4 from ⟨⟨gs, [], HST4.out, rfl, HGM.out.1, List.prefix_refl _, Nat.le_refl _, Nat.le_refl _⟩, fun b hb => ⟨rfl, hb⟩⟩)
 have HS4 := hid (show V4.heap.size = m + 3 from by have h1 := HC4.out.1.2.2; have h2 := HSZ.out; omega)
 have HWS := hid (show w.heap.size + 5 ≤ p ∧ p < b8 ∧ b8 + 1 = m ∧ w.heap.size + 5 ≤ q ∧ q < b8 from by have h1 := HB.out.sz; have h2 := HSZ.out; have h3 := HPQ.out; omega)
 have HGW := hid (gT HB.out.g (gT HG3.out HC4.out.2))
 refine wpIn_wide.1 (rangeYesA (n := 3) (vals := mgV) (gf := 114) (lb := #[.pointer (some ⟨V3.heap.size, 0, none⟩), .pointer (some ⟨V3.heap.size + 1, 0, none⟩)]) rfl rfl rfl trivial (enters_of Try.func114 (by kernel_rfl) rfl) (fun _ => rfl)
  (caps := fun b => b < w.heap.size) (xs := mg a b) (fun U g => merged_gives a b aa ba ca cb V3.heap.size (V3.heap.size + 1) w.heap.size U (gT HGW.out g).size (HC.out.2.1.span.grown (gT HGW.out g)) (HC.out.2.2.span.grown (gT HGW.out g))
   (by rw [HN.out.2.1]; exact g.cell HC4.out.1.1 (by simp)) (by rw [HN.out.2.2]; exact g.cell HC4.out.1.2.1 (by simp)) (by rw [HN.out.2.1]; have := HL.out; omega) (by rw [HN.out.2.2]; have := HL.out; omega))
  (LoopI w V4 p q m ar interZF gs) (SafeM p m) (fun _ _ h => h.1) (loopI_abide (by have := HS4.out; have := HWS.out; omega) (Nat.le_refl _)) (fun b hb => ⟨by have := HS4.out; have := HWS.out; omega, fun e => by have := HOC.out b e; have := HWS.out; omega, fun e => by have := HOB.out b e; have := HWS.out; omega⟩) HLI.out ?round ?done)
 case round =>
  intro l' pre x V hF hpre
  obtain ⟨k, ra, rb, ia, ib⟩ := x
  simp only [mgV]
  have HF := hid hF
  have HPRE := hid hpre
  clear hF hpre
  gi_wp2_with fail
  refine ⟨gAl V _ none, fun W2 hq => ?_⟩
  obtain ⟨hI2, hbp, c0, c1, c2, c3⟩ := HF.out.begin hq (by have := HS4.out; have := HWS.out; omega) (Nat.le_refl _)
  obtain ⟨bp, hbpe⟩ : ∃ z, V.heap.size = z := ⟨_, rfl⟩
  rw [hbpe] at hbp c0 c1 c2 c3 ⊢
  obtain ⟨⟨g, l, hst, hrun, hgd, hpx, hgl, hll⟩, hlow⟩ := hI2
  have hs8 := hlow b8 ⟨by have := HS4.out; have := HWS.out; omega, fun e => by have := HOC.out b8 e; have := HWS.out; omega, fun e => by have := HOB.out b8 e; have := HWS.out; omega⟩
  have HK8 := hid (show W2.cell? ⟨b8, 0, none⟩ = some (.pointer (some ⟨q, 0, none⟩)) from (World.cell?_of_block (a := ⟨b8, 0, none⟩) hs8.1).trans (HC4.out.2.cell HC8.out (by simp)))
  have HSF := hid (show SafeM p m W2 b8 ∧ SafeM p m W2 q ∧ SafeM p m W2 bp from ⟨hs8.2, ⟨lies_lt hst.q0, hst.nq.1, hst.nq.2⟩, hbp⟩)
  have HK := hid (And.intro c0 c1)
  obtain ⟨nl, hnl⟩ : ∃ z, l.length = z := ⟨_, rfl⟩
  obtain ⟨ma, mc, hm1, hmo⟩ := hst.mb.row
  rw [hnl] at hm1 hmo
  have HM1 := hid hm1
  have HMO := hid hmo
  have HNL := hid hnl
  have HRUN := hid hrun
  have HLOW := hid hlow
  have HGD := hid (And.intro hgd hpx)
  have hml := mg_len HGM.out.2.1.1 HGM.out.2.2.1
  have hpl := HPRE.out.length_le
  rw [List.length_append, List.length_singleton] at hpl
  have HBD := hid (show nl ≤ pre.length ∧ pre.length + 1 ≤ na + nb ∧ g.length ≤ gs.length + 2 * pre.length ∧ gs.length + 2 * (na + nb) ≤ 880 ∧ na + nb ≤ 400 from by have h1 := HN.out; have h2 := HL.out; rw [← h1.1] at h2; omega)
  have hok := mg_ok HGM.out.1 HGM.out.2.1 HGM.out.2.2 (HPRE.out.subset (List.mem_append_right _ (List.mem_singleton.2 rfl)))
  have hoa : Ok g ra := by have h1 := hok.1; have h2 := hpx.length_le; unfold Ok at h1 ⊢; simp only at h1; omega
  have hob : Ok g rb := by have h1 := hok.2; have h2 := hpx.length_le; unfold Ok at h1 ⊢; simp only at h1; omega
  have HRA := hid (show ra ≤ 9223372036854775807 from by unfold Ok at hoa; have := HBD.out; omega)
  have HRB := hid (show rb ≤ 9223372036854775807 from by unfold Ok at hob; have := HBD.out; omega)
  have HST2 := hid hst
  have HSTD := hid hst.drew
  clear hq hbpe hbp hst hrun hgd hpx hgl hll hlow hs8 hnl hmo hml hpl hok
  cases ia with
  | true =>
   cases ib with
   | true =>
    obtain ⟨qq, hqq⟩ : ∃ z, andC g ra rb = z := ⟨_, rfl⟩
    obtain ⟨g1, r⟩ := qq
    have h1 := step_and HGD.out.1 ra rb
    have h3 := @and_len g ra rb
    rw [hqq] at h1 h3
    have h3' : g1.length ≤ g.length + 1 := h3
    have HFX := hid (show (interZF l (k, ra, rb, true, true)).run g = (g1, keptM l k r) from by show ((andC g ra rb).1, keptM l k (andC g ra rb).2) = _; rw [hqq])
    have HNX := hid (show Good g1 ∧ gs <+: g1 ∧ g1.length ≤ gs.length + 2 * (pre.length + 1) from ⟨h1.good, HGD.out.2.trans h1.pre, by have := HBD.out; omega⟩)
    have HQQ := hid hqq
    obtain ⟨hi, hgx⟩ := HSTD.out.gx
    have HGX2 := hid hgx
    clear hqq h1 h3 h3' hgx hoa hob c0 c1
    gi_wp2_with fail
    clear c2 c3 hm1
    have HS := hid (fun (Wh : World) (hWh : Saved (SafeM p m) W2 Wh) => (⟨hWh, hWh.cell HSF.out.1 HK8.out, hWh.cell HSF.out.2.1 HST2.out.q0, hWh.cell HSF.out.2.2 HK.out.1, hWh.cell HSF.out.2.2 HK.out.2⟩ : (fun Wh : World => Saved (SafeM p m) W2 Wh ∧ Wh.cell? ⟨b8, 0, none⟩ = some (.pointer (some ⟨q, 0, none⟩)) ∧ Wh.cell? ⟨q, 0, none⟩ = some (.pointer (some ⟨p, 0, none⟩)) ∧ Wh.cell? ⟨bp, 0, none⟩ = some (.int .i64 ra) ∧ Wh.cell? ⟨bp, 1, none⟩ = some (.int .i64 rb)) Wh))
    have hdr : Saved (SafeM p m) W2 W2.drew := Saved.drew p m W2
    refine wpIn_region_held_round (S := (fun Wh : World => Saved (SafeM p m) W2 Wh ∧ Wh.cell? ⟨b8, 0, none⟩ = some (.pointer (some ⟨q, 0, none⟩)) ∧ Wh.cell? ⟨q, 0, none⟩ = some (.pointer (some ⟨p, 0, none⟩)) ∧ Wh.cell? ⟨bp, 0, none⟩ = some (.int .i64 ra) ∧ Wh.cell? ⟨bp, 1, none⟩ = some (.int .i64 rb))) (by kernel_rfl) (by kernel_rfl) (by rintro ⟨_, _, h⟩; exact h) (HS.out _ hdr) (fun hH => ?_)
    refine tq 0 ({ dst := some 28, op := Op.fieldAddr 26 (Operand.tmp 9) 1, type := 0, pos := "matrix.go:67", after := #[], guard := none }) ?_ ?_ hH ?_
    rotate_left 1
    · (intro W h; (try dsimp only at h); go_simp <;> with_reducible rfl)
    try simp only [Act.put, sA, sB, sC]
    refine tq 2 ({ dst := some 30, op := Op.move (Operand.tmp 10), type := 3, pos := "matrix.go:67", after := #[], guard := none }) ?_ ?_ hH ?_
    rotate_left 1
    · (intro W h; (try dsimp only at h); go_simp <;> with_reducible rfl)
    try simp only [Act.put, sA, sB, sC]
    refine tq 3 ({ dst := some 31, op := Op.load 77 (Operand.tmp 8), type := 77, pos := "matrix.go:67", after := #[], guard := none }) ?_ ?_ hH ?_
    rotate_left 1
    · (intro W h; (try dsimp only at h); go_simp <;> with_reducible rfl)
    try simp only [Act.put, sA, sB, sC]
    refine tq 4 ({ dst := some 32, op := Op.nilCheck (Operand.tmp 31), type := 0, pos := "matrix.go:67", after := #[{ on := 3, ground := Ground.data }], guard := none }) ?_ ?_ hH ?_
    rotate_left 1
    · (intro W h; (try dsimp only at h); go_simp <;> with_reducible rfl)
    try simp only [Act.put, sA, sB, sC]
    refine tq 5 ({ dst := some 33, op := Op.fieldAddr 88 (Operand.tmp 32) 0, type := 0, pos := "matrix.go:67", after := #[{ on := 4, ground := Ground.data }], guard := none }) ?_ ?_ hH ?_
    rotate_left 1
    · (intro W h; (try dsimp only at h); go_simp <;> with_reducible rfl)
    try simp only [Act.put, sA, sB, sC]
    refine tq 6 ({ dst := some 34, op := Op.load 86 (Operand.tmp 33), type := 86, pos := "matrix.go:67", after := #[{ on := 5, ground := Ground.data }], guard := none }) ?_ ?_ hH ?_
    rotate_left 1
    · (intro W h; (try dsimp only at h); go_simp <;> with_reducible rfl)
    try simp only [Act.put, sA, sB, sC]
    refine tq 7 ({ dst := some 35, op := Op.fieldAddr 83 (Operand.tmp 11) 0, type := 0, pos := "matrix.go:67", after := #[], guard := none }) ?_ ?_ hH ?_
    rotate_left 1
    · (intro W h; (try dsimp only at h); go_simp <;> with_reducible rfl)
    try simp only [Act.put, sA, sB, sC]
    refine tq 8 ({ dst := some 36, op := Op.load 3 (Operand.tmp 35), type := 3, pos := "matrix.go:67", after := #[{ on := 7, ground := Ground.data }], guard := none }) ?_ ?_ hH ?_
    rotate_left 1
    · (intro W h; (try dsimp only at h); go_simp <;> with_reducible rfl)
    try simp only [Act.put, sA, sB, sC]
    refine tq 9 ({ dst := some 37, op := Op.fieldAddr 83 (Operand.tmp 11) 1, type := 0, pos := "matrix.go:67", after := #[], guard := none }) ?_ ?_ hH ?_
    rotate_left 1
    · (intro W h; (try dsimp only at h); go_simp <;> with_reducible rfl)
    try simp only [Act.put, sA, sB, sC]
    refine tq 10 ({ dst := some 38, op := Op.load 3 (Operand.tmp 37), type := 3, pos := "matrix.go:67", after := #[{ on := 9, ground := Ground.data }], guard := none }) ?_ ?_ hH ?_
    rotate_left 1
    · (intro W h; (try dsimp only at h); go_simp <;> with_reducible rfl)
    try simp only [Act.put, sA, sB, sC]
    refine wpAnyH_ready (rs := [1, 11]) (by kernel_rfl) (by simp) ?_
    refine (AllReadyH.cons (o := qs20o0) rfl (fun K hK => ?_) (AllReadyH.cons (o := qs20o1) rfl (fun K hK => ?_) AllReadyH.nil))
    ·
     rw [if_pos (by rfl)]
     have k1 := (show (World.drew W2).cell? ⟨m, 1, none⟩ = some (.slice ma nl mc) from HM1.out)
     go_simp
     clear k1
     refine hK.out _ _ (HS.out _ hdr) (fun hH => ?_)
     clear hK K
     try simp only [Act.put, sA, sB, sC]
     refine wpAnyH_ready (rs := [11]) (by kernel_rfl) (by simp) ?_
     refine (AllReadyH.cons (o := qs20o1) rfl (fun K hK => ?_) AllReadyH.nil)
     rw [if_pos (by rfl)]
     go_simp
     go_at_call 81
     refine (gand_c g ra rb p g1 r HQQ.out HGD.out.1 (by have := HBD.out; omega) (OwnC p (World.drew W2)) (World.drew W2) hi HGX2.out).mono ?_
     rintro e wM ⟨rfl, hi2, hgx2, hof2⟩
     have hs3 := HSTD.out.step hgx2 hof2
     have hv3 := Saved.trans hdr hs3.2
     have hm3 := hof2.cell (show (World.drew W2).cell? ⟨m, 1, none⟩ = some (.slice ma nl mc) from HM1.out) (fun e => HSTD.out.apart m e (.inl rfl))
     go_wp2_with fail
     refine hK.out _ _ (HS.out _ hv3) (fun hH => ?_)
     clear hK K
     try simp only [Act.put, sA, sB, sC]
     refine wpAnyH_ready (rs := [12]) (by kernel_rfl) (by simp) ?_
     refine (AllReadyH.cons (o := qs20o2) rfl (fun K hK => ?_) AllReadyH.nil)
     rw [if_pos (by rfl)]
     have hm3l : wM.cell? ⟨m, 1, none⟩ = some (.slice ma l.length mc) := by rw [HNL.out]; exact hm3
     go_simp
     go_at_call 74
     refine (kept_calls (m + 1) l ma nl mc k r wM (by have h9 := hs3.1.mb.rowOf hm3l; rw [HNL.out] at h9; exact h9) HNL.out (by have := HBD.out; omega) hs3.1.mb.lt).mono ?_
     rintro e wK ⟨ka, kn, kc, rfl, hko, hkl, hkg, hka⟩
     rw [← HNL.out] at hkg hka
     have hv4 := hs3.1.kept0 hm3l hkg
     have hvk := Saved.trans hv3 hv4.1
     go_wp2_with fail
     refine hK.out _ _ (HS.out _ hvk) (fun hH => ?_)
     clear hK K
     try simp only [Act.put, sA, sB, sC]
     refine tq 13 qs20o3 ?_ ?_ hH ?_
     rotate_left 1
     · (intro W h; (try dsimp only at h); go_simp <;> with_reducible rfl)
     try simp only [Act.put, sA, sB, sC]
     refine wpAnyH_ready (rs := [14]) (by kernel_rfl) (by simp) ?_
     refine (AllReadyH.cons (o := qs20o4) rfl (fun K hK => ?_) AllReadyH.nil)
     rw [if_pos (by rfl)]
     have k1 := hv4.2.1
     have kf := hv4.2.2
     go_simp
     clear k1 kf
     have hs5 := hs3.1.kept hm3l hkl hkg hko hka
     have hvS := Saved.trans hv3 hs5.2
     refine hK.out _ _ (HS.out _ hvS) (fun hH => ?_)
     clear hK K
     try simp only [Act.put, sA, sB, sC]
     refine wpAnyH_done (by kernel_rfl) ?_ _
     have hEND := hvS
     clear hH
     exact ⟨LoopI.next HLOW.out hs5.1 hvS HRUN.out (HFX.out) HNX.out.1 HNX.out.2.1 HNX.out.2.2 (by have h9 := kept_len l k r; have := HNL.out; have := HBD.out; omega), hvS⟩
    ·
     rw [if_pos (by rfl)]
     go_simp
     go_at_call 81
     refine (gand_c g ra rb p g1 r HQQ.out HGD.out.1 (by have := HBD.out; omega) (OwnC p (World.drew W2)) (World.drew W2) hi HGX2.out).mono ?_
     rintro e wM ⟨rfl, hi2, hgx2, hof2⟩
     have hs3 := HSTD.out.step hgx2 hof2
     have hv3 := Saved.trans hdr hs3.2
     have hm3 := hof2.cell (show (World.drew W2).cell? ⟨m, 1, none⟩ = some (.slice ma nl mc) from HM1.out) (fun e => HSTD.out.apart m e (.inl rfl))
     go_wp2_with fail
     refine hK.out _ _ (HS.out _ hv3) (fun hH => ?_)
     clear hK K
     try simp only [Act.put, sA, sB, sC]
     refine wpAnyH_ready (rs := [1]) (by kernel_rfl) (by simp) ?_
     refine (AllReadyH.cons (o := qs20o0) rfl (fun K hK => ?_) AllReadyH.nil)
     rw [if_pos (by rfl)]
     have k1 := hm3
     go_simp
     clear k1
     refine hK.out _ _ (HS.out _ hv3) (fun hH => ?_)
     clear hK K
     try simp only [Act.put, sA, sB, sC]
     refine wpAnyH_ready (rs := [12]) (by kernel_rfl) (by simp) ?_
     refine (AllReadyH.cons (o := qs20o2) rfl (fun K hK => ?_) AllReadyH.nil)
     rw [if_pos (by rfl)]
     have hm3l : wM.cell? ⟨m, 1, none⟩ = some (.slice ma l.length mc) := by rw [HNL.out]; exact hm3
     go_simp
     go_at_call 74
     refine (kept_calls (m + 1) l ma nl mc k r wM (by have h9 := hs3.1.mb.rowOf hm3l; rw [HNL.out] at h9; exact h9) HNL.out (by have := HBD.out; omega) hs3.1.mb.lt).mono ?_
     rintro e wK ⟨ka, kn, kc, rfl, hko, hkl, hkg, hka⟩
     rw [← HNL.out] at hkg hka
     have hv4 := hs3.1.kept0 hm3l hkg
     have hvk := Saved.trans hv3 hv4.1
     go_wp2_with fail
     refine hK.out _ _ (HS.out _ hvk) (fun hH => ?_)
     clear hK K
     try simp only [Act.put, sA, sB, sC]
     refine tq 13 qs20o3 ?_ ?_ hH ?_
     rotate_left 1
     · (intro W h; (try dsimp only at h); go_simp <;> with_reducible rfl)
     try simp only [Act.put, sA, sB, sC]
     refine wpAnyH_ready (rs := [14]) (by kernel_rfl) (by simp) ?_
     refine (AllReadyH.cons (o := qs20o4) rfl (fun K hK => ?_) AllReadyH.nil)
     rw [if_pos (by rfl)]
     have k1 := hv4.2.1
     have kf := hv4.2.2
     go_simp
     clear k1 kf
     have hs5 := hs3.1.kept hm3l hkl hkg hko hka
     have hvS := Saved.trans hv3 hs5.2
     refine hK.out _ _ (HS.out _ hvS) (fun hH => ?_)
     clear hK K
     try simp only [Act.put, sA, sB, sC]
     refine wpAnyH_done (by kernel_rfl) ?_ _
     have hEND := hvS
     clear hH
     exact ⟨LoopI.next HLOW.out hs5.1 hvS HRUN.out (HFX.out) HNX.out.1 HNX.out.2.1 HNX.out.2.2 (by have h9 := kept_len l k r; have := HNL.out; have := HBD.out; omega), hvS⟩
   | false =>
    gi_wp2_with fail
    exact ⟨LoopI.next HLOW.out HST2.out (fun _ h => ⟨rfl, h⟩) HRUN.out (show (interZF l (k, ra, rb, true, false)).run g = (g, l) from rfl) HGD.out.1 HGD.out.2 (by have := HBD.out; omega) (by have := HNL.out; have := HBD.out; omega), fun _ h => ⟨rfl, h⟩⟩
  | false =>
   cases ib with
   | true =>
    gi_wp2_with fail
    exact ⟨LoopI.next HLOW.out HST2.out (fun _ h => ⟨rfl, h⟩) HRUN.out (show (interZF l (k, ra, rb, false, true)).run g = (g, l) from rfl) HGD.out.1 HGD.out.2 (by have := HBD.out; omega) (by have := HNL.out; have := HBD.out; omega), fun _ h => ⟨rfl, h⟩⟩
   | false =>
    gi_wp2_with fail
    exact ⟨LoopI.next HLOW.out HST2.out (fun _ h => ⟨rfl, h⟩) HRUN.out (show (interZF l (k, ra, rb, false, false)).run g = (g, l) from rfl) HGD.out.1 HGD.out.2 (by have := HBD.out; omega) (by have := HNL.out; have := HBD.out; omega), fun _ h => ⟨rfl, h⟩⟩
 case done =>
  intro D V hD hF hsD hdef
  obtain ⟨⟨g, l, hst, hrun, hgd, hpx, hgl, hll⟩, hlow⟩ := hF
  have e0 := (unionZ_run a b interZ (interF a b) HGM.out.2.1.1 HGM.out.2.2.1 (fun _ => rfl) gs).symm.trans hrun
  have e9 : (minterP a b).run gs = (g, l) := e0
  rw [HE.out] at e9
  injection e9 with e1 e2
  subst e1 e2
  clear e0 hrun HE
  obtain ⟨g, hgg⟩ : ∃ z, z = gF := ⟨_, rfl⟩
  obtain ⟨l, hll2⟩ : ∃ z, z = mF := ⟨_, rfl⟩
  rw [← hgg] at hst hgd hpx hgl ⊢
  rw [← hll2] at hst hll ⊢
  have HGG := hid (And.intro hgg hll2)
  clear hgg hll2
  have hml := mg_len HGM.out.2.1.1 HGM.out.2.2.1
  obtain ⟨b6, hb6⟩ : ∃ z, w.heap.size + 3 = z := ⟨_, rfl⟩
  obtain ⟨b7, hb7⟩ : ∃ z, w.heap.size + 4 = z := ⟨_, rfl⟩
  have HWB := hid (show w.heap.size ≤ b6 ∧ b6 < b7 ∧ b7 < p ∧ p < b8 ∧ b8 < m ∧ b7 < q ∧ q < b8 ∧ m + 3 ≤ D ∧ p ≠ q from by have h1 := HWS.out; have h2 := HS4.out; have h3 := HPQ.out; omega)
  have hsafe : ∀ k, w.heap.size + 5 ≤ p → k < V4.heap.size → k ≠ p → k < m → SafeM p m V4 k := fun k _ h1 h2 h3 => ⟨h1, fun e => h2 (HOC.out k e), fun e => by have := HOB.out k e; omega⟩
  have h8 := hlow b8 (hsafe b8 (by have := HWS.out; omega) (by have := HS4.out; have := HWS.out; omega) (by have := HWB.out; omega) (by have := HWB.out; omega))
  have h6 := hlow b6 (hsafe b6 (by have := HWS.out; omega) (by have := HS4.out; have := HWB.out; omega) (by have := HWB.out; omega) (by have := HWB.out; omega))
  have h7 := hlow b7 (hsafe b7 (by have := HWS.out; omega) (by have := HS4.out; have := HWB.out; omega) (by have := HWB.out; omega) (by have := HWB.out; omega))
  have hg54 := gT HG3.out HC4.out.2
  have H8 := hid (show V.cell? ⟨b8, 0, none⟩ = some (.pointer (some ⟨q, 0, none⟩)) from (World.cell?_of_block (a := ⟨b8, 0, none⟩) h8.1).trans (HC4.out.2.cell HC8.out (by simp)))
  have hrc : ∀ b o v, W5.cell? ⟨b, o, none⟩ = some v → W5.frozen? ⟨b, o, none⟩ = false → V.heap[b]? = V4.heap[b]? → Rc V b o v := fun b o v h1 h2 h3 => ⟨(World.cell?_of_block (a := ⟨b, o, none⟩) h3).trans (hg54.cell h1 (by simp)), (World.frozen?_of_block (a := ⟨b, o, none⟩) h3).trans ((grown_frozen hg54 (lies_lt h1) o).trans h2)⟩
  have R6 := hid (hrc b6 0 _ (by rw [← hb6]; exact HB.out.r) (by rw [← hb6]; exact HB.out.rf) h6.1)
  have R70 := hid (hrc b7 0 _ (by rw [← hb7]; exact HB.out.s0) (by rw [← hb7]; exact HB.out.sf0) h7.1)
  have R71 := hid (hrc b7 1 _ (by rw [← hb7]; exact HB.out.s1) (by rw [← hb7]; exact HB.out.sf1) h7.1)
  have HTY := hid (show Ty26 V b7 from (show Ty26 V4 b7 from (show Ty26 W5 b7 from by rw [← hb7]; exact HB.out.ty).grown hg54 (by simp)).of h7.1)
  obtain ⟨hi, hgx⟩ := hst.gx
  have HGX2 := hid hgx
  have HNO := hid (show ¬ OwnC p V b7 from h7.2.2.1)
  have HST := hid hst
  obtain ⟨nl, hnl⟩ : ∃ z, l.length = z := ⟨_, rfl⟩
  obtain ⟨ma, mc, hm1, hmo⟩ := hst.mb.row
  have HROW := hid (show Span (m + 1) V.heap.size V (fun W => CellsW W ma mc l) from by obtain ⟨a9, c9, e9, hs9⟩ := cells_span hmo; cases e9; exact hs9)
  rw [hnl] at hm1
  have HM1 := hid hm1
  have HNL := hid hnl
  have HFG := hid (show w.grownBy V.drew none from gT hst.grown ⟨rfl, rfl, rfl, Nat.le_refl _, fun _ _ _ => rfl⟩)
  have HD := hid (show w.heap.size ≤ D ∧ D < V.heap.size ∧ V.heap[D]? = some (.deferred (some [])) from ⟨by have := HWS.out; have := HS4.out; omega, hsD.1, hdef⟩)
  have HBD := hid (show g.length ≤ 1000 from by have h1 := HN.out; have h2 := HL.out; omega)
  clear hst hgd hpx hgl hll hlow hml hsafe h8 h6 h7 hg54 hrc hgx hm1 hmo hnl hdef hsD hD
  have e7 : w.heap.size + 1 + 1 + 1 + 1 = b7 := hb7
  have e6 : w.heap.size + 1 + 1 + 1 = b6 := hb6
  rw [e7, e6]
  clear e7 e6 hb6 hb7
  go_wp2_with fail
  refine wp_onlyN ?_
  have r6 := R6.out
  have r70 := R70.out
  have r71 := R71.out
  have hx : GX p (OwnC p V) V.drew g hi := HGX2.out.grown ⟨rfl, rfl, rfl, Nat.le_refl _, fun _ _ _ => rfl⟩
  have hty : Ty26 V.drew b7 := HTY.out
  replace r6 : Rc V.drew b6 0 _ := r6
  replace r70 : Rc V.drew b7 0 _ := r70
  replace r71 : Rc V.drew b7 1 _ := r71
  have HS := hid (fun (Wh : World) (hWh : FinA w V (fun k => k = b8 ∨ k = q ∨ k = m ∨ k = D) (m + 1) ma mc l Wh) => (⟨(World.cell?_of_block (a := ⟨b8, 0, none⟩) (hWh.kp b8 (.inl rfl) (lies_lt H8.out))).trans H8.out, (World.cell?_of_block (a := ⟨q, 0, none⟩) (hWh.kp q (.inr (.inl rfl)) (lies_lt HST.out.q0))).trans HST.out.q0, (World.cell?_of_block (a := ⟨m, 0, none⟩) (hWh.kp m (.inr (.inr (.inl rfl))) HST.out.mb.lt)).trans HST.out.mb.c0, (World.cell?_of_block (a := ⟨m, 1, none⟩) (hWh.kp m (.inr (.inr (.inl rfl))) HST.out.mb.lt)).trans HM1.out⟩ : (fun Wh : World => Wh.cell? ⟨b8, 0, none⟩ = some (.pointer (some ⟨q, 0, none⟩)) ∧ Wh.cell? ⟨q, 0, none⟩ = some (.pointer (some ⟨p, 0, none⟩)) ∧ Wh.cell? ⟨m, 0, none⟩ = some (.int .i64 ar) ∧ Wh.cell? ⟨m, 1, none⟩ = some (.slice ma nl mc)) Wh))
  have hdr : FinA w V (fun k => k = b8 ∨ k = q ∨ k = m ∨ k = D) (m + 1) ma mc l V.drew := ⟨fun _ _ _ => rfl, HROW.out, HFG.out⟩
  refine wp_region_held_drew (S := (fun Wh : World => Wh.cell? ⟨b8, 0, none⟩ = some (.pointer (some ⟨q, 0, none⟩)) ∧ Wh.cell? ⟨q, 0, none⟩ = some (.pointer (some ⟨p, 0, none⟩)) ∧ Wh.cell? ⟨m, 0, none⟩ = some (.int .i64 ar) ∧ Wh.cell? ⟨m, 1, none⟩ = some (.slice ma nl mc))) (by kernel_rfl) (HS.out _ hdr) (fun hH => ?_)
  refine tq 0 ({ dst := some 42, op := Op.load 77 (Operand.tmp 8), type := 77, pos := "matrix.go:70", after := #[], guard := none }) ?_ ?_ hH ?_
  rotate_left 1
  · (intro W h; (try dsimp only at h); go_simp <;> with_reducible rfl)
  try simp only [Act.put, sA, sB, sC]
  refine tq 1 ({ dst := some 43, op := Op.nilCheck (Operand.tmp 42), type := 0, pos := "matrix.go:70", after := #[{ on := 0, ground := Ground.data }], guard := none }) ?_ ?_ hH ?_
  rotate_left 1
  · (intro W h; (try dsimp only at h); go_simp <;> with_reducible rfl)
  try simp only [Act.put, sA, sB, sC]
  refine tq 2 ({ dst := some 44, op := Op.fieldAddr 88 (Operand.tmp 43) 0, type := 0, pos := "matrix.go:70", after := #[{ on := 1, ground := Ground.data }], guard := none }) ?_ ?_ hH ?_
  rotate_left 1
  · (intro W h; (try dsimp only at h); go_simp <;> with_reducible rfl)
  try simp only [Act.put, sA, sB, sC]
  refine tq 3 ({ dst := some 45, op := Op.load 86 (Operand.tmp 44), type := 86, pos := "matrix.go:70", after := #[{ on := 2, ground := Ground.data }], guard := none }) ?_ ?_ hH ?_
  rotate_left 1
  · (intro W h; (try dsimp only at h); go_simp <;> with_reducible rfl)
  try simp only [Act.put, sA, sB, sC]
  refine tq 5 ({ dst := some 47, op := Op.load 26 (Operand.tmp 9), type := 26, pos := "matrix.go:70", after := #[{ on := 6, ground := Ground.gcOnly Departure.lateStores }], guard := none }) ?_ ?_ hH ?_
  rotate_left 1
  · (intro W h; (try dsimp only at h); go_simp <;> with_reducible rfl)
  try simp only [Act.put, sA, sB, sC]
  refine wpAnyH_ready (rs := [4]) (by kernel_rfl) (by simp) ?_
  refine (AllReadyH.cons (o := { dst := some 46, op := Op.call { callee := Callee.value (Operand.func 76), args := #[Operand.tmp 45], argTypes := #[86] }, type := 30, pos := "matrix.go:70", after := #[{ on := 3, ground := Ground.data }], guard := none }) rfl (fun K hK => ?_) AllReadyH.nil)
  rw [if_pos (by rfl)]
  go_simp
  go_at_call 76
  refine (gcircuit_off g p (OwnC p V) _ hi hx (by have := HBD.out; omega)).mono ?_
  rintro e wM ⟨ca1, cc1, rfl, hsp, hof⟩
  have hf := hdr.step hof (fun k e => by have e' : k = p := e; have := HWB.out; refine ⟨by omega, ?_, by omega⟩; rintro (h | h | h | h) <;> omega)
  replace r6 := r6.step hof (fun e => by have e' : b6 = p := e; have := HWB.out; omega)
  replace r70 := r70.step hof (fun e => by have e' : b7 = p := e; have := HWB.out; omega)
  replace r71 := r71.step hof (fun e => by have e' : b7 = p := e; have := HWB.out; omega)
  clear hof hx hty
  go_wp2_with fail
  refine hK.out _ _ (HS.out _ hf) (fun hH => ?_)
  clear hK K
  try simp only [Act.put, sA, sB, sC]
  refine wpAnyH_ready (rs := [6]) (by kernel_rfl) (by simp) ?_
  refine (AllReadyH.cons (o := { dst := none, op := Op.store 30 (Operand.tmp 6) (Operand.tmp 46), type := 0, pos := "matrix.go:70", after := #[{ on := 4, ground := Ground.data }, { on := 4, ground := Ground.chain }, { on := 0, ground := Ground.phase }, { on := 1, ground := Ground.phase }, { on := 2, ground := Ground.phase }, { on := 3, ground := Ground.phase }, { on := 4, ground := Ground.phase }, { on := 5, ground := Ground.textOnly Departure.lateStores }], guard := none }) rfl (fun K hK => ?_) AllReadyH.nil)
  rw [if_pos (by rfl)]
  have k1 := r6.1
  have kf := r6.2
  go_simp
  clear k1 kf
  have hof := off_set wM b6 0 (.slice ca1 g.length cc1)
  have hf6 := hf.step hof (fun k e => by have e' : k = b6 := e; have := HWB.out; refine ⟨by omega, ?_, by omega⟩; rintro (h | h | h | h) <;> omega)
  replace r6 := r6.set (.slice ca1 g.length cc1)
  replace r70 := r70.step hof (fun e => by have e' : b7 = b6 := e; have := HWB.out; omega)
  replace r71 := r71.step hof (fun e => by have e' : b7 = b6 := e; have := HWB.out; omega)
  replace hsp := hsp.away hof (fun k e => by have e' : k = b6 := e; have := HWB.out; omega)
  clear hof
  refine hK.out _ _ (HS.out _ hf6) (fun hH => ?_)
  clear hK K
  try simp only [Act.put, sA, sB, sC]
  refine wpAnyH_ready (rs := [7]) (by kernel_rfl) (by simp) ?_
  refine (AllReadyH.cons (o := { dst := none, op := Op.store 26 (Operand.tmp 7) (Operand.tmp 47), type := 0, pos := "matrix.go:70", after := #[{ on := 5, ground := Ground.data }, { on := 6, ground := Ground.chain }, { on := 0, ground := Ground.phase }, { on := 1, ground := Ground.phase }, { on := 2, ground := Ground.phase }, { on := 3, ground := Ground.phase }, { on := 4, ground := Ground.phase }, { on := 5, ground := Ground.phase }, { on := 6, ground := Ground.phase }], guard := none }) rfl (fun K hK => ?_) AllReadyH.nil)
  rw [if_pos (by rfl)]
  have k1 := r70.1
  have kf := r70.2
  have k2 := r71.1
  have kg := r71.2
  go_simp
  clear k1 kf k2 kg
  have hof := off_set2 (World.setCell wM ⟨b6, 0, none⟩ (.slice ca1 g.length cc1)) b7 (.int .i64 ar) (.slice ma nl mc)
  have hf7 := hf6.step hof (fun k e => by have e' : k = b7 := e; have := HWB.out; refine ⟨by omega, ?_, by omega⟩; rintro (h | h | h | h) <;> omega)
  replace r6 := r6.step hof (fun e => by have e' : b6 = b7 := e; have := HWB.out; omega)
  replace r70 := (r70.set (.int .i64 ar)).other (o' := 1) (by decide) (.slice ma nl mc)
  replace r71 := (r71.other (o' := 0) (by decide) (.int .i64 ar)).set (.slice ma nl mc)
  replace hsp := hsp.away hof (fun k e => by have e' : k = b7 := e; have := HWB.out; omega)
  clear hof
  refine hK.out _ _ (HS.out _ hf7) (fun hH => ?_)
  clear hK K
  try simp only [Act.put, sA, sB, sC]
  refine wpAnyH_done (by kernel_rfl) ?_ _
  have hEND := hf7
  clear hH
  simp only [onlyN]
  go_wp2_with fail
  have hdD := (hEND.kp D (.inr (.inr (.inr rfl))) HD.out.2.1).trans HD.out.2.2
  have hqf := Quiet.put (B := 0) (.deferred none) (Nat.zero_le _) hdD rfl
  exact ⟨by simp, .inl ⟨D, _, rfl, run_takeDeferred hdD, _, resM20 _ _ b6 b7 _ _ _ _ _ rfl rfl (hqf.cell r6.1) (hqf.cell r70.1) (hqf.cell r71.1), (show AnsM w gF ar mF _ _ from by rw [← HGG.out.1, ← HGG.out.2]; exact ⟨ca1, cc1, ma, nl, mc, rfl, HNL.out, hsp.here.quiet hqf, hEND.row.here.quiet hqf, grown_own hEND.gw (grownBy_putObj' _ D (.deferred none)) (fun x e => by cases e; have := HD.out.1; have := HWB.out; omega)⟩)⟩⟩
end Go.Proofs.Ythdhmflodiincaa
namespace Go.Proofs.Ythdhmflodiincaa
open Lib (hid)
open Go.RowKit
set_option maxRecDepth 100000

section
variable {xa aa ba : Option Addr} {xc ca cb : Nat} {w : World}
theorem h_union_at (h : GatesW w xa xc hC) (ha : CellsW w aa ca hA) (hb : CellsW w ba cb hB) : Calls Try.prog 18 #[.agg #[.slice xa hC.length xc], .agg #[.int .i64 1, .slice aa 2 ca], .agg #[.int .i64 1, .slice ba 2 cb]] w (AnsM w hC 1 [(0, 0), (1, 3), (2, 0)]) :=
 munion_calls hC hA hB 1 1 hC _ xa xc aa 2 ca ba 2 cb w h_union h ha rfl hb rfl h_good h_matA h_matB (by decide) (by decide) (by decide)
theorem h_inter_at (h : GatesW w xa xc hC) (ha : CellsW w aa ca hA) (hb : CellsW w ba cb hB) : Calls Try.prog 20 #[.agg #[.slice xa hC.length xc], .agg #[.int .i64 1, .slice aa 2 ca], .agg #[.int .i64 1, .slice ba 2 cb]] w (AnsM w hC 1 [(0, 2)]) :=
 minter_calls hC hA hB 1 1 hC _ xa xc aa 2 ca ba 2 cb w h_inter h ha rfl hb rfl h_good h_matA h_matB (by decide) (by decide) (by decide)
theorem h_loneA_at (h : GatesW w xa xc hC) (ha : CellsW w aa ca hA) : Calls Try.prog 32 #[.agg #[.slice xa hC.length xc], .agg #[.int .i64 1, .slice aa 2 ca]] w (Ans w hC 1) :=
 mlone_calls hC hA 1 hC 1 xa xc aa 2 ca w h_loneA h ha rfl h_good (fun x hx => (h_matA.2 x hx).1) (by decide) (by decide)
theorem h_loneB_at (h : GatesW w xa xc hC) (hb : CellsW w ba cb hB) : Calls Try.prog 32 #[.agg #[.slice xa hC.length xc], .agg #[.int .i64 1, .slice ba 2 cb]] w (Ans w hC 0) :=
 mlone_calls hC hB 1 hC 0 xa xc ba 2 cb w h_loneB h hb rfl h_good (fun x hx => (h_matB.2 x hx).1) (by decide) (by decide)
theorem h_some_at (h : GatesW w xa xc hC) (hb : CellsW w ba cb hB) : Calls Try.prog 30 #[.agg #[.slice xa hC.length xc], .agg #[.int .i64 1, .slice ba 2 cb]] w (Ans w hC 0) :=
 msome_calls hC hB 1 hC 0 xa xc ba 2 cb w h_some h hb rfl h_good (fun x hx => (h_matB.2 x hx).1) (by decide) (by decide)
theorem h_in_at (h : GatesW w xa xc hC) (ha : CellsW w aa ca [(0, 2)]) (hb : CellsW w ba cb hA) : Calls Try.prog 28 #[.agg #[.slice xa hC.length xc], .agg #[.int .i64 1, .slice aa 1 ca], .agg #[.int .i64 1, .slice ba 2 cb]] w (Ans w hC 0) :=
 min_calls hC [(0, 2)] hA 1 1 hC 0 xa xc aa 1 ca ba 2 cb w h_in h ha rfl hb rfl h_good h_matI h_matA (by decide) (by decide) (by decide)
theorem h_join_at (h : GatesW w xa xc hC) (ha : CellsW w aa ca [(1, 0)]) (hb : CellsW w ba cb [(2, 0)]) : Calls Try.prog 40 #[.agg #[.slice xa hC.length xc], .int .i64 2, .agg #[.int .i64 2, .slice aa 1 ca], .agg #[.int .i64 2, .slice ba 1 cb]] w (AnsM w hC 2 [(0, 0)]) :=
 mjoin_calls hC [(1, 0)] [(2, 0)] 2 2 2 2 4 hC [(0, 0)] xa xc aa 1 ca ba 1 cb w h_join h ha rfl hb rfl h_good (h_matJ 1) (h_matJ 2) (by decide) (by decide) (by decide) (by decide) (by decide) (by decide) (by decide) (by decide) (by decide) (by decide)
  (fun c hc => by simp at hc; subst hc; decide) (fun c hc => by simp at hc; subst hc; decide) (by decide +kernel)
theorem h_valid_at (hb : CellsW w ba cb hB) : Calls Try.prog 16 #[.agg #[.slice xa hC.length xc], .agg #[.int .i64 1, .slice ba 2 cb]] w fun e w' => e = .returned (.bool true) ∧ w.grownBy w' none := by
 have h := mvalid_calls hC hB 1 xa xc ba cb w hb (by decide) (by decide)
 rw [show validM hC.length 1 hB = true from h_valid] at h
 exact h
theorem h_valid0_at {g : List Gt} (hg : g = [(0, 0, 0)]) (hb : CellsW w ba cb hB) : Calls Try.prog 16 #[.agg #[.slice xa g.length xc], .agg #[.int .i64 1, .slice ba 2 cb]] w fun e w' => e = .returned (.bool false) ∧ w.grownBy w' none := by
 subst hg
 have h := mvalid_calls [(0, 0, 0)] hB 1 xa xc ba cb w hb (by decide) (by decide)
 rw [show validM ([(0, 0, 0)] : List Gt).length 1 hB = false from h_valid0] at h
 exact h
end

theorem cells_lit1 (w : World) (x : Cl) : CellsW (w.alloc (.cells #[.int .i64 x.1, .int .i64 x.2] 71)) (some ⟨w.heap.size, 0, none⟩) 1 [x] :=
 ⟨by simp, .inr ⟨_, 0, rfl, fun j z hj => by
  match j, hj with
  | 0, hj => simp at hj; subst hj; exact ⟨by go_simp, by go_simp⟩
  | j + 1, hj => simp at hj⟩⟩
theorem cells_lit2 (w : World) (x y : Cl) : CellsW (w.alloc (.cells #[.int .i64 x.1, .int .i64 x.2, .int .i64 y.1, .int .i64 y.2] 71)) (some ⟨w.heap.size, 0, none⟩) 2 [x, y] :=
 ⟨by simp, .inr ⟨_, 0, rfl, fun j z hj => by
  match j, hj with
  | 0, hj => simp at hj; subst hj; exact ⟨by go_simp, by go_simp⟩
  | 1, hj => simp at hj; subst hj; exact ⟨by go_simp, by go_simp⟩
  | j + 2, hj => simp at hj⟩⟩
theorem cells_lit3 (w : World) (x y u : Cl) : CellsW (w.alloc (.cells #[.int .i64 x.1, .int .i64 x.2, .int .i64 y.1, .int .i64 y.2, .int .i64 u.1, .int .i64 u.2] 71)) (some ⟨w.heap.size, 0, none⟩) 3 [x, y, u] :=
 ⟨by simp, .inr ⟨_, 0, rfl, fun j z hj => by
  match j, hj with
  | 0, hj => simp at hj; subst hj; exact ⟨by go_simp, by go_simp⟩
  | 1, hj => simp at hj; subst hj; exact ⟨by go_simp, by go_simp⟩
  | 2, hj => simp at hj; subst hj; exact ⟨by go_simp, by go_simp⟩
  | j + 3, hj => simp at hj⟩⟩
theorem ints_lit1 (w : World) (x : Int) : IntsW (w.alloc (.cells #[.int .i64 x] 3)) (some ⟨w.heap.size, 0, none⟩) 1 [x] :=
 ⟨by simp, .inr ⟨_, 0, rfl, fun j z hj => by
  match j, hj with
  | 0, hj => simp at hj; subst hj; go_simp
  | j + 1, hj => simp at hj⟩⟩
theorem ints_lit2 (w : World) (x y : Int) : IntsW (w.alloc (.cells #[.int .i64 x, .int .i64 y] 3)) (some ⟨w.heap.size, 0, none⟩) 2 [x, y] :=
 ⟨by simp, .inr ⟨_, 0, rfl, fun j z hj => by
  match j, hj with
  | 0, hj => simp at hj; subst hj; go_simp
  | 1, hj => simp at hj; subst hj; go_simp
  | j + 2, hj => simp at hj⟩⟩
theorem ints_lit3 (w : World) (x y u : Int) : IntsW (w.alloc (.cells #[.int .i64 x, .int .i64 y, .int .i64 u] 3)) (some ⟨w.heap.size, 0, none⟩) 3 [x, y, u] :=
 ⟨by simp, .inr ⟨_, 0, rfl, fun j z hj => by
  match j, hj with
  | 0, hj => simp at hj; subst hj; go_simp
  | 1, hj => simp at hj; subst hj; go_simp
  | 2, hj => simp at hj; subst hj; go_simp
  | j + 3, hj => simp at hj⟩⟩
theorem bools_lit1 (w : World) (x : Bool) : BoolsW (w.alloc (.cells #[.bool x] 4)) (some ⟨w.heap.size, 0, none⟩) 1 [x] :=
 ⟨by simp, .inr ⟨_, 0, rfl, fun j z hj => by
  match j, hj with
  | 0, hj => simp at hj; subst hj; go_simp
  | j + 1, hj => simp at hj⟩⟩

def XB (w : World) (b : Nat) (ar : Int) (a : Option Addr) (n c : Nat) (m : List Cl) : Prop := w.cell? ⟨b, 0, none⟩ = some (.int .i64 ar) ∧ w.cell? ⟨b, 1, none⟩ = some (.slice a n c) ∧ m.length = n ∧ CellsW w a c m
theorem XB.grown {w w' : World} {b : Nat} {ar : Int} {a : Option Addr} {n c : Nat} {m : List Cl} (h : XB w b ar a n c m) (hg : w.grownBy w' none) : XB w' b ar a n c m := ⟨hg.cell h.1 (by simp), hg.cell h.2.1 (by simp), h.2.2.1, h.2.2.2.grown hg⟩
theorem XB.new {w : World} {a : Option Addr} {n c : Nat} {m : List Cl} (ar : Int) (h : CellsW w a c m) (e : m.length = n) : XB (w.alloc (.cells #[.int .i64 ar, .slice a n c] 26)) w.heap.size ar a n c m :=
 ⟨by go_simp, by go_simp, e, h.grown (gAl w _ none)⟩
def YB (w : World) (b : Nat) (ar : Int) (a : Option Addr) (n c : Nat) (l : List Int) : Prop := w.cell? ⟨b, 0, none⟩ = some (.int .i64 ar) ∧ w.cell? ⟨b, 1, none⟩ = some (.slice a n c) ∧ l.length = n ∧ IntsW w a c l
theorem YB.grown {w w' : World} {b : Nat} {ar : Int} {a : Option Addr} {n c : Nat} {l : List Int} (h : YB w b ar a n c l) (hg : w.grownBy w' none) : YB w' b ar a n c l := ⟨hg.cell h.1 (by simp), hg.cell h.2.1 (by simp), h.2.2.1, h.2.2.2.grown hg⟩
theorem YB.new {w : World} {a : Option Addr} {n c : Nat} {l : List Int} (ar : Int) (h : IntsW w a c l) (e : l.length = n) : YB (w.alloc (.cells #[.int .i64 ar, .slice a n c] 47)) w.heap.size ar a n c l :=
 ⟨by go_simp, by go_simp, e, h.grown (gAl w _ none)⟩
def XZ (w : World) (b : Nat) : Prop := w.cell? ⟨b, 0, none⟩ = some (.int .i64 0) ∧ w.cell? ⟨b, 1, none⟩ = some (.slice none 0 0) ∧ w.frozen? ⟨b, 0, none⟩ = false ∧ w.frozen? ⟨b, 1, none⟩ = false
theorem XZ.new (w : World) : XZ (w.alloc (.cells #[.int .i64 0, .slice none 0 0] 26)) w.heap.size := ⟨by go_simp, by go_simp, by go_simp, by go_simp⟩
theorem XZ.grown {w w' : World} {b : Nat} (h : XZ w b) (hg : w.grownBy w' none) : XZ w' b := ⟨hg.cell h.1 (by simp), hg.cell h.2.1 (by simp), (grown_frozen hg (lies_lt h.1) 0).trans h.2.2.1, (grown_frozen hg (lies_lt h.1) 1).trans h.2.2.2⟩
abbrev laidX (w : World) (b : Nat) (u v : Value) : World := (w.setCell ⟨b, 0, none⟩ u).setCell ⟨b, 1, none⟩ v
theorem laidX_other {w : World} {b : Nat} {u v : Value} {A : Addr} (h0 : (⟨b, 0, none⟩ : Addr) ≠ A) (h1 : (⟨b, 1, none⟩ : Addr) ≠ A) : (laidX w b u v).cell? A = w.cell? A := by
 unfold laidX
 rw [World.cell?_setCell_other _ _ _ _ h1, World.cell?_setCell_other _ _ _ _ h0]
theorem XZ.pair {w : World} {b : Nat} (h : XZ w b) (u v : Value) {k o : Nat} {x y : Int} (hx : w.cell? ⟨k, o, none⟩ = some (.int .i64 x)) (hy : w.cell? ⟨k, o + 1, none⟩ = some (.int .i64 y)) : (laidX w b u v).cell? ⟨k, o, none⟩ = some (.int .i64 x) ∧ (laidX w b u v).cell? ⟨k, o + 1, none⟩ = some (.int .i64 y) := by
 have n1 : ∀ {A : Addr} {z : Int}, w.cell? A = some (.int .i64 z) → (⟨b, 1, none⟩ : Addr) ≠ A := fun hA e => by rw [← e, h.2.1] at hA; cases hA
 have n0 : (⟨b, 0, none⟩ : Addr) ≠ ⟨k, o, none⟩ := fun e => by
  injection e with e1 e2
  subst e1; subst e2
  exact n1 hy rfl
 have n2 : (⟨b, 0, none⟩ : Addr) ≠ ⟨k, o + 1, none⟩ := fun e => by
  injection e with e1 e2
  omega
 exact ⟨(laidX_other n0 (n1 hx)).trans hx, (laidX_other n2 (n1 hy)).trans hy⟩
theorem CellsW.setX {w : World} {b : Nat} (hz : XZ w b) (u v : Value) {a : Option Addr} {c : Nat} {m : List Cl} (h : CellsW w a c m) : CellsW (laidX w b u v) a c m := by
 obtain ⟨hc, h | ⟨k, o, ha, hh⟩⟩ := h
 · exact ⟨hc, .inl h⟩
 · exact ⟨hc, .inr ⟨k, o, ha, fun j z hj => hz.pair u v (hh j z hj).1 (hh j z hj).2⟩⟩
theorem Ty47.setAt {w : World} {b : Nat} (h : Ty47 w b) (k o : Nat) (v : Value) : Ty47 (w.setCell ⟨k, o, none⟩ v) b := by
 obtain ⟨c, f, h⟩ := h
 by_cases e : b = k
 ·
  subst e
  refine ⟨c.setIfInBounds o v, f, ?_⟩
  unfold World.setCell
  simp [Array.getElem?_modify, h]
 ·
  refine ⟨c, f, ?_⟩
  unfold World.setCell
  simp [Array.getElem?_modify, h, Ne.symm e]
theorem GatesW.setX {w : World} {b : Nat} (hz : XZ w b) (u v : Value) {a : Option Addr} {c : Nat} {g : List Gt} (h : GatesW w a c g) : GatesW (laidX w b u v) a c g := by
 obtain ⟨hc, h | ⟨k, o, ha, ht, hh⟩⟩ := h
 · exact ⟨hc, .inl h⟩
 · exact ⟨hc, .inr ⟨k, o, ha, (ht.setAt b 0 u).setAt b 1 v, fun j z hj => ⟨(hz.pair u v (hh j z hj).1 (hh j z hj).2.1).1, (hz.pair u v (hh j z hj).1 (hh j z hj).2.1).2, (hz.pair u v (hh j z hj).2.1 (hh j z hj).2.2).2⟩⟩⟩
theorem XZ.cb {w : World} {b : Nat} (hz : XZ w b) (u v : Value) {k : Nat} {a : Option Addr} {c : Nat} {g : List Gt} (h : CB w k a c g) : CB (laidX w b u v) k a c g := by
 have n0 : (⟨b, 0, none⟩ : Addr) ≠ ⟨k, 0, none⟩ := fun e => by have h1 := h.1; rw [← e, hz.1] at h1; cases h1
 have n1 : (⟨b, 1, none⟩ : Addr) ≠ ⟨k, 0, none⟩ := fun e => by injection e with e1 e2; omega
 refine ⟨(laidX_other n0 n1).trans h.1, ?_, h.2.2.setX hz u v⟩
 unfold laidX
 rw [World.frozen?_setCell, World.frozen?_setCell]; exact h.2.1
theorem XZ.put {w : World} {b : Nat} (hz : XZ w b) (ar : Int) {a : Option Addr} {n c : Nat} {m : List Cl} (h : CellsW w a c m) (e : m.length = n) : XB (laidX w b (.int .i64 ar) (.slice a n c)) b ar a n c m := by
 refine ⟨?_, ?_, e, h.setX hz _ _⟩
 ·
  unfold laidX
  rw [World.cell?_setCell_other _ _ _ _ (by simp)]
  exact World.cell?_setCell_same _ _ _ hz.1
 ·
  unfold laidX
  exact World.cell?_setCell_same _ _ _ ((World.cell?_setCell_other _ _ _ _ (by simp)).trans hz.2.1)
theorem XZ.grows {w0 w : World} {b : Nat} (h : w0.grownBy w none) (hb : w0.heap.size ≤ b) (u v : Value) : w0.grownBy (laidX w b u v) none :=
 grown_own (grown_own h (grown_set w b 0 u) (fun k e => by cases e; exact hb)) (grown_set _ b 1 v) (fun k e => by cases e; exact hb)
theorem XZ.set {w : World} {b p : Nat} (h : XZ w b) (hp : BoxZ w p) (v : Value) : XZ (w.setCell ⟨p, 0, none⟩ v) b := by
 have n0 : (⟨p, 0, none⟩ : Addr) ≠ ⟨b, 0, none⟩ := fun e => by have h1 := hp.1; rw [e, h.1] at h1; cases h1
 have n1 : (⟨p, 0, none⟩ : Addr) ≠ ⟨b, 1, none⟩ := fun e => by injection e with e1 e2; omega
 exact ⟨(World.cell?_setCell_other _ _ _ _ n0).trans h.1, (World.cell?_setCell_other _ _ _ _ n1).trans h.2.1, by rw [World.frozen?_setCell]; exact h.2.2.1, by rw [World.frozen?_setCell]; exact h.2.2.2⟩
theorem CellsW.setB {w : World} {p : Nat} (hp : BoxZ w p) (v : Value) {a : Option Addr} {c : Nat} {m : List Cl} (h : CellsW w a c m) : CellsW (w.setCell ⟨p, 0, none⟩ v) a c m := by
 have ne : ∀ {A : Addr} {x : Int}, w.cell? A = some (.int .i64 x) → (⟨p, 0, none⟩ : Addr) ≠ A := fun hA e => by rw [← e, hp.1] at hA; cases hA
 obtain ⟨hc, h | ⟨k, o, ha, hh⟩⟩ := h
 · exact ⟨hc, .inl h⟩
 · exact ⟨hc, .inr ⟨k, o, ha, fun j z hj => ⟨(World.cell?_setCell_other _ _ _ _ (ne (hh j z hj).1)).trans (hh j z hj).1, (World.cell?_setCell_other _ _ _ _ (ne (hh j z hj).2)).trans (hh j z hj).2⟩⟩⟩
end Go.Proofs.Ythdhmflodiincaa
