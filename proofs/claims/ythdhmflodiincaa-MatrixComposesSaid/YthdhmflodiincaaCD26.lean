/- Texts of the proof: SB. -/
import Derived.Test.YthdhmflodiincaaCD25
import Derived.Test.YthdhmflodiincaaCD09
import Derived.Deep.DeepCutAuto
import Derived.Test.YthdhmflodiincaaCD23
set_option maxRecDepth 100000
set_option maxHeartbeats 8000000
namespace Go.Proofs.Ythdhmflodiincaa
open Lib (hid)
open Go.RowKit Go.Maps

theorem resS43 (tmps : Array Value) (w : World) (b c : Nat) (a : Option Addr) (n d : Nat) (x y : Value) (ht : tmps.getD 8 undef = .pointer (some ⟨b, 0, none⟩)) (hu : tmps.getD 9 undef = .pointer (some ⟨c, 0, none⟩)) (h0 : w.cell? ⟨b, 0, none⟩ = some (.slice a n d)) (h1 : w.cell? ⟨c, 0, none⟩ = some x) (h2 : w.cell? ⟨c, 1, none⟩ = some y) :
  (results Try.f43 tmps).run Try.prog w = .ok (.tuple #[.agg #[.slice a n d], .agg #[x, y]]) w := by
 have ht' : tmps[8]?.getD undef = .pointer (some ⟨b, 0, none⟩) := by simpa using ht
 have hu' : tmps[9]?.getD undef = .pointer (some ⟨c, 0, none⟩) := by simpa using hu
 simp [results, ht', hu', go_sem, h0, h1, h2, Result.andThen]
structure RB (w : World) (b0 b1 b2 b3 b4 b5 : Nat) (ka kb km : Int) (aa ab : Option Addr) (na ca nb cb : Nat) (g : List Gt) (l : List Cl) (W : World) : Prop where
 gw : w.grownBy W none
 c : ∃ ac cc, CF W b0 ac g.length cc ∧ GatesW W ac cc g
 x : MF W b1 ka aa na ca
 y : MF W b2 kb ab nb cb
 r : CF W b3 none 0 0
 s : MF W b4 0 none 0 0
 m : ∃ am nm cm, MF W b5 km am nm cm ∧ l.length = nm ∧ CellsW W am cm l
section
variable {w W W' : World} {b0 b1 b2 b3 b4 b5 : Nat} {ka kb km : Int} {aa ab : Option Addr} {na ca nb cb : Nat} {g : List Gt} {l : List Cl}
theorem RB.grown (h : RB w b0 b1 b2 b3 b4 b5 ka kb km aa ab na ca nb cb g l W) (hg : W.grownBy W' none) : RB w b0 b1 b2 b3 b4 b5 ka kb km aa ab na ca nb cb g l W' := by
 obtain ⟨ac, cc, h1, h2⟩ := h.c
 obtain ⟨am, nm, cm, h3, h4, h5⟩ := h.m
 exact ⟨gT h.gw hg, ⟨ac, cc, h1.grown hg, h2.grown hg⟩, h.x.grown hg, h.y.grown hg, h.r.grown hg, h.s.grown hg, ⟨am, nm, cm, h3.grown hg, h4, h5.grown hg⟩⟩
theorem RB.setC (h : RB w b0 b1 b2 b3 b4 b5 ka kb km aa ab na ca nb cb g l W) (hb : w.heap.size ≤ b0 ∧ b0 ≠ b3) {g' : List Gt} {a : Option Addr} {c : Nat} (hr : GatesW W a c g') : RB w b0 b1 b2 b3 b4 b5 ka kb km aa ab na ca nb cb g' l (W.setCell ⟨b0, 0, none⟩ (.slice a g'.length c)) := by
 obtain ⟨ac, cc, h1, h2⟩ := h.c
 obtain ⟨am, nm, cm, h3, h4, h5⟩ := h.m
 exact ⟨CF.grows h.gw hb.1 _, ⟨a, c, h1.put _ _ _, h1.gates _ hr⟩, h1.mf _ h.x, h1.mf _ h.y, h1.cf _ h.r hb.2, h1.mf _ h.s, ⟨am, nm, cm, h1.mf _ h3, h4, h1.cells _ h5⟩⟩
theorem RB.setM (h : RB w b0 b1 b2 b3 b4 b5 ka kb km aa ab na ca nb cb g l W) (hb : w.heap.size ≤ b5 ∧ b5 ≠ b1 ∧ b5 ≠ b2 ∧ b5 ≠ b4) {l' : List Cl} {a : Option Addr} {n c : Nat} (hl : l'.length = n) (hr : CellsW W a c l') : RB w b0 b1 b2 b3 b4 b5 ka kb km aa ab na ca nb cb g l' (laidX W b5 (.int .i64 km) (.slice a n c)) := by
 obtain ⟨ac, cc, h1, h2⟩ := h.c
 obtain ⟨am, nm, cm, h3, h4, h5⟩ := h.m
 exact ⟨MF.grows h.gw hb.1 _ _, ⟨ac, cc, h3.cf _ _ h1, h3.gates _ _ h2⟩, h3.mf _ _ h.x hb.2.1, h3.mf _ _ h.y hb.2.2.1, h3.cf _ _ h.r, h3.mf _ _ h.s hb.2.2.2, ⟨a, n, c, h3.put _ _ _ _, hl, h3.cells _ _ hr⟩⟩
end
theorem boxes6 (w : World) (xa : Option Addr) (g : List Gt) (xc : Nat) (ka kb km : Int) (aa ab : Option Addr) (na ca nb cb : Nat) (h : GatesW w xa xc g) :
  ∃ W b0 b1 b2 b3 b4 b5, (((((w.alloc (.cells #[.slice xa g.length xc] 30)).alloc (.cells #[.int .i64 ka, .slice aa na ca] 26)).alloc (.cells #[.int .i64 kb, .slice ab nb cb] 26)).alloc (.cells #[.slice none 0 0] 30)).alloc (.cells #[.int .i64 0, .slice none 0 0] 26)).alloc (.cells #[.int .i64 km, .slice none 0 0] 26) = W ∧
   (w.heap.size = b0 ∧ w.heap.size + 1 = b1 ∧ w.heap.size + 1 + 1 = b2 ∧ w.heap.size + 1 + 1 + 1 = b3 ∧ w.heap.size + 1 + 1 + 1 + 1 = b4 ∧ w.heap.size + 1 + 1 + 1 + 1 + 1 = b5) ∧ RB w b0 b1 b2 b3 b4 b5 ka kb km aa ab na ca nb cb g [] W :=
 ⟨_, _, _, _, _, _, _, rfl, ⟨rfl, rfl, rfl, rfl, rfl, rfl⟩, ⟨((((((gAl w _ none).trans (gAl _ _ none)).trans (gAl _ _ none)).trans (gAl _ _ none)).trans (gAl _ _ none)).trans (gAl _ _ none)),
  ⟨xa, xc, ⟨by go_simp, by go_simp⟩, (((((h.grown (gAl w _ none)).grown (gAl _ _ none)).grown (gAl _ _ none)).grown (gAl _ _ none)).grown (gAl _ _ none)).grown (gAl _ _ none)⟩,
  ⟨by go_simp, by go_simp, by go_simp, by go_simp⟩, ⟨by go_simp, by go_simp, by go_simp, by go_simp⟩, ⟨by go_simp, by go_simp⟩, ⟨by go_simp, by go_simp, by go_simp, by go_simp⟩, ⟨none, 0, 0, ⟨by go_simp, by go_simp, by go_simp, by go_simp⟩, rfl, ⟨Nat.le_refl _, .inl rfl⟩⟩⟩⟩
theorem rproduct_calls (gs : List Gt) (a b : List Cl) (n k j P : Nat) (gF : List Gt) (mF : List Cl) (xa : Option Addr) (xc : Nat) (aa : Option Addr) (na ca : Nat) (ba : Option Addr) (nb cb : Nat) (w : World)
  (eF : (mprodP (P : Int) a b).run gs = (gF, mF)) (h : GatesW w xa xc gs) (hma : CellsW w aa ca a) (hna : a.length = na) (hmb : CellsW w ba cb b) (hnb : b.length = nb) (hG : Good gs) (hMa : Mat gs a) (hMb : Mat gs b) (hl : gs.length + na * nb ≤ 880) (hla : na ≤ 200) (hlb : nb ≤ 200)
  (hn4 : n ≤ 4) (hj3 : j ≤ 3) (hk3 : k ≤ 3) (hP : P = n ^ j) (hra : ∀ c ∈ a, 0 ≤ c.1 ∧ c.1 ≤ 10000) (hrb : ∀ c ∈ b, 0 ≤ c.1 ∧ c.1 < (P : Int)) :
  Calls Try.prog 43 #[.agg #[.slice xa gs.length xc], .int .i64 (n : Int), .agg #[.int .i64 (k : Int), .slice aa na ca], .agg #[.int .i64 (j : Int), .slice ba nb cb]] w (AnsM w gF ((k : Int) + (j : Int)) mF) := by
 obtain ⟨W, b0, b1, b2, b3, b4, b5, hW, hbs, hrb0⟩ := boxes6 w xa gs xc (k : Int) (j : Int) ((k : Int) + (j : Int)) aa ba na ca nb cb h
 have HN := hid (show a.length = na ∧ b.length = nb from ⟨hna, hnb⟩)
 have HL := hid (And.intro hl (And.intro hla hlb))
 have hP64 : P ≤ 64 := by
  rw [hP]
  have h1 : n ^ j ≤ 4 ^ j := Nat.pow_le_pow_left hn4 _
  have h2 : 4 ^ j ≤ 4 ^ 3 := Nat.pow_le_pow_right (by omega) hj3
  omega
 have HE := hid ((prod_run hMa.1 hMb.1 hrb gs).trans eF)
 have HGM := hid (And.intro hG (And.intro hMa hMb))
 have HC := hid (And.intro hma hmb)
 have HRG := hid (And.intro hra hrb)
 have HNK := hid (show n ≤ 4 ∧ j ≤ 3 ∧ k ≤ 3 ∧ P = n ^ j ∧ P ≤ 64 from ⟨hn4, hj3, hk3, hP, hP64⟩)
 have HB := hid (show w.heap.size ≤ b0 ∧ b0 < b1 ∧ b1 < b2 ∧ b2 < b3 ∧ b3 < b4 ∧ b4 < b5 from by omega)
 have HBS := hid hbs
 have HR0 := hid hrb0
 have HPW := hid (fun (U : World) => rpower_calls n j U (by omega) (by omega))
 rw [← hP] at HPW
 obtain ⟨ng, hng⟩ : ∃ z, gs.length = z := ⟨_, rfl⟩
 have HNG := hid hng
 rw [hng] at hl hW ⊢
 have HW := hid hW
 clear hW hng eF h hma hna hmb hnb hG hMa hMb hl hla hlb hra hrb hP hP64 hbs hrb0
 go_enter Try.func43, Try.ntmps43
 go_upto_region 2 with fail
 rw [HW.out]
 obtain ⟨e0, e1, e2, e3, e4, e5⟩ := HBS.out
 rw [e5, e4, e3, e2, e1, e0]
 clear e0 e1 e2 e3 e4 e5
 have q0 := HR0.out.y.1
 go_wp2_with (go_at_call 88; refine (HPW.out _).mono ?_; rintro e w9 ⟨rfl, hw9⟩; rw [hw9]; clear hw9 w9)
 clear q0
 go_loopg [12] na (fun gk s12 wr => ∃ (i : Nat) (g : List Gt) (l : List Cl), s12 = .int .i64 (i : Int) ∧ gk = na - i ∧ i ≤ na ∧ RB w b0 b1 b2 b3 b4 b5 (k : Int) (j : Int) ((k : Int) + (j : Int)) aa ba na ca nb cb g l wr ∧ (foldP (prodF (P : Int)) (allPairs (a.drop i) b) l).run g = (gF, mF) ∧ (Good g ∧ gs <+: g ∧ g.length ≤ gs.length + i * nb ∧ l.length ≤ i * nb))
 case atStart => exact ⟨0, gs, [], rfl, rfl, Nat.zero_le _, HR0.out, HE.out, HGM.out.1, List.prefix_refl _, by omega, by simp⟩
 case round =>
  obtain ⟨i, g, l, rfl, hgi, hi, hrb, hrun, hgd, hpx, hgl, hll⟩ := hrel
  have HI := hid hgi
  have HR := hid hrb
  have HU := hid (And.intro hrun (And.intro hgd (And.intro hpx (And.intro hgl hll))))
  clear hgi hrb hrun hgd hpx hgl hll
  by_cases hin : i < na
  ·
   have f1 : decide (i < na) = true := decide_eq_true hin
   have f2 : decide ((i : Int) < (na : Int)) = true := decide_eq_true (by omega)
   obtain ⟨x, hx⟩ : ∃ r, a[i]? = some r := ⟨_, List.getElem?_eq_getElem (by rw [HN.out.1]; exact hin)⟩
   have hrx := HRG.out.1 x (List.mem_of_getElem? hx)
   obtain ⟨xr, hxr⟩ : ∃ z : Nat, x.1 = (z : Int) := ⟨x.1.toNat, by omega⟩
   have HXR := hid (And.intro hxr (And.intro (show xr ≤ 10000 by omega) hx))
   have HU0 := hid (show (foldP (prodF (P : Int)) ((b.drop 0).map (fun y => (x, y)) ++ allPairs (a.drop (i + 1)) b) l).run g = (gF, mF) from by rw [← pairs_drop hx]; exact HU.out.1)
   have HA := hid ((HC.out.1.grown HR.out.gw).at hx)
   have q0 := HR.out.x.2.1
   have q1 := HR.out.y.2.1
   clear hx hrx hxr
   go_wp2_with fail
   clear f1 f2 q0 q1
   go_loopg [13] nb (fun gk s13 wr => ∃ (jy : Nat) (g : List Gt) (l : List Cl), s13 = .int .i64 (jy : Int) ∧ gk = nb - jy ∧ jy ≤ nb ∧ RB w b0 b1 b2 b3 b4 b5 (k : Int) (j : Int) ((k : Int) + (j : Int)) aa ba na ca nb cb g l wr ∧ (foldP (prodF (P : Int)) ((b.drop jy).map (fun y => (x, y)) ++ allPairs (a.drop (i + 1)) b) l).run g = (gF, mF) ∧ (Good g ∧ gs <+: g ∧ g.length ≤ gs.length + (i * nb + jy) ∧ l.length ≤ i * nb + jy))
   case atStart => exact ⟨0, g, l, rfl, rfl, Nat.zero_le _, HR.out, HU0.out, HU.out.2.1, HU.out.2.2.1, HU.out.2.2.2.1, HU.out.2.2.2.2⟩
   case round =>
    clear HR HU HU0 HA g l
    obtain ⟨jy, g, l, rfl, hgj, hj, hrb, hrun, hgd, hpx, hgl, hll⟩ := hrel
    have HJ := hid hgj
    have HR := hid hrb
    clear hgj hrb
    by_cases hjn : jy < nb
    ·
     have f1 : decide (jy < nb) = true := decide_eq_true hjn
     have f2 : decide ((jy : Int) < (nb : Int)) = true := decide_eq_true (by omega)
     have hi0 : (0 : Int) ≤ (i : Int) := by omega
     have hi1 : (i : Int) < (na : Int) := by omega
     have hj0 : (0 : Int) ≤ (jy : Int) := by omega
     have hj1 : (jy : Int) < (nb : Int) := by omega
     obtain ⟨y, hy⟩ : ∃ r, b[jy]? = some r := ⟨_, List.getElem?_eq_getElem (by rw [HN.out.2]; exact hjn)⟩
     have hry := HRG.out.2 y (List.mem_of_getElem? hy)
     obtain ⟨yr, hyr⟩ : ∃ z : Nat, y.1 = (z : Int) := ⟨y.1.toNat, by omega⟩
     obtain ⟨bar, oa, rfl, x0, x1⟩ := (HC.out.1.grown HR.out.gw).at HXR.out.2.2
     obtain ⟨bb, ob, rfl, y0, y1⟩ := (HC.out.2.grown HR.out.gw).at hy
     rw [HXR.out.1] at x0
     rw [hyr] at y0
     rw [row_drop _ hy, run_foldP_cons, run_prodF] at hrun
     have hox : Ok g x.2 := ((HGM.out.2.1.grow hpx).2 x (List.mem_of_getElem? HXR.out.2.2)).1
     have hoy : Ok g y.2 := ((HGM.out.2.2.grow hpx).2 y (List.mem_of_getElem? hy)).1
     obtain ⟨qq, hqq⟩ : ∃ z, andC g x.2 y.2 = z := ⟨_, rfl⟩
     obtain ⟨g1, t⟩ := qq
     have h1 := step_and hgd x.2 y.2
     have h3 := @and_len g x.2 y.2
     rw [hqq] at h1 h3 hrun
     simp only at hrun
     have h3' : g1.length ≤ g.length + 1 := h3
     have hbd := jp_lt hin hjn
     have HBD := hid (show g.length ≤ 880 ∧ l.length ≤ i * nb + jy ∧ i * nb + jy + 1 ≤ 880 from by have h7 := HNG.out; have h2 := HL.out.1; omega)
     have hxi : x.2 ≤ 9223372036854775807 := by unfold Ok at hox; have := HBD.out; omega
     have hyi : y.2 ≤ 9223372036854775807 := by unfold Ok at hoy; have := HBD.out; omega
     obtain ⟨R, hR⟩ : ∃ z, xr * P = z := ⟨_, rfl⟩
     obtain ⟨K0, hK0⟩ : ∃ z, R + yr = z := ⟨_, rfl⟩
     have hR9 : R ≤ 10000 * 64 := by rw [← hR]; exact Nat.mul_le_mul HXR.out.2.1 HNK.out.2.2.2.2
     have hkey : x.1 * (P : Int) + y.1 = (K0 : Int) := by rw [HXR.out.1, hyr, ← hK0, ← hR]; push_cast; rfl
     rw [hkey] at hrun
     have hll5 := kept_len l (K0 : Int) t
     have HNX := hid (show (foldP (prodF (P : Int)) ((b.drop (jy + 1)).map (fun y => (x, y)) ++ allPairs (a.drop (i + 1)) b) (keptM l (K0 : Int) t)).run g1 = (gF, mF) ∧ Good g1 ∧ gs <+: g1 ∧ g1.length ≤ gs.length + (i * nb + (jy + 1)) ∧ (keptM l (K0 : Int) t).length ≤ i * nb + (jy + 1) from ⟨hrun, h1.good, hpx.trans h1.pre, by omega, by omega⟩)
     have HQQ := hid hqq
     have HGD := hid (And.intro hgd (And.intro hxi hyi))
     have HMU := hid (show (xr : Int) * (P : Int) = (R : Int) from by rw [← hR]; simp)
     have w1 : IntKind.i64.wrap ((xr : Int) * (P : Int)) = (R : Int) := by rw [HMU.out]; exact IntWalk.i64_in _ (by omega)
     have w2 : IntKind.i64.wrap ((R : Int) + (yr : Int)) = (K0 : Int) := by rw [IntWalk.i64_in _ (by have := HNK.out; omega)]; omega
     have w3 : IntKind.i64.wrap ((jy : Int) + 1) = ((jy + 1 : Nat) : Int) := by rw [IntWalk.i64_in _ (by have := HL.out; omega)]; omega
     obtain ⟨ac, cc, hcf, hgr⟩ := HR.out.c
     have HCF := hid (And.intro hcf hgr)
     have HXC := hid (And.intro x0 (And.intro x1 (And.intro y0 y1)))
     have q0 := HR.out.x.2.1
     have q1 := HR.out.y.2.1
     have HYY := hid (And.intro hy hyr)
     clear hy hry hyr hrun hgd hpx hgl hll hox hoy hqq h1 h3 h3' hbd hxi hyi hR hK0 hR9 hkey hll5 hcf hgr x0 x1 y0 y1
     go_upto_region 9 with fail
     clear f1 f2 q0 q1
     go_cut [14, 15] (fun s0 s1 wx => ∃ b a c, s0 = .pointer (some ⟨b, 0, none⟩) ∧ s1 = .int .i64 t ∧ wr.heap.size ≤ b ∧ CB wx b a c g1 ∧ wr.grownBy wx none)
     case first =>
      have HS := hid (fun (Wh : World) (hWh : wr.grownBy Wh none) => (⟨hWh, hWh.cell HCF.out.1.1 (by simp), hWh.cell HR.out.x.2.1 (by simp), hWh.cell HR.out.y.2.1 (by simp), hWh.cell HXC.out.2.1 (by simp), hWh.cell HXC.out.2.2.2 (by simp)⟩ : (fun Wh : World => wr.grownBy Wh none ∧ Wh.cell? ⟨b0, 0, none⟩ = some (.slice ac g.length cc) ∧ Wh.cell? ⟨b1, 1, none⟩ = some (.slice (some ⟨bar, oa, none⟩) na ca) ∧ Wh.cell? ⟨b2, 1, none⟩ = some (.slice (some ⟨bb, ob, none⟩) nb cb) ∧ Wh.cell? ⟨bar, oa + i * 2 + 1, none⟩ = some (.int .i64 x.2) ∧ Wh.cell? ⟨bb, ob + jy * 2 + 1, none⟩ = some (.int .i64 y.2)) Wh))
      have hdr : wr.grownBy wr.drew none := ⟨rfl, rfl, rfl, Nat.le_refl _, fun _ _ _ => rfl⟩
      refine wp_region_held_drew (S := (fun Wh : World => wr.grownBy Wh none ∧ Wh.cell? ⟨b0, 0, none⟩ = some (.slice ac g.length cc) ∧ Wh.cell? ⟨b1, 1, none⟩ = some (.slice (some ⟨bar, oa, none⟩) na ca) ∧ Wh.cell? ⟨b2, 1, none⟩ = some (.slice (some ⟨bb, ob, none⟩) nb cb) ∧ Wh.cell? ⟨bar, oa + i * 2 + 1, none⟩ = some (.int .i64 x.2) ∧ Wh.cell? ⟨bb, ob + jy * 2 + 1, none⟩ = some (.int .i64 y.2))) (by kernel_rfl) (HS.out _ hdr) (fun hH => ?_)
      refine wpAnyH_take (i := 0) (oi := { dst := some 41, op := Op.load 30 (Operand.tmp 4), type := 30, pos := "ref.go:130", after := #[], guard := none }) (v := ?_) rfl (by kernel_rfl) (by kernel_rfl) (by kernel_rfl) (fun _ _ _ h => h) (Or.inl ⟨by rfl, ?_⟩) (by assumption) ?_
      rotate_left 1
      · (intro W h; (try dsimp only at h); go_simp <;> with_reducible rfl)
      try simp only [Act.put, sA, sB, sC]
      refine wpAnyH_take (i := 1) (oi := { dst := some 42, op := Op.fieldAddr 26 (Operand.tmp 6) 1, type := 0, pos := "ref.go:130", after := #[], guard := none }) (v := ?_) rfl (by kernel_rfl) (by kernel_rfl) (by kernel_rfl) (fun _ _ _ h => h) (Or.inl ⟨by rfl, ?_⟩) (by assumption) ?_
      rotate_left 1
      · (intro W h; (try dsimp only at h); go_simp <;> with_reducible rfl)
      try simp only [Act.put, sA, sB, sC]
      refine wpAnyH_take (i := 2) (oi := { dst := some 43, op := Op.load 24 (Operand.tmp 42), type := 24, pos := "ref.go:130", after := #[{ on := 1, ground := Ground.data }], guard := none }) (v := ?_) rfl (by kernel_rfl) (by kernel_rfl) (by kernel_rfl) (fun _ _ _ h => h) (Or.inl ⟨by rfl, ?_⟩) (by assumption) ?_
      rotate_left 1
      · (intro W h; (try dsimp only at h); go_simp <;> with_reducible rfl)
      try simp only [Act.put, sA, sB, sC]
      refine wpAnyH_take (i := 3) (oi := { dst := some 44, op := Op.move (Operand.tmp 12), type := 3, pos := "ref.go:130", after := #[], guard := none }) (v := ?_) rfl (by kernel_rfl) (by kernel_rfl) (by kernel_rfl) (fun _ _ _ h => h) (Or.inl ⟨by rfl, ?_⟩) (by assumption) ?_
      rotate_left 1
      · (intro W h; (try dsimp only at h); go_simp <;> with_reducible rfl)
      try simp only [Act.put, sA, sB, sC]
      refine wpAnyH_take (i := 4) (oi := { dst := some 45, op := Op.indexAddr 24 (Operand.tmp 43) (Operand.tmp 44), type := 0, pos := "ref.go:130", after := #[{ on := 2, ground := Ground.data }, { on := 3, ground := Ground.data }], guard := none }) (v := ?_) rfl (by kernel_rfl) (by kernel_rfl) (by kernel_rfl) (fun _ _ _ h => h) (Or.inl ⟨by rfl, ?_⟩) (by assumption) ?_
      rotate_left 1
      · (intro W h; (try dsimp only at h); go_simp <;> with_reducible rfl)
      try simp only [Act.put, sA, sB, sC]
      refine wpAnyH_take (i := 5) (oi := { dst := some 46, op := Op.fieldAddr 71 (Operand.tmp 45) 1, type := 0, pos := "ref.go:130", after := #[{ on := 4, ground := Ground.data }], guard := none }) (v := ?_) rfl (by kernel_rfl) (by kernel_rfl) (by kernel_rfl) (fun _ _ _ h => h) (Or.inl ⟨by rfl, ?_⟩) (by assumption) ?_
      rotate_left 1
      · (intro W h; (try dsimp only at h); go_simp <;> with_reducible rfl)
      try simp only [Act.put, sA, sB, sC]
      refine wpAnyH_take (i := 6) (oi := { dst := some 47, op := Op.load 3 (Operand.tmp 46), type := 3, pos := "ref.go:130", after := #[{ on := 5, ground := Ground.data }], guard := none }) (v := ?_) rfl (by kernel_rfl) (by kernel_rfl) (by kernel_rfl) (fun _ _ _ h => h) (Or.inl ⟨by rfl, ?_⟩) (by assumption) ?_
      rotate_left 1
      · (intro W h; (try dsimp only at h); go_simp <;> with_reducible rfl)
      try simp only [Act.put, sA, sB, sC]
      refine wpAnyH_take (i := 7) (oi := { dst := some 48, op := Op.fieldAddr 26 (Operand.tmp 7) 1, type := 0, pos := "ref.go:130", after := #[], guard := none }) (v := ?_) rfl (by kernel_rfl) (by kernel_rfl) (by kernel_rfl) (fun _ _ _ h => h) (Or.inl ⟨by rfl, ?_⟩) (by assumption) ?_
      rotate_left 1
      · (intro W h; (try dsimp only at h); go_simp <;> with_reducible rfl)
      try simp only [Act.put, sA, sB, sC]
      refine wpAnyH_take (i := 8) (oi := { dst := some 49, op := Op.load 24 (Operand.tmp 48), type := 24, pos := "ref.go:130", after := #[{ on := 7, ground := Ground.data }], guard := none }) (v := ?_) rfl (by kernel_rfl) (by kernel_rfl) (by kernel_rfl) (fun _ _ _ h => h) (Or.inl ⟨by rfl, ?_⟩) (by assumption) ?_
      rotate_left 1
      · (intro W h; (try dsimp only at h); go_simp <;> with_reducible rfl)
      try simp only [Act.put, sA, sB, sC]
      refine wpAnyH_take (i := 9) (oi := { dst := some 50, op := Op.move (Operand.tmp 13), type := 3, pos := "ref.go:130", after := #[], guard := none }) (v := ?_) rfl (by kernel_rfl) (by kernel_rfl) (by kernel_rfl) (fun _ _ _ h => h) (Or.inl ⟨by rfl, ?_⟩) (by assumption) ?_
      rotate_left 1
      · (intro W h; (try dsimp only at h); go_simp <;> with_reducible rfl)
      try simp only [Act.put, sA, sB, sC]
      refine wpAnyH_take (i := 10) (oi := { dst := some 51, op := Op.indexAddr 24 (Operand.tmp 49) (Operand.tmp 50), type := 0, pos := "ref.go:130", after := #[{ on := 8, ground := Ground.data }, { on := 9, ground := Ground.data }], guard := none }) (v := ?_) rfl (by kernel_rfl) (by kernel_rfl) (by kernel_rfl) (fun _ _ _ h => h) (Or.inl ⟨by rfl, ?_⟩) (by assumption) ?_
      rotate_left 1
      · (intro W h; (try dsimp only at h); go_simp <;> with_reducible rfl)
      try simp only [Act.put, sA, sB, sC]
      refine wpAnyH_take (i := 11) (oi := { dst := some 52, op := Op.fieldAddr 71 (Operand.tmp 51) 1, type := 0, pos := "ref.go:130", after := #[{ on := 10, ground := Ground.data }], guard := none }) (v := ?_) rfl (by kernel_rfl) (by kernel_rfl) (by kernel_rfl) (fun _ _ _ h => h) (Or.inl ⟨by rfl, ?_⟩) (by assumption) ?_
      rotate_left 1
      · (intro W h; (try dsimp only at h); go_simp <;> with_reducible rfl)
      try simp only [Act.put, sA, sB, sC]
      refine wpAnyH_take (i := 12) (oi := { dst := some 53, op := Op.load 3 (Operand.tmp 52), type := 3, pos := "ref.go:130", after := #[{ on := 11, ground := Ground.data }], guard := none }) (v := ?_) rfl (by kernel_rfl) (by kernel_rfl) (by kernel_rfl) (fun _ _ _ h => h) (Or.inl ⟨by rfl, ?_⟩) (by assumption) ?_
      rotate_left 1
      · (intro W h; (try dsimp only at h); go_simp <;> with_reducible rfl)
      try simp only [Act.put, sA, sB, sC]
      refine wpAnyH_ready (rs := [13, 17]) (by kernel_rfl) (by simp) ?_
      refine (AllReadyH.cons (o := { dst := some 54, op := Op.call { callee := Callee.value (Operand.func 82), args := #[Operand.tmp 41, Operand.tmp 47, Operand.tmp 53], argTypes := #[30, 3, 3] }, type := 43, pos := "ref.go:130", after := #[{ on := 0, ground := Ground.data }, { on := 6, ground := Ground.data }, { on := 12, ground := Ground.data }], guard := none }) rfl (fun K hK => ?_) (AllReadyH.cons (o := { dst := some 14, op := Op.alloc 30, type := 0, pos := "ref.go:130", after := #[], guard := none }) rfl (fun K hK => ?_) AllReadyH.nil))
      ·
       rw [if_pos (by rfl)]
       go_simp
       go_at_call 82
       refine (rand_at x.2 y.2 HQQ.out HGD.out.1 (by have := HBD.out; omega) HGD.out.2.1 HGD.out.2.2 (HCF.out.2.grown hdr)).mono ?_
       rintro e wM ⟨aM, cM, rfl, hr, gM⟩
       have hgM := gT hdr gM
       go_wp2_with fail
       refine hK.out _ _ (HS.out _ hgM) (fun hH => ?_)
       clear hK K
       try simp only [Act.put, sA, sB, sC]
       refine wpAnyH_take (i := 14) (oi := { dst := some 40, op := Op.move (Operand.tmp 54), type := 43, pos := "ref.go:130", after := #[{ on := 13, ground := Ground.data }], guard := none }) (v := ?_) rfl (by kernel_rfl) (by kernel_rfl) (by kernel_rfl) (fun _ _ _ h => h) (Or.inl ⟨by rfl, ?_⟩) (by assumption) ?_
       rotate_left 1
       · (intro W h; (try dsimp only at h); go_simp <;> with_reducible rfl)
       try simp only [Act.put, sA, sB, sC]
       refine wpAnyH_take (i := 15) (oi := { dst := some 55, op := Op.extract (Operand.tmp 40) 0, type := 30, pos := "ref.go:130", after := #[{ on := 14, ground := Ground.data }], guard := none }) (v := ?_) rfl (by kernel_rfl) (by kernel_rfl) (by kernel_rfl) (fun _ _ _ h => h) (Or.inl ⟨by rfl, ?_⟩) (by assumption) ?_
       rotate_left 1
       · (intro W h; (try dsimp only at h); go_simp <;> with_reducible rfl)
       try simp only [Act.put, sA, sB, sC]
       refine wpAnyH_take (i := 16) (oi := { dst := some 56, op := Op.extract (Operand.tmp 40) 1, type := 3, pos := "ref.go:130", after := #[{ on := 14, ground := Ground.data }, { on := 18, ground := Ground.gcOnly Departure.lateStores }], guard := none }) (v := ?_) rfl (by kernel_rfl) (by kernel_rfl) (by kernel_rfl) (fun _ _ _ h => h) (Or.inl ⟨by rfl, ?_⟩) (by assumption) ?_
       rotate_left 1
       · (intro W h; (try dsimp only at h); go_simp <;> with_reducible rfl)
       try simp only [Act.put, sA, sB, sC]
       refine wpAnyH_ready (rs := [17]) (by kernel_rfl) (by simp) ?_
       refine (AllReadyH.cons (o := { dst := some 14, op := Op.alloc 30, type := 0, pos := "ref.go:130", after := #[], guard := none }) rfl (fun K hK => ?_) AllReadyH.nil)
       rw [if_pos (by rfl)]
       go_simp
       have hgA : wr.grownBy (World.alloc wM (.cells #[.slice none 0 0] 30)) none := gT hgM (gAl wM (.cells #[.slice none 0 0] 30) none)
       have hz : BoxZ (World.alloc wM (.cells #[.slice none 0 0] 30)) (wM.heap.size) := BoxZ.new wM
       have hge0 : wr.heap.size ≤ wM.heap.size := World.grownBy.size hgM
       have hge : ∀ p, wM.heap.size = p → wr.heap.size ≤ p := fun p e => by rw [← e]; exact hge0
       clear hge0
       replace hr := hr.grown (gAl wM (.cells #[.slice none 0 0] 30) none)
       obtain ⟨WA, hWA⟩ : ∃ z, World.alloc wM (.cells #[.slice none 0 0] 30) = z := ⟨_, rfl⟩
       rw [hWA] at hgA hz ⊢
       rw [hWA] at hr
       clear hWA
       obtain ⟨pA, hpA⟩ : ∃ p, wM.heap.size = p := ⟨_, rfl⟩
       replace hge := hge pA hpA
       rw [hpA] at hz ⊢
       clear hpA
       refine hK.out _ _ (HS.out _ hgA) (fun hH => ?_)
       clear hK K
       try simp only [Act.put, sA, sB, sC]
       refine wpAnyH_ready (rs := [18]) (by kernel_rfl) (by simp) ?_
       refine (AllReadyH.cons (o := { dst := none, op := Op.store 30 (Operand.tmp 14) (Operand.tmp 55), type := 0, pos := "ref.go:130", after := #[{ on := 17, ground := Ground.data }, { on := 15, ground := Ground.data }, { on := 13, ground := Ground.chain }, { on := 0, ground := Ground.phase }, { on := 1, ground := Ground.phase }, { on := 2, ground := Ground.phase }, { on := 3, ground := Ground.phase }, { on := 4, ground := Ground.phase }, { on := 5, ground := Ground.phase }, { on := 6, ground := Ground.phase }, { on := 7, ground := Ground.phase }, { on := 8, ground := Ground.phase }, { on := 9, ground := Ground.phase }, { on := 10, ground := Ground.phase }, { on := 11, ground := Ground.phase }, { on := 12, ground := Ground.phase }, { on := 13, ground := Ground.phase }, { on := 14, ground := Ground.phase }, { on := 15, ground := Ground.phase }, { on := 16, ground := Ground.textOnly Departure.lateStores }, { on := 17, ground := Ground.phase }], guard := none }) rfl (fun K hK => ?_) AllReadyH.nil)
       rw [if_pos (by rfl)]
       have z0 := hz.1
       have zf := hz.2
       go_simp
       clear z0 zf
       have hcb := CB.put hr hz.1 hz.2
       have hgS := grown_own hgA (grown_set WA pA 0 (.slice aM g1.length cM)) (fun k hk => by cases hk; exact hge)
       obtain ⟨WS, hWS⟩ : ∃ z, World.setCell WA ⟨pA, 0, none⟩ (.slice aM g1.length cM) = z := ⟨_, rfl⟩
       rw [hWS] at hcb hgS  ⊢
       clear hWS
       refine hK.out _ _ (HS.out _ hgS) (fun hH => ?_)
       clear hK K
       try simp only [Act.put, sA, sB, sC]
       refine wpAnyH_take (i := 19) (oi := { dst := some 15, op := Op.assign (Operand.tmp 56), type := 3, pos := "ref.go:130", after := #[{ on := 16, ground := Ground.data }, { on := 18, ground := Ground.chain }, { on := 0, ground := Ground.phase }, { on := 1, ground := Ground.phase }, { on := 2, ground := Ground.phase }, { on := 3, ground := Ground.phase }, { on := 4, ground := Ground.phase }, { on := 5, ground := Ground.phase }, { on := 6, ground := Ground.phase }, { on := 7, ground := Ground.phase }, { on := 8, ground := Ground.phase }, { on := 9, ground := Ground.phase }, { on := 10, ground := Ground.phase }, { on := 11, ground := Ground.phase }, { on := 12, ground := Ground.phase }, { on := 13, ground := Ground.phase }, { on := 14, ground := Ground.phase }, { on := 15, ground := Ground.phase }, { on := 16, ground := Ground.phase }, { on := 17, ground := Ground.phase }, { on := 18, ground := Ground.phase }], guard := none }) (v := ?_) rfl (by kernel_rfl) (by kernel_rfl) (by kernel_rfl) (fun _ _ _ h => h) (Or.inl ⟨by rfl, ?_⟩) (by assumption) ?_
       rotate_left 1
       · (intro W h; (try dsimp only at h); go_simp <;> with_reducible rfl)
       try simp only [Act.put, sA, sB, sC]
       refine wpAnyH_done (by kernel_rfl) ?_ _
       have hEND := hgS
       clear hH
       go_wp2_with fail
       go_meet
       exact ⟨pA, aM, cM, rfl, rfl, hge, hcb, hEND⟩
      ·
       rw [if_pos (by rfl)]
       go_simp
       have hgA : wr.grownBy ((World.alloc wr (.cells #[.slice none 0 0] 30)).drew) none := gT (gAl wr (.cells #[.slice none 0 0] 30) none) (⟨rfl, rfl, rfl, Nat.le_refl _, fun _ _ _ => rfl⟩ : (World.alloc wr (.cells #[.slice none 0 0] 30)).grownBy (World.alloc wr (.cells #[.slice none 0 0] 30)).drew none)
       have hz : BoxZ ((World.alloc wr (.cells #[.slice none 0 0] 30)).drew) (wr.heap.size) := (BoxZ.new wr).grown (⟨rfl, rfl, rfl, Nat.le_refl _, fun _ _ _ => rfl⟩ : (World.alloc wr (.cells #[.slice none 0 0] 30)).grownBy (World.alloc wr (.cells #[.slice none 0 0] 30)).drew none)
       have hge0 : wr.heap.size ≤ wr.heap.size := Nat.le_refl _
       have hge : ∀ p, wr.heap.size = p → wr.heap.size ≤ p := fun p e => by rw [← e]; exact hge0
       clear hge0
       obtain ⟨WA, hWA⟩ : ∃ z, (World.alloc wr (.cells #[.slice none 0 0] 30)).drew = z := ⟨_, rfl⟩
       rw [hWA] at hgA hz ⊢
       clear hWA
       obtain ⟨pA, hpA⟩ : ∃ p, wr.heap.size = p := ⟨_, rfl⟩
       replace hge := hge pA hpA
       rw [hpA] at hz ⊢
       clear hpA
       refine hK.out _ _ (HS.out _ hgA) (fun hH => ?_)
       clear hK K
       try simp only [Act.put, sA, sB, sC]
       refine wpAnyH_ready (rs := [13]) (by kernel_rfl) (by simp) ?_
       refine (AllReadyH.cons (o := { dst := some 54, op := Op.call { callee := Callee.value (Operand.func 82), args := #[Operand.tmp 41, Operand.tmp 47, Operand.tmp 53], argTypes := #[30, 3, 3] }, type := 43, pos := "ref.go:130", after := #[{ on := 0, ground := Ground.data }, { on := 6, ground := Ground.data }, { on := 12, ground := Ground.data }], guard := none }) rfl (fun K hK => ?_) AllReadyH.nil)
       rw [if_pos (by rfl)]
       go_simp
       go_at_call 82
       refine (rand_at x.2 y.2 HQQ.out HGD.out.1 (by have := HBD.out; omega) HGD.out.2.1 HGD.out.2.2 (HCF.out.2.grown hgA)).mono ?_
       rintro e wM ⟨aM, cM, rfl, hr, gM⟩
       have hgM := gT hgA gM
       replace hz := hz.grown gM
       go_wp2_with fail
       refine hK.out _ _ (HS.out _ hgM) (fun hH => ?_)
       clear hK K
       try simp only [Act.put, sA, sB, sC]
       refine wpAnyH_take (i := 14) (oi := { dst := some 40, op := Op.move (Operand.tmp 54), type := 43, pos := "ref.go:130", after := #[{ on := 13, ground := Ground.data }], guard := none }) (v := ?_) rfl (by kernel_rfl) (by kernel_rfl) (by kernel_rfl) (fun _ _ _ h => h) (Or.inl ⟨by rfl, ?_⟩) (by assumption) ?_
       rotate_left 1
       · (intro W h; (try dsimp only at h); go_simp <;> with_reducible rfl)
       try simp only [Act.put, sA, sB, sC]
       refine wpAnyH_take (i := 15) (oi := { dst := some 55, op := Op.extract (Operand.tmp 40) 0, type := 30, pos := "ref.go:130", after := #[{ on := 14, ground := Ground.data }], guard := none }) (v := ?_) rfl (by kernel_rfl) (by kernel_rfl) (by kernel_rfl) (fun _ _ _ h => h) (Or.inl ⟨by rfl, ?_⟩) (by assumption) ?_
       rotate_left 1
       · (intro W h; (try dsimp only at h); go_simp <;> with_reducible rfl)
       try simp only [Act.put, sA, sB, sC]
       refine wpAnyH_take (i := 16) (oi := { dst := some 56, op := Op.extract (Operand.tmp 40) 1, type := 3, pos := "ref.go:130", after := #[{ on := 14, ground := Ground.data }, { on := 18, ground := Ground.gcOnly Departure.lateStores }], guard := none }) (v := ?_) rfl (by kernel_rfl) (by kernel_rfl) (by kernel_rfl) (fun _ _ _ h => h) (Or.inl ⟨by rfl, ?_⟩) (by assumption) ?_
       rotate_left 1
       · (intro W h; (try dsimp only at h); go_simp <;> with_reducible rfl)
       try simp only [Act.put, sA, sB, sC]
       refine wpAnyH_ready (rs := [18]) (by kernel_rfl) (by simp) ?_
       refine (AllReadyH.cons (o := { dst := none, op := Op.store 30 (Operand.tmp 14) (Operand.tmp 55), type := 0, pos := "ref.go:130", after := #[{ on := 17, ground := Ground.data }, { on := 15, ground := Ground.data }, { on := 13, ground := Ground.chain }, { on := 0, ground := Ground.phase }, { on := 1, ground := Ground.phase }, { on := 2, ground := Ground.phase }, { on := 3, ground := Ground.phase }, { on := 4, ground := Ground.phase }, { on := 5, ground := Ground.phase }, { on := 6, ground := Ground.phase }, { on := 7, ground := Ground.phase }, { on := 8, ground := Ground.phase }, { on := 9, ground := Ground.phase }, { on := 10, ground := Ground.phase }, { on := 11, ground := Ground.phase }, { on := 12, ground := Ground.phase }, { on := 13, ground := Ground.phase }, { on := 14, ground := Ground.phase }, { on := 15, ground := Ground.phase }, { on := 16, ground := Ground.textOnly Departure.lateStores }, { on := 17, ground := Ground.phase }], guard := none }) rfl (fun K hK => ?_) AllReadyH.nil)
       rw [if_pos (by rfl)]
       have z0 := hz.1
       have zf := hz.2
       go_simp
       clear z0 zf
       have hcb := CB.put hr hz.1 hz.2
       have hgS := grown_own hgM (grown_set wM pA 0 (.slice aM g1.length cM)) (fun k hk => by cases hk; exact hge)
       obtain ⟨WS, hWS⟩ : ∃ z, World.setCell wM ⟨pA, 0, none⟩ (.slice aM g1.length cM) = z := ⟨_, rfl⟩
       rw [hWS] at hcb hgS  ⊢
       clear hWS
       refine hK.out _ _ (HS.out _ hgS) (fun hH => ?_)
       clear hK K
       try simp only [Act.put, sA, sB, sC]
       refine wpAnyH_take (i := 19) (oi := { dst := some 15, op := Op.assign (Operand.tmp 56), type := 3, pos := "ref.go:130", after := #[{ on := 16, ground := Ground.data }, { on := 18, ground := Ground.chain }, { on := 0, ground := Ground.phase }, { on := 1, ground := Ground.phase }, { on := 2, ground := Ground.phase }, { on := 3, ground := Ground.phase }, { on := 4, ground := Ground.phase }, { on := 5, ground := Ground.phase }, { on := 6, ground := Ground.phase }, { on := 7, ground := Ground.phase }, { on := 8, ground := Ground.phase }, { on := 9, ground := Ground.phase }, { on := 10, ground := Ground.phase }, { on := 11, ground := Ground.phase }, { on := 12, ground := Ground.phase }, { on := 13, ground := Ground.phase }, { on := 14, ground := Ground.phase }, { on := 15, ground := Ground.phase }, { on := 16, ground := Ground.phase }, { on := 17, ground := Ground.phase }, { on := 18, ground := Ground.phase }], guard := none }) (v := ?_) rfl (by kernel_rfl) (by kernel_rfl) (by kernel_rfl) (fun _ _ _ h => h) (Or.inl ⟨by rfl, ?_⟩) (by assumption) ?_
       rotate_left 1
       · (intro W h; (try dsimp only at h); go_simp <;> with_reducible rfl)
       try simp only [Act.put, sA, sB, sC]
       refine wpAnyH_done (by kernel_rfl) ?_ _
       have hEND := hgS
       clear hH
       go_wp2_with fail
       go_meet
       exact ⟨pA, aM, cM, rfl, rfl, hge, hcb, hEND⟩
     case rest =>
      obtain ⟨bn, an, cn, rfl, rfl, hbn, hcb, hgx⟩ := hcut
      obtain ⟨U, hU⟩ : ∃ z, z = wc := ⟨_, rfl⟩
      rw [← hU] at hcb hgx ⊢
      clear hU
      have hru := HR.out.grown hgx
      have HXU := hid (And.intro (hgx.cell HXC.out.1 (by simp)) (hgx.cell HXC.out.2.2.1 (by simp)))
      have HCB := hid hcb
      obtain ⟨ac', cc', hcf, _⟩ := hru.c
      have HRU := hid hru
      have q0 := hcb.1
      have q1 := hcf.1
      have q2 := hcf.2
      clear hcb hgx hru hbn hcf
      go_upto_region 11 with fail
      clear q0 q1 q2
      have hr2 := HRU.out.setC (by have := HB.out; omega) HCB.out.2.2
      have z0 := (show (U.setCell ⟨b0, 0, none⟩ (.slice an g1.length cn)).cell? ⟨bar, oa + i * 2, none⟩ = some (.int .i64 (xr : Int)) from by obtain ⟨_, _, hcf, _⟩ := HRU.out.c; exact (World.cell?_setCell_other _ _ _ _ (hcf.neI HXU.out.1)).trans HXU.out.1)
      have z1 := (show (U.setCell ⟨b0, 0, none⟩ (.slice an g1.length cn)).cell? ⟨bb, ob + jy * 2, none⟩ = some (.int .i64 (yr : Int)) from by obtain ⟨_, _, hcf, _⟩ := HRU.out.c; exact (World.cell?_setCell_other _ _ _ _ (hcf.neI HXU.out.2)).trans HXU.out.2)
      obtain ⟨V, hV⟩ : ∃ z, U.setCell ⟨b0, 0, none⟩ (.slice an g1.length cn) = z := ⟨_, rfl⟩
      rw [hV] at hr2 z0 z1 ⊢
      have HR2 := hid hr2
      obtain ⟨am, nm, cm, hmf, hlm, hcm⟩ := hr2.m
      have HMM := hid (And.intro hmf (And.intro hlm hcm))
      have HZ := hid (And.intro z0 z1)
      clear hV hr2 hmf hlm hcm z0 z1
      have HS := hid (fun (Wh : World) (hWh : Wh.cell? ⟨b1, 1, none⟩ = some (.slice (some ⟨bar, oa, none⟩) na ca) ∧ Wh.cell? ⟨b2, 1, none⟩ = some (.slice (some ⟨bb, ob, none⟩) nb cb) ∧ Wh.cell? ⟨bar, oa + i * 2, none⟩ = some (.int .i64 (xr : Int)) ∧ Wh.cell? ⟨bb, ob + jy * 2, none⟩ = some (.int .i64 (yr : Int))) => (hWh : (fun Wh : World => Wh.cell? ⟨b1, 1, none⟩ = some (.slice (some ⟨bar, oa, none⟩) na ca) ∧ Wh.cell? ⟨b2, 1, none⟩ = some (.slice (some ⟨bb, ob, none⟩) nb cb) ∧ Wh.cell? ⟨bar, oa + i * 2, none⟩ = some (.int .i64 (xr : Int)) ∧ Wh.cell? ⟨bb, ob + jy * 2, none⟩ = some (.int .i64 (yr : Int))) Wh))
      have hdr : V.grownBy V.drew none := ⟨rfl, rfl, rfl, Nat.le_refl _, fun _ _ _ => rfl⟩
      refine wp_region_held_drew (S := (fun Wh : World => Wh.cell? ⟨b1, 1, none⟩ = some (.slice (some ⟨bar, oa, none⟩) na ca) ∧ Wh.cell? ⟨b2, 1, none⟩ = some (.slice (some ⟨bb, ob, none⟩) nb cb) ∧ Wh.cell? ⟨bar, oa + i * 2, none⟩ = some (.int .i64 (xr : Int)) ∧ Wh.cell? ⟨bb, ob + jy * 2, none⟩ = some (.int .i64 (yr : Int)))) (by kernel_rfl) (HS.out _ ⟨((HR2.out.grown hdr).x.2.1), ((HR2.out.grown hdr).y.2.1), World.grownBy.cell hdr HZ.out.1 (by simp), World.grownBy.cell hdr HZ.out.2 (by simp)⟩) (fun hH => ?_)
      refine wpAnyH_take (i := 1) (oi := { dst := some 59, op := Op.fieldAddr 26 (Operand.tmp 6) 1, type := 0, pos := "ref.go:132", after := #[], guard := none }) (v := ?_) rfl (by kernel_rfl) (by kernel_rfl) (by kernel_rfl) (fun _ _ _ h => h) (Or.inl ⟨by rfl, ?_⟩) (by assumption) ?_
      rotate_left 1
      · (intro W h; (try dsimp only at h); go_simp <;> with_reducible rfl)
      try simp only [Act.put, sA, sB, sC]
      refine wpAnyH_take (i := 2) (oi := { dst := some 60, op := Op.load 24 (Operand.tmp 59), type := 24, pos := "ref.go:132", after := #[{ on := 1, ground := Ground.data }], guard := none }) (v := ?_) rfl (by kernel_rfl) (by kernel_rfl) (by kernel_rfl) (fun _ _ _ h => h) (Or.inl ⟨by rfl, ?_⟩) (by assumption) ?_
      rotate_left 1
      · (intro W h; (try dsimp only at h); go_simp <;> with_reducible rfl)
      try simp only [Act.put, sA, sB, sC]
      refine wpAnyH_take (i := 3) (oi := { dst := some 61, op := Op.move (Operand.tmp 12), type := 3, pos := "ref.go:132", after := #[], guard := none }) (v := ?_) rfl (by kernel_rfl) (by kernel_rfl) (by kernel_rfl) (fun _ _ _ h => h) (Or.inl ⟨by rfl, ?_⟩) (by assumption) ?_
      rotate_left 1
      · (intro W h; (try dsimp only at h); go_simp <;> with_reducible rfl)
      try simp only [Act.put, sA, sB, sC]
      refine wpAnyH_take (i := 4) (oi := { dst := some 62, op := Op.indexAddr 24 (Operand.tmp 60) (Operand.tmp 61), type := 0, pos := "ref.go:132", after := #[{ on := 2, ground := Ground.data }, { on := 3, ground := Ground.data }], guard := none }) (v := ?_) rfl (by kernel_rfl) (by kernel_rfl) (by kernel_rfl) (fun _ _ _ h => h) (Or.inl ⟨by rfl, ?_⟩) (by assumption) ?_
      rotate_left 1
      · (intro W h; (try dsimp only at h); go_simp <;> with_reducible rfl)
      try simp only [Act.put, sA, sB, sC]
      refine wpAnyH_take (i := 5) (oi := { dst := some 63, op := Op.fieldAddr 71 (Operand.tmp 62) 0, type := 0, pos := "ref.go:132", after := #[{ on := 4, ground := Ground.data }], guard := none }) (v := ?_) rfl (by kernel_rfl) (by kernel_rfl) (by kernel_rfl) (fun _ _ _ h => h) (Or.inl ⟨by rfl, ?_⟩) (by assumption) ?_
      rotate_left 1
      · (intro W h; (try dsimp only at h); go_simp <;> with_reducible rfl)
      try simp only [Act.put, sA, sB, sC]
      refine wpAnyH_take (i := 6) (oi := { dst := some 64, op := Op.load 3 (Operand.tmp 63), type := 3, pos := "ref.go:132", after := #[{ on := 5, ground := Ground.data }], guard := none }) (v := ?_) rfl (by kernel_rfl) (by kernel_rfl) (by kernel_rfl) (fun _ _ _ h => h) (Or.inl ⟨by rfl, ?_⟩) (by assumption) ?_
      rotate_left 1
      · (intro W h; (try dsimp only at h); go_simp <;> with_reducible rfl)
      try simp only [Act.put, sA, sB, sC]
      refine wpAnyH_take (i := 7) (oi := { dst := some 65, op := Op.move (Operand.tmp 11), type := 3, pos := "ref.go:132", after := #[], guard := none }) (v := ?_) rfl (by kernel_rfl) (by kernel_rfl) (by kernel_rfl) (fun _ _ _ h => h) (Or.inl ⟨by rfl, ?_⟩) (by assumption) ?_
      rotate_left 1
      · (intro W h; (try dsimp only at h); go_simp <;> with_reducible rfl)
      try simp only [Act.put, sA, sB, sC]
      refine wpAnyH_take (i := 8) (oi := { dst := some 66, op := Op.binOp BinOp.mul 3 (Operand.tmp 64) (Operand.tmp 65) 3, type := 3, pos := "ref.go:132", after := #[{ on := 6, ground := Ground.data }, { on := 7, ground := Ground.data }], guard := none }) (v := ?_) rfl (by kernel_rfl) (by kernel_rfl) (by kernel_rfl) (fun _ _ _ h => h) (Or.inl ⟨by rfl, ?_⟩) (by assumption) ?_
      rotate_left 1
      · (intro W h; (try dsimp only at h); go_simp <;> with_reducible rfl)
      try simp only [Act.put, sA, sB, sC]
      refine wpAnyH_take (i := 9) (oi := { dst := some 67, op := Op.fieldAddr 26 (Operand.tmp 7) 1, type := 0, pos := "ref.go:132", after := #[], guard := none }) (v := ?_) rfl (by kernel_rfl) (by kernel_rfl) (by kernel_rfl) (fun _ _ _ h => h) (Or.inl ⟨by rfl, ?_⟩) (by assumption) ?_
      rotate_left 1
      · (intro W h; (try dsimp only at h); go_simp <;> with_reducible rfl)
      try simp only [Act.put, sA, sB, sC]
      refine wpAnyH_take (i := 10) (oi := { dst := some 68, op := Op.load 24 (Operand.tmp 67), type := 24, pos := "ref.go:132", after := #[{ on := 9, ground := Ground.data }], guard := none }) (v := ?_) rfl (by kernel_rfl) (by kernel_rfl) (by kernel_rfl) (fun _ _ _ h => h) (Or.inl ⟨by rfl, ?_⟩) (by assumption) ?_
      rotate_left 1
      · (intro W h; (try dsimp only at h); go_simp <;> with_reducible rfl)
      try simp only [Act.put, sA, sB, sC]
      refine wpAnyH_take (i := 11) (oi := { dst := some 69, op := Op.move (Operand.tmp 13), type := 3, pos := "ref.go:132", after := #[], guard := none }) (v := ?_) rfl (by kernel_rfl) (by kernel_rfl) (by kernel_rfl) (fun _ _ _ h => h) (Or.inl ⟨by rfl, ?_⟩) (by assumption) ?_
      rotate_left 1
      · (intro W h; (try dsimp only at h); go_simp <;> with_reducible rfl)
      try simp only [Act.put, sA, sB, sC]
      refine wpAnyH_take (i := 12) (oi := { dst := some 70, op := Op.indexAddr 24 (Operand.tmp 68) (Operand.tmp 69), type := 0, pos := "ref.go:132", after := #[{ on := 10, ground := Ground.data }, { on := 11, ground := Ground.data }], guard := none }) (v := ?_) rfl (by kernel_rfl) (by kernel_rfl) (by kernel_rfl) (fun _ _ _ h => h) (Or.inl ⟨by rfl, ?_⟩) (by assumption) ?_
      rotate_left 1
      · (intro W h; (try dsimp only at h); go_simp <;> with_reducible rfl)
      try simp only [Act.put, sA, sB, sC]
      refine wpAnyH_take (i := 13) (oi := { dst := some 71, op := Op.fieldAddr 71 (Operand.tmp 70) 0, type := 0, pos := "ref.go:132", after := #[{ on := 12, ground := Ground.data }], guard := none }) (v := ?_) rfl (by kernel_rfl) (by kernel_rfl) (by kernel_rfl) (fun _ _ _ h => h) (Or.inl ⟨by rfl, ?_⟩) (by assumption) ?_
      rotate_left 1
      · (intro W h; (try dsimp only at h); go_simp <;> with_reducible rfl)
      try simp only [Act.put, sA, sB, sC]
      refine wpAnyH_take (i := 14) (oi := { dst := some 72, op := Op.load 3 (Operand.tmp 71), type := 3, pos := "ref.go:132", after := #[{ on := 13, ground := Ground.data }], guard := none }) (v := ?_) rfl (by kernel_rfl) (by kernel_rfl) (by kernel_rfl) (fun _ _ _ h => h) (Or.inl ⟨by rfl, ?_⟩) (by assumption) ?_
      rotate_left 1
      · (intro W h; (try dsimp only at h); go_simp <;> with_reducible rfl)
      try simp only [Act.put, sA, sB, sC]
      refine wpAnyH_take (i := 15) (oi := { dst := some 73, op := Op.binOp BinOp.add 3 (Operand.tmp 66) (Operand.tmp 72) 3, type := 3, pos := "ref.go:132", after := #[{ on := 8, ground := Ground.data }, { on := 14, ground := Ground.data }], guard := none }) (v := ?_) rfl (by kernel_rfl) (by kernel_rfl) (by kernel_rfl) (fun _ _ _ h => h) (Or.inl ⟨by rfl, ?_⟩) (by assumption) ?_
      rotate_left 1
      · (intro W h; (try dsimp only at h); go_simp <;> with_reducible rfl)
      try simp only [Act.put, sA, sB, sC]
      refine wpAnyH_take (i := 16) (oi := { dst := some 74, op := Op.move (Operand.tmp 15), type := 3, pos := "ref.go:132", after := #[], guard := none }) (v := ?_) rfl (by kernel_rfl) (by kernel_rfl) (by kernel_rfl) (fun _ _ _ h => h) (Or.inl ⟨by rfl, ?_⟩) (by assumption) ?_
      rotate_left 1
      · (intro W h; (try dsimp only at h); go_simp <;> with_reducible rfl)
      try simp only [Act.put, sA, sB, sC]
      refine wpAnyH_ready (rs := [0]) (by kernel_rfl) (by simp) ?_
      refine (AllReadyH.cons (o := { dst := some 58, op := Op.load 26 (Operand.tmp 10), type := 26, pos := "ref.go:132", after := #[], guard := none }) rfl (fun K hK => ?_) AllReadyH.nil)
      rw [if_pos (by rfl)]
      have p0 := (HMM.out.1.grown hdr).1
      have p1 := (HMM.out.1.grown hdr).2.1
      go_simp
      clear p0 p1
      refine hK.out _ _ (HS.out _ ⟨((HR2.out.grown hdr).x.2.1), ((HR2.out.grown hdr).y.2.1), World.grownBy.cell hdr HZ.out.1 (by simp), World.grownBy.cell hdr HZ.out.2 (by simp)⟩) (fun hH => ?_)
      clear hK K
      try simp only [Act.put, sA, sB, sC]
      refine wpAnyH_ready (rs := [17]) (by kernel_rfl) (by simp) ?_
      refine (AllReadyH.cons (o := { dst := some 75, op := Op.call { callee := Callee.value (Operand.func 80), args := #[Operand.tmp 58, Operand.tmp 73, Operand.tmp 74], argTypes := #[26, 3, 3] }, type := 26, pos := "ref.go:132", after := #[{ on := 0, ground := Ground.data }, { on := 15, ground := Ground.data }, { on := 16, ground := Ground.data }], guard := none }) rfl (fun K hK => ?_) AllReadyH.nil)
      rw [if_pos (by rfl)]
      go_simp
      go_at_call 80
      refine (with_calls l ((k : Int) + (j : Int)) (K0 : Int) t am nm cm _ (HMM.out.2.2.grown hdr) HMM.out.2.1 (by have := HMM.out.2.1; have := HBD.out; omega)).mono ?_
      rintro e wc2 ⟨aN, nN, cN, rfl, hlN, hcN, gc2⟩
      have hgr2 := gT hdr gc2
      go_wp2_with fail
      refine hK.out _ _ (HS.out _ ⟨((HR2.out.grown hgr2).x.2.1), ((HR2.out.grown hgr2).y.2.1), World.grownBy.cell hgr2 HZ.out.1 (by simp), World.grownBy.cell hgr2 HZ.out.2 (by simp)⟩) (fun hH => ?_)
      clear hK K
      try simp only [Act.put, sA, sB, sC]
      refine wpAnyH_ready (rs := [18]) (by kernel_rfl) (by simp) ?_
      refine (AllReadyH.cons (o := { dst := none, op := Op.store 26 (Operand.tmp 10) (Operand.tmp 75), type := 0, pos := "ref.go:132", after := #[{ on := 17, ground := Ground.data }, { on := 17, ground := Ground.chain }, { on := 0, ground := Ground.phase }, { on := 1, ground := Ground.phase }, { on := 2, ground := Ground.phase }, { on := 3, ground := Ground.phase }, { on := 4, ground := Ground.phase }, { on := 5, ground := Ground.phase }, { on := 6, ground := Ground.phase }, { on := 7, ground := Ground.phase }, { on := 8, ground := Ground.phase }, { on := 9, ground := Ground.phase }, { on := 10, ground := Ground.phase }, { on := 11, ground := Ground.phase }, { on := 12, ground := Ground.phase }, { on := 13, ground := Ground.phase }, { on := 14, ground := Ground.phase }, { on := 15, ground := Ground.phase }, { on := 16, ground := Ground.phase }, { on := 17, ground := Ground.phase }], guard := none }) rfl (fun K hK => ?_) AllReadyH.nil)
      rw [if_pos (by rfl)]
      have hr3 := HR2.out.grown hgr2
      have hm2 := HMM.out.1.grown hgr2
      have p0 := hm2.1
      have p1 := hm2.2.1
      have p2 := hm2.2.2.1
      have p3 := hm2.2.2.2
      go_simp
      clear p0 p1 p2 p3
      have hr4 := hr3.setM (by have := HB.out; omega) hlN hcN
      have hy2 := hr4.y.2.1
      have hx2 := hr4.x.2.1
      unfold laidX at hr4 hx2 hy2
      obtain ⟨WS, hWS⟩ : ∃ z, (wc2.setCell ⟨b5, 0, none⟩ (.int .i64 ((k : Int) + (j : Int)))).setCell ⟨b5, 1, none⟩ (.slice aN nN cN) = z := ⟨_, rfl⟩
      rw [hWS] at hr4 hx2 hy2 ⊢
      clear hWS
      obtain ⟨_, _, ex1, s1, _⟩ := (HC.out.1.grown hr4.gw).at HXR.out.2.2
      cases ex1
      obtain ⟨_, _, ey1, u1, _⟩ := (HC.out.2.grown hr4.gw).at HYY.out.1
      cases ey1
      rw [HXR.out.1] at s1
      rw [HYY.out.2] at u1
      refine hK.out _ _ (HS.out _ ⟨hx2, hy2, s1, u1⟩) (fun hH => ?_)
      clear hK K
      try simp only [Act.put, sA, sB, sC]
      refine wpAnyH_done (by kernel_rfl) ?_ _
      have hEND := hr4
      clear hH
      have HR5 := hid hr4
      clear hr4 hx2 hy2 s1 u1 hEND w1 w2 hm2 hr3 hcN hlN HS
      go_wp2_with fail
      go_roundg (nb - (jy + 1))
      case measure => rw [HJ.out]; omega
      case rel => exact ⟨jy + 1, g1, _, rfl, rfl, by omega, HR5.out, HNX.out⟩
    ·
     have f1 : decide (jy < nb) = false := decide_eq_false hjn
     have f2 : decide ((jy : Int) < (nb : Int)) = false := decide_eq_false (by omega)
     obtain rfl : jy = nb := by omega
     have w3 : IntKind.i64.wrap ((i : Int) + 1) = ((i + 1 : Nat) : Int) := by rw [IntWalk.i64_in _ (by have := HL.out; omega)]; omega
     have HFE := hid (show (foldP (prodF (P : Int)) (allPairs (a.drop (i + 1)) b) l).run g = (gF, mF) ∧ Good g ∧ gs <+: g ∧ g.length ≤ gs.length + (i + 1) * jy ∧ l.length ≤ (i + 1) * jy from by
      rw [List.drop_eq_nil_of_le (by rw [HN.out.2]; exact Nat.le_refl _), List.map_nil, List.nil_append] at hrun
      rw [Nat.succ_mul]
      exact ⟨hrun, hgd, hpx, hgl, hll⟩)
     have q1 := HR.out.y.2.1
     clear hjn hj hrun hgd hpx hgl hll
     go_wp2_with fail
     clear q1
     go_roundg (na - (i + 1))
     case measure => rw [HI.out]; omega
     case rel => exact ⟨i + 1, g, l, rfl, rfl, by omega, HR.out, HFE.out⟩
  ·
   have f1 : decide (i < na) = false := decide_eq_false hin
   have f2 : decide ((i : Int) < (na : Int)) = false := decide_eq_false (by omega)
   obtain rfl : i = na := by omega
   have e9 := HU.out.1
   rw [List.drop_eq_nil_of_le (by rw [HN.out.1]; exact Nat.le_refl _)] at e9
   have e8 : (g, l) = (gF, mF) := e9
   injection e8 with e1 e2
   obtain ⟨ac, cc, hcf, hgr⟩ := HR.out.c
   obtain ⟨am, nm, cm, hmf, hlm, hcm⟩ := HR.out.m
   have HCF := hid (And.intro hcf hgr)
   have HMM := hid (And.intro hmf (And.intro hlm hcm))
   have HEQ := hid (And.intro e1 e2)
   have q0 := HR.out.x.2.1
   clear e9 e1 e2 hcf hgr hmf hlm hcm hin hi
   go_upto_region 12 with fail
   clear q0 f1 f2
   have HS := hid (fun (Wh : World) (hWh : (CF Wh b0 ac g.length cc ∧ MF Wh b5 ((k : Int) + (j : Int)) am nm cm)) => (⟨hWh.1.1, hWh.2.1, hWh.2.2.1⟩ : (fun Wh : World => Wh.cell? ⟨b0, 0, none⟩ = some (.slice ac g.length cc) ∧ Wh.cell? ⟨b5, 0, none⟩ = some (.int .i64 ((k : Int) + (j : Int))) ∧ Wh.cell? ⟨b5, 1, none⟩ = some (.slice am nm cm)) Wh))
   have hdr : wr.grownBy wr.drew none := ⟨rfl, rfl, rfl, Nat.le_refl _, fun _ _ _ => rfl⟩
   refine wp_region_held_drew (S := (fun Wh : World => Wh.cell? ⟨b0, 0, none⟩ = some (.slice ac g.length cc) ∧ Wh.cell? ⟨b5, 0, none⟩ = some (.int .i64 ((k : Int) + (j : Int))) ∧ Wh.cell? ⟨b5, 1, none⟩ = some (.slice am nm cm))) (by kernel_rfl) (HS.out _ ⟨HCF.out.1.grown hdr, HMM.out.1.grown hdr⟩) (fun hH => ?_)
   refine wpAnyH_take (i := 0) (oi := { dst := some 76, op := Op.load 30 (Operand.tmp 4), type := 30, pos := "ref.go:135", after := #[], guard := none }) (v := ?_) rfl (by kernel_rfl) (by kernel_rfl) (by kernel_rfl) (fun _ _ _ h => h) (Or.inl ⟨by rfl, ?_⟩) (by assumption) ?_
   rotate_left 1
   · (intro W h; (try dsimp only at h); go_simp <;> with_reducible rfl)
   try simp only [Act.put, sA, sB, sC]
   refine wpAnyH_take (i := 1) (oi := { dst := some 77, op := Op.load 26 (Operand.tmp 10), type := 26, pos := "ref.go:135", after := #[{ on := 2, ground := Ground.gcOnly Departure.lateStores }], guard := none }) (v := ?_) rfl (by kernel_rfl) (by kernel_rfl) (by kernel_rfl) (fun _ _ _ h => h) (Or.inl ⟨by rfl, ?_⟩) (by assumption) ?_
   rotate_left 1
   · (intro W h; (try dsimp only at h); go_simp <;> with_reducible rfl)
   try simp only [Act.put, sA, sB, sC]
   refine wpAnyH_ready (rs := [2]) (by kernel_rfl) (by simp) ?_
   refine (AllReadyH.cons (o := { dst := none, op := Op.store 30 (Operand.tmp 8) (Operand.tmp 76), type := 0, pos := "ref.go:135", after := #[{ on := 0, ground := Ground.data }, { on := 0, ground := Ground.phase }, { on := 1, ground := Ground.textOnly Departure.lateStores }], guard := none }) rfl (fun K hK => ?_) AllReadyH.nil)
   rw [if_pos (by rfl)]
   obtain ⟨wd, hwd⟩ : ∃ z, World.drew wr = z := ⟨_, rfl⟩
   rw [hwd] at hdr ⊢
   clear hwd
   have hr1 := HR.out.grown hdr
   have c1 := hr1.r.1
   have c2 := hr1.r.2
   go_simp
   clear c1 c2
   have hg1 := hr1.r.put ac g.length cc
   have hc1 := hr1.r.cf (.slice ac g.length cc) (HCF.out.1.grown hdr) (by have := HB.out; omega)
   have hm1 := hr1.r.mf (.slice ac g.length cc) (HMM.out.1.grown hdr)
   have hs1 := hr1.r.mf (.slice ac g.length cc) hr1.s
   have hgr1 := hr1.r.gates (.slice ac g.length cc) (HCF.out.2.grown hdr)
   have hcl1 := hr1.r.cells (.slice ac g.length cc) (HMM.out.2.2.grown hdr)
   have hgw1 := CF.grows hr1.gw (by have := HB.out; omega) (.slice ac g.length cc) (b := b3)
   obtain ⟨W6, hW6⟩ : ∃ z, wd.setCell ⟨b3, 0, none⟩ (.slice ac g.length cc) = z := ⟨_, rfl⟩
   rw [hW6] at hg1 hc1 hm1 hs1 hgr1 hcl1 hgw1 ⊢
   clear hW6 hr1
   refine hK.out _ _ (HS.out _ ⟨hc1, hm1⟩) (fun hH => ?_)
   clear hK K
   try simp only [Act.put, sA, sB, sC]
   refine wpAnyH_ready (rs := [3]) (by kernel_rfl) (by simp) ?_
   refine (AllReadyH.cons (o := { dst := none, op := Op.store 26 (Operand.tmp 9) (Operand.tmp 77), type := 0, pos := "ref.go:135", after := #[{ on := 1, ground := Ground.data }, { on := 2, ground := Ground.chain }, { on := 0, ground := Ground.phase }, { on := 1, ground := Ground.phase }, { on := 2, ground := Ground.phase }], guard := none }) rfl (fun K hK => ?_) AllReadyH.nil)
   rw [if_pos (by rfl)]
   have c1 := hs1.1
   have c2 := hs1.2.1
   have c3 := hs1.2.2.1
   have c4 := hs1.2.2.2
   go_simp
   clear c1 c2 c3 c4
   have hs2 := hs1.put ((k : Int) + (j : Int)) am nm cm
   have hc2 := hs1.cf (.int .i64 ((k : Int) + (j : Int))) (.slice am nm cm) hc1
   have hg2 := hs1.cf (.int .i64 ((k : Int) + (j : Int))) (.slice am nm cm) hg1
   have hm2 := hs1.mf (.int .i64 ((k : Int) + (j : Int))) (.slice am nm cm) hm1 (by have := HB.out; omega)
   have hgr2 := hs1.gates (.int .i64 ((k : Int) + (j : Int))) (.slice am nm cm) hgr1
   have hcl2 := hs1.cells (.int .i64 ((k : Int) + (j : Int))) (.slice am nm cm) hcl1
   have hgw2 := MF.grows hgw1 (by have := HB.out; omega) (.int .i64 ((k : Int) + (j : Int))) (.slice am nm cm) (b := b4)
   unfold laidX at hs2 hc2 hg2 hm2 hgr2 hcl2 hgw2
   obtain ⟨W7, hW7⟩ : ∃ z, (W6.setCell ⟨b4, 0, none⟩ (.int .i64 ((k : Int) + (j : Int)))).setCell ⟨b4, 1, none⟩ (.slice am nm cm) = z := ⟨_, rfl⟩
   rw [hW7] at hs2 hc2 hg2 hm2 hgr2 hcl2 hgw2 ⊢
   clear hW7
   refine hK.out _ _ (HS.out _ ⟨hc2, hm2⟩) (fun hH => ?_)
   clear hK K
   try simp only [Act.put, sA, sB, sC]
   refine wpAnyH_done (by kernel_rfl) ?_ _
   have hEND := hgw2
   clear hH
   go_wp2_with fail
   refine bodyPost_ret (resS43 _ _ b3 b4 _ _ _ _ _ rfl rfl hg2.1 hs2.1 hs2.2.1) rfl ?_
   rw [HEQ.out.1] at hgr2 ⊢
   rw [HEQ.out.2] at hcl2
   exact ⟨ac, cc, am, nm, cm, rfl, by rw [← HEQ.out.2]; exact HMM.out.2.1, hgr2, hcl2, hgw2⟩
end Go.Proofs.Ythdhmflodiincaa
