/- Texts of the proof: UB0 UB UC. -/
import Derived.Test.YthdhmflodiincaaGreatCB16
import Derived.Test.YthdhmflodiincaaGreatCB15
import Derived.Test.YthdhmflodiincaaGreatCB09
import Derived.Deep.DeepCutAuto
set_option maxRecDepth 100000
set_option maxHeartbeats 8000000
namespace Go.Proofs.YthdhmflodiincaaGreat
open Go.RowKit Go.Maps

theorem sq_jr {n : Nat} {g : List Gt} {a b : List Cl} (ha : Sq n g a) (_hb : Sq n g b) (hn : 1 ≤ n) : ∀ p ∈ jPairs (n : Int) (n : Int) a b, 0 ≤ jr (n : Int) (n : Int) p ∧ jr (n : Int) (n : Int) p < ((n * n : Nat) : Int) := fun p hp => by
  obtain ⟨hp1, _⟩ := List.mem_filter.1 hp
  obtain ⟨h1, h2⟩ := mem_pairs.1 hp1
  have hx := ha.2 _ h1
  have hn' : (0 : Int) < n := by omega
  have e1 : 0 ≤ p.1.1 / (n : Int) := Int.ediv_nonneg hx.1 (by omega)
  have e2 : p.1.1 / (n : Int) < n := Int.ediv_lt_of_lt_mul hn' hx.2
  have e3 := Int.emod_nonneg p.2.1 (show (n : Int) ≠ 0 by omega)
  have e4 := Int.emod_lt_of_pos p.2.1 hn'
  obtain ⟨x, ex⟩ : ∃ x : Nat, p.1.1 / (n : Int) = (x : Int) := ⟨_, (Int.toNat_of_nonneg e1).symm⟩
  obtain ⟨y, ey⟩ : ∃ y : Nat, p.2.1 % (n : Int) = (y : Int) := ⟨_, (Int.toNat_of_nonneg e3).symm⟩
  have h := rank_lt (n := n) (x := x) (y := y) (by omega) (by omega)
  rw [Int.natCast_mul]
  unfold jr
  rw [ex, ey]
  exact h
theorem sq_small {n : Nat} {g : List Gt} {a : List Cl} (ha : Sq n g a) (hn : n ≤ 4) : ∀ c ∈ a, 0 ≤ c.1 ∧ c.1 ≤ 10000 := fun c hc => by
  have h := ha.2 c hc
  have h2 : n * n ≤ 4 * 4 := Nat.mul_le_mul hn hn
  have h3 : ((n * n : Nat) : Int) ≤ 16 := by omega
  rw [Int.natCast_mul] at h3
  omega
theorem joinSq_at {n : Nat} {gs g1 : List Gt} {a b t : List Cl} {ng na nb : Nat} {xa aa ba : Option Addr} {xc ca cb : Nat} {w : World} (hng : gs.length = ng) (hna : a.length = na) (hnb : b.length = nb) (e : (mjoinP n n (n * n) a b).run gs = (g1, t)) (hG : Good gs) (ha : Sq n gs a) (hb : Sq n gs b) (hn1 : 1 ≤ n) (hn4 : n ≤ 4) (hl : ng + 2 * (na * nb) ≤ 960)
    (h : GatesW w xa xc gs) (hma : CellsW w aa ca a) (hmb : CellsW w ba cb b) :
    Calls Tryz.prog 13 #[.agg #[.slice xa ng xc], .int .i64 (n : Int), .agg #[.int .i64 2, .slice aa na ca], .agg #[.int .i64 2, .slice ba nb cb]] w (AnsM w g1 2 t) := by
  have h16 : n * n ≤ 16 := by have : n * n ≤ 4 * 4 := Nat.mul_le_mul hn4 hn4; omega
  have la := ha.len
  have lb := hb.len
  have hc := mjoin_calls gs a b n 2 2 n (n * n) g1 t xa xc aa na ca ba nb cb w e h hma hna hmb hnb hG ha.1 hb.1 (by rw [hng]; exact hl) (by omega) (by omega) hn1 hn4 (by decide) (by decide) (by decide) (by simp) (by omega) (sq_small ha hn4) (sq_small hb hn4) (sq_jr ha hb hn1)
  rw [hng] at hc
  exact hc
theorem unionSq_at {gs g1 : List Gt} {a b t : List Cl} {ng na nb : Nat} {xa aa ba : Option Addr} {xc ca cb : Nat} {w : World} (hng : gs.length = ng) (hna : a.length = na) (hnb : b.length = nb) (e : (munionP a b).run gs = (g1, t)) (hG : Good gs) (ha : Mat gs a) (hb : Mat gs b) (hl : ng + 2 * (na + nb) ≤ 880) (hla : na ≤ 200) (hlb : nb ≤ 200)
    (h : GatesW w xa xc gs) (hma : CellsW w aa ca a) (hmb : CellsW w ba cb b) :
    Calls Tryz.prog 22 #[.agg #[.slice xa ng xc], .agg #[.int .i64 2, .slice aa na ca], .agg #[.int .i64 2, .slice ba nb cb]] w (AnsM w g1 2 t) := by
  have hc := munion_calls gs a b 2 2 g1 t xa xc aa na ca ba nb cb w e h hma hna hmb hnb hG ha hb (by rw [hng]; exact hl) hla hlb
  rw [hng] at hc
  exact hc
theorem boxes4 (w : World) (xa : Option Addr) (ng xc : Nat) (ar : Int) (ma : Option Addr) (nm mc : Nat) :
    ∃ W b0 b1 b2 b3, (((w.alloc (.cells #[.slice xa ng xc] 27)).alloc (.cells #[.int .i64 ar, .slice ma nm mc] 35)).alloc (.cells #[.slice none 0 0] 27)).alloc (.cells #[.int .i64 0, .slice none 0 0] 35) = W ∧ w.grownBy W none ∧ W.heap.size = w.heap.size + 4 ∧ (w.heap.size = b0 ∧ w.heap.size + 1 = b1 ∧ w.heap.size + 1 + 1 = b2 ∧ w.heap.size + 1 + 1 + 1 = b3) ∧
      CF W b0 xa ng xc ∧ MF W b1 ar ma nm mc ∧ CF W b2 none 0 0 ∧ MF W b3 0 none 0 0 :=
  ⟨_, _, _, _, _, rfl, (((World.grownBy_alloc w _ none).trans (World.grownBy_alloc _ _ none)).trans (World.grownBy_alloc _ _ none)).trans (World.grownBy_alloc _ _ none), by simp, ⟨rfl, rfl, rfl, rfl⟩,
    ⟨by go_simp, by go_simp⟩, ⟨by go_simp, by go_simp, by go_simp, by go_simp⟩, ⟨by go_simp, by go_simp⟩, ⟨by go_simp, by go_simp, by go_simp, by go_simp⟩⟩
end Go.Proofs.YthdhmflodiincaaGreat

namespace Go.Proofs.YthdhmflodiincaaGreat
open Go.RowKit Go.Maps

theorem resU105 (tmps : Array Value) (w : World) (b c : Nat) (a : Option Addr) (n d : Nat) (x y : Value) (ht : tmps.getD 5 undef = .pointer (some ⟨b, 0, none⟩)) (hu : tmps.getD 6 undef = .pointer (some ⟨c, 0, none⟩)) (h0 : w.cell? ⟨b, 0, none⟩ = some (.slice a n d)) (h1 : w.cell? ⟨c, 0, none⟩ = some x) (h2 : w.cell? ⟨c, 1, none⟩ = some y) :
    (results Tryz.f95 tmps).run Tryz.prog w = .ok (.tuple #[.agg #[.slice a n d], .agg #[x, y]]) w := by
  have ht' : tmps[5]?.getD undef = .pointer (some ⟨b, 0, none⟩) := by simpa using ht
  have hu' : tmps[6]?.getD undef = .pointer (some ⟨c, 0, none⟩) := by simpa using hu
  simp [results, ht', hu', go_sem, h0, h1, h2, Result.andThen]
theorem sq1_calls (w : World) (n : Nat) (nb : Nat) (gs g1 g2 : List Gt) (m t u : List Cl) (xa ma : Option Addr) (xc mc ng nm : Nat) (hng : gs.length = ng) (hnm : m.length = nm) (h : GatesW w xa xc gs) (hm : CellsW w ma mc m) (hn : w.cell? ⟨nb, 0, none⟩ = some (.int .i64 (n : Int)))
    (hG : Good gs) (hs : Sq n gs m) (hn1 : 1 ≤ n) (hn4 : n ≤ 4) (hl : ng ≤ 440) (e1 : (mjoinP n n (n * n) m m).run gs = (g1, t)) (e2 : (munionP m t).run g1 = (g2, u)) :
    Calls Tryz.prog 95 #[.agg #[.slice xa ng xc], .agg #[.int .i64 2, .slice ma nm mc], .pointer (some ⟨nb, 0, none⟩)] w (AnsM w g2 2 u) := by
  have h16 : n * n ≤ 16 := by have : n * n ≤ 4 * 4 := Nat.mul_le_mul hn4 hn4; omega
  have h64 : n * n * n ≤ 64 := by have : n * n * n ≤ 16 * 4 := Nat.mul_le_mul h16 hn4; omega
  have lm := hs.len
  have sj := Pr.safe_run _ (safe_joinSq hG hs hs (by omega))
  rw [e1] at sj
  have HJ := Lib.hid (show Good g1 ∧ gs <+: g1 ∧ g1.length ≤ ng + 128 ∧ Sq n g1 t ∧ t.length ≤ 16 from ⟨sj.1.good, sj.1.pre, by have h1 := sj.1.len; simp only at h1; omega, sj.2.1, Nat.le_trans sj.2.1.len h16⟩)
  have hmm : nm * nm ≤ 16 * 16 := Nat.mul_le_mul (by omega) (by omega)
  have HCJ := Lib.hid (fun (U : World) (hU : GatesW U xa xc gs) (hM : CellsW U ma mc m) (hA : CellsW U ma mc m) => joinSq_at hng hnm hnm e1 hG hs hs hn1 hn4 (by omega) hU hM hA)
  have HM16 := Lib.hid (show m.length = nm ∧ nm ≤ 16 ∧ ng ≤ 440 ∧ Sq n gs m from ⟨hnm, by omega, hl, hs⟩)
  have HE2 := Lib.hid e2
  obtain ⟨W, b0, b1, b2, b3, hW, hg, hsz, ⟨hb0, hb1, hb2, hb3⟩, k0, k1, k2, k3⟩ := boxes4 w xa ng xc 2 ma nm mc
  have HG := Lib.hid hg
  have H0 := Lib.hid k0
  have H1 := Lib.hid k1
  have H2 := Lib.hid k2
  have H3 := Lib.hid k3
  have HN := Lib.hid (show w.heap.size ≤ b0 ∧ b0 < b1 ∧ b1 < b2 ∧ b2 < b3 ∧ b3 < W.heap.size from by omega)
  have HX := Lib.hid (h.grown hg)
  have HM := Lib.hid (hm.grown hg)
  have HNB := Lib.hid (hg.cell hn (by simp))
  have HB := Lib.hid (And.intro hb3 (And.intro hb2 (And.intro hb1 hb0)))
  clear hg k0 k1 k2 k3 hsz h hm hn hb0 hb1 hb2 hb3 sj hmm lm h16 h64 e1 e2 hs hG hn1 hn4 hl hng hnm
  go_enter Tryz.func95, Tryz.ntmps95
  go_upto_region 1 with fail
  rw [HB.out.1, HB.out.2.1, HB.out.2.2.1, HB.out.2.2.2]
  clear hW HB
  have q0 := H0.out.1
  have q1 := H1.out.1
  have r1 := H1.out.2.1
  have q3 := HNB.out
  go_wp2_with fail
  clear q0 q1 r1 q3
  refine (HCJ.out W HX.out HM.out HM.out).mono ?_
  rintro e V ⟨a1, c1, a2, n2, c2, rfl, hn2, hr, hm2, gw⟩
  replace H0 := Lib.hid (H0.out.grown gw)
  replace H1 := Lib.hid (H1.out.grown gw)
  replace H2 := Lib.hid (H2.out.grown gw)
  replace H3 := Lib.hid (H3.out.grown gw)
  replace HX := Lib.hid (HX.out.grown gw)
  replace HM := Lib.hid (HM.out.grown gw)
  replace HG := Lib.hid (World.grownBy.trans HG.out gw)
  have HS1 := Lib.hid (World.grownBy.size gw)
  clear gw
  have HR := Lib.hid hr
  have HT := Lib.hid hm2
  have HN2 := Lib.hid (show t.length = n2 from hn2)
  clear hr hm2 hn2 HX HNB HCJ
  have gA := World.grownBy_alloc V (.cells #[.int .i64 0, .slice none 0 0] 35) none
  have k0 := H0.out.grown gA
  have q0 := k0.1
  have f0 := k0.2
  clear gA k0
  have hne1 : ¬ V.heap.size = b0 := (by have := HN.out; have := HS1.out; omega)
  have hne2 : ¬ b0 = V.heap.size := (by have := HN.out; have := HS1.out; omega)
  go_upto_region 2 with fail
  clear q0 f0 hne1 hne2
  have gw := World.grownBy_alloc V (.cells #[.int .i64 0, .slice none 0 0] 35) none
  have hb := MF.new V 0 none 0 0
  obtain ⟨V1, hV⟩ : ∃ z, World.alloc V (.cells #[.int .i64 0, .slice none 0 0] 35) = z := ⟨_, rfl⟩
  have hz : V1.heap.size = V.heap.size + 1 := by rw [← hV]; simp
  rw [hV] at gw hb ⊢
  clear hV
  obtain ⟨b4, hbb⟩ : ∃ z, V.heap.size = z := ⟨_, rfl⟩
  rw [hbb] at hb ⊢
  have HS2 := Lib.hid (show V.heap.size = b4 ∧ V1.heap.size = b4 + 1 from by omega)
  clear hz hbb
  replace H0 := Lib.hid (H0.out.grown gw)
  replace H1 := Lib.hid (H1.out.grown gw)
  replace H2 := Lib.hid (H2.out.grown gw)
  replace H3 := Lib.hid (H3.out.grown gw)
  replace HM := Lib.hid (HM.out.grown gw)
  replace HR := Lib.hid (HR.out.grown gw)
  replace HT := Lib.hid (HT.out.grown gw)
  replace HG := Lib.hid (World.grownBy.trans HG.out gw)
  have HS3 := Lib.hid (World.grownBy.size gw)
  clear gw
  have H4 := Lib.hid hb
  clear hb
  have nw0 := H0.out.put a1 g1.length c1
  have nw1 := H0.out.mf (.slice a1 g1.length c1) H1.out
  have nw2 := H0.out.cf (.slice a1 g1.length c1) H2.out (by have := HN.out; have := HS1.out; have := HS2.out; have := HS3.out; omega)
  have nw3 := H0.out.mf (.slice a1 g1.length c1) H3.out
  have nwM := H0.out.cells (.slice a1 g1.length c1) HM.out
  have nwR := H0.out.gates (.slice a1 g1.length c1) HR.out
  have nwT := H0.out.cells (.slice a1 g1.length c1) HT.out
  have nw4 := H0.out.mf (.slice a1 g1.length c1) H4.out
  have nG := CF.grows HG.out (by have := HN.out; have := HS1.out; have := HS2.out; have := HS3.out; omega) (.slice a1 g1.length c1) (b := b0)
  have nS : (World.setCell V1 ⟨b0, 0, none⟩ (.slice a1 g1.length c1)).heap.size = V1.heap.size := by simp
  obtain ⟨V2, hV⟩ : ∃ z, World.setCell V1 ⟨b0, 0, none⟩ (.slice a1 g1.length c1) = z := ⟨_, rfl⟩
  rw [hV] at nw0 nw1 nw2 nw3 nwM nwR nwT nw4 nG nS ⊢
  clear hV
  replace H0 := Lib.hid nw0
  replace H1 := Lib.hid nw1
  replace H2 := Lib.hid nw2
  replace H3 := Lib.hid nw3
  replace HM := Lib.hid nwM
  replace HR := Lib.hid nwR
  replace HT := Lib.hid nwT
  replace H4 := Lib.hid nw4
  replace HG := Lib.hid nG
  have HS4 := Lib.hid nS
  clear nG nS nw0 nw1 nw2 nw3 nwM nwR nwT nw4
  have nw0 := H4.out.cf (.int .i64 2) (.slice a2 n2 c2) H0.out
  have nw1 := H4.out.mf (.int .i64 2) (.slice a2 n2 c2) H1.out (by have := HN.out; have := HS1.out; have := HS2.out; have := HS3.out; have := HS4.out; omega)
  have nw2 := H4.out.cf (.int .i64 2) (.slice a2 n2 c2) H2.out
  have nw3 := H4.out.mf (.int .i64 2) (.slice a2 n2 c2) H3.out (by have := HN.out; have := HS1.out; have := HS2.out; have := HS3.out; have := HS4.out; omega)
  have nwM := H4.out.cells (.int .i64 2) (.slice a2 n2 c2) HM.out
  have nwR := H4.out.gates (.int .i64 2) (.slice a2 n2 c2) HR.out
  have nwT := H4.out.cells (.int .i64 2) (.slice a2 n2 c2) HT.out
  have nw4 := H4.out.put 2 a2 n2 c2
  have nG := MF.grows HG.out (by have := HN.out; have := HS1.out; have := HS2.out; have := HS3.out; have := HS4.out; omega) (.int .i64 2) (.slice a2 n2 c2) (b := b4)
  have nS : (World.setCell (World.setCell V2 ⟨b4, 0, none⟩ (.int .i64 2)) ⟨b4, 1, none⟩ (.slice a2 n2 c2)).heap.size = V2.heap.size := by simp
  unfold laidX at nw0 nw1 nw2 nw3 nwM nwR nwT nw4 nG
  obtain ⟨V3, hV⟩ : ∃ z, World.setCell (World.setCell V2 ⟨b4, 0, none⟩ (.int .i64 2)) ⟨b4, 1, none⟩ (.slice a2 n2 c2) = z := ⟨_, rfl⟩
  rw [hV] at nw0 nw1 nw2 nw3 nwM nwR nwT nw4 nG nS ⊢
  clear hV
  replace H0 := Lib.hid nw0
  replace H1 := Lib.hid nw1
  replace H2 := Lib.hid nw2
  replace H3 := Lib.hid nw3
  replace HM := Lib.hid nwM
  replace HR := Lib.hid nwR
  replace HT := Lib.hid nwT
  replace H4 := Lib.hid nw4
  replace HG := Lib.hid nG
  have HS5 := Lib.hid nS
  clear nG nS nw0 nw1 nw2 nw3 nwM nwR nwT nw4
  have q0 := H0.out.1
  have q4 := H4.out.1
  have r4 := H4.out.2.1
  have q1 := H1.out.1
  have r1 := H1.out.2.1
  go_wp2_with fail
  clear q0 q4 r4 q1 r1
  refine (unionSq_at rfl HM16.out.1 HN2.out HE2.out HJ.out.1 (HM16.out.2.2.2.1.grow HJ.out.2.1) HJ.out.2.2.2.1.1 (by have := HJ.out; have := HM16.out; have := HN2.out; omega) (by have := HM16.out; omega) (by have := HJ.out; have := HN2.out; omega) HR.out HM.out HT.out).mono ?_
  rintro e U ⟨a3, c3, a4, n4, c4, rfl, hn4, hr, hm2, gw⟩
  replace H0 := Lib.hid (H0.out.grown gw)
  replace H1 := Lib.hid (H1.out.grown gw)
  replace H2 := Lib.hid (H2.out.grown gw)
  replace H3 := Lib.hid (H3.out.grown gw)
  replace HM := Lib.hid (HM.out.grown gw)
  replace HR := Lib.hid (HR.out.grown gw)
  replace HT := Lib.hid (HT.out.grown gw)
  replace H4 := Lib.hid (H4.out.grown gw)
  replace HG := Lib.hid (World.grownBy.trans HG.out gw)
  have HS6 := Lib.hid (World.grownBy.size gw)
  clear gw
  have HP := Lib.hid hr
  have HU := Lib.hid hm2
  have HN4 := Lib.hid (show u.length = n4 from hn4)
  clear hr hm2 hn4
  have q2 := H2.out.1
  have f2 := H2.out.2
  have q3 := H3.out.1
  have r3 := H3.out.2.1
  have f3 := H3.out.2.2.1
  have e3 := H3.out.2.2.2
  have hne1 : ¬ b2 = b3 := (by have := HN.out; have := HS1.out; have := HS2.out; have := HS3.out; have := HS4.out; have := HS5.out; have := HS6.out; omega)
  have hne2 : ¬ b3 = b2 := (by have := HN.out; have := HS1.out; have := HS2.out; have := HS3.out; have := HS4.out; have := HS5.out; have := HS6.out; omega)
  go_wp2_with fail
  clear q2 f2 q3 r3 f3 e3 hne1 hne2
  have nw0 := H2.out.cf (.slice a3 g2.length c3) H0.out (by have := HN.out; have := HS1.out; have := HS2.out; have := HS3.out; have := HS4.out; have := HS5.out; have := HS6.out; omega)
  have nw1 := H2.out.mf (.slice a3 g2.length c3) H1.out
  have nw2 := H2.out.put a3 g2.length c3
  have nw3 := H2.out.mf (.slice a3 g2.length c3) H3.out
  have nwM := H2.out.cells (.slice a3 g2.length c3) HM.out
  have nwR := H2.out.gates (.slice a3 g2.length c3) HR.out
  have nwT := H2.out.cells (.slice a3 g2.length c3) HT.out
  have nw4 := H2.out.mf (.slice a3 g2.length c3) H4.out
  have nwP := H2.out.gates (.slice a3 g2.length c3) HP.out
  have nwU := H2.out.cells (.slice a3 g2.length c3) HU.out
  have nG := CF.grows HG.out (by have := HN.out; have := HS1.out; have := HS2.out; have := HS3.out; have := HS4.out; have := HS5.out; have := HS6.out; omega) (.slice a3 g2.length c3) (b := b2)
  have nS : (World.setCell U ⟨b2, 0, none⟩ (.slice a3 g2.length c3)).heap.size = U.heap.size := by simp
  obtain ⟨V4, hV⟩ : ∃ z, World.setCell U ⟨b2, 0, none⟩ (.slice a3 g2.length c3) = z := ⟨_, rfl⟩
  rw [hV] at nw0 nw1 nw2 nw3 nwM nwR nwT nw4 nwP nwU nG nS ⊢
  clear hV
  replace H0 := Lib.hid nw0
  replace H1 := Lib.hid nw1
  replace H2 := Lib.hid nw2
  replace H3 := Lib.hid nw3
  replace HM := Lib.hid nwM
  replace HR := Lib.hid nwR
  replace HT := Lib.hid nwT
  replace H4 := Lib.hid nw4
  replace HP := Lib.hid nwP
  replace HU := Lib.hid nwU
  replace HG := Lib.hid nG
  have HS7 := Lib.hid nS
  clear nG nS nw0 nw1 nw2 nw3 nwM nwR nwT nw4 nwP nwU
  have nw0 := H3.out.cf (.int .i64 2) (.slice a4 n4 c4) H0.out
  have nw1 := H3.out.mf (.int .i64 2) (.slice a4 n4 c4) H1.out (by have := HN.out; have := HS1.out; have := HS2.out; have := HS3.out; have := HS4.out; have := HS5.out; have := HS6.out; have := HS7.out; omega)
  have nw2 := H3.out.cf (.int .i64 2) (.slice a4 n4 c4) H2.out
  have nw3 := H3.out.put 2 a4 n4 c4
  have nwM := H3.out.cells (.int .i64 2) (.slice a4 n4 c4) HM.out
  have nwR := H3.out.gates (.int .i64 2) (.slice a4 n4 c4) HR.out
  have nwT := H3.out.cells (.int .i64 2) (.slice a4 n4 c4) HT.out
  have nw4 := H3.out.mf (.int .i64 2) (.slice a4 n4 c4) H4.out (by have := HN.out; have := HS1.out; have := HS2.out; have := HS3.out; have := HS4.out; have := HS5.out; have := HS6.out; have := HS7.out; omega)
  have nwP := H3.out.gates (.int .i64 2) (.slice a4 n4 c4) HP.out
  have nwU := H3.out.cells (.int .i64 2) (.slice a4 n4 c4) HU.out
  have nG := MF.grows HG.out (by have := HN.out; have := HS1.out; have := HS2.out; have := HS3.out; have := HS4.out; have := HS5.out; have := HS6.out; have := HS7.out; omega) (.int .i64 2) (.slice a4 n4 c4) (b := b3)
  have nS : (World.setCell (World.setCell V4 ⟨b3, 0, none⟩ (.int .i64 2)) ⟨b3, 1, none⟩ (.slice a4 n4 c4)).heap.size = V4.heap.size := by simp
  unfold laidX at nw0 nw1 nw2 nw3 nwM nwR nwT nw4 nwP nwU nG
  obtain ⟨V5, hV⟩ : ∃ z, World.setCell (World.setCell V4 ⟨b3, 0, none⟩ (.int .i64 2)) ⟨b3, 1, none⟩ (.slice a4 n4 c4) = z := ⟨_, rfl⟩
  rw [hV] at nw0 nw1 nw2 nw3 nwM nwR nwT nw4 nwP nwU nG nS ⊢
  clear hV
  replace H0 := Lib.hid nw0
  replace H1 := Lib.hid nw1
  replace H2 := Lib.hid nw2
  replace H3 := Lib.hid nw3
  replace HM := Lib.hid nwM
  replace HR := Lib.hid nwR
  replace HT := Lib.hid nwT
  replace H4 := Lib.hid nw4
  replace HP := Lib.hid nwP
  replace HU := Lib.hid nwU
  replace HG := Lib.hid nG
  have HS8 := Lib.hid nS
  clear nG nS nw0 nw1 nw2 nw3 nwM nwR nwT nw4 nwP nwU
  exact bodyPost_ret (resU105 _ _ b2 b3 a3 g2.length c3 _ _ rfl rfl H2.out.1 H3.out.1 H3.out.2.1) rfl ⟨a3, c3, a4, n4, c4, rfl, HN4.out, HP.out, HU.out, HG.out⟩
end Go.Proofs.YthdhmflodiincaaGreat

namespace Go.Proofs.YthdhmflodiincaaGreat
open Go.RowKit Go.Maps

theorem resU107 (tmps : Array Value) (w : World) (b c : Nat) (a : Option Addr) (n d : Nat) (x y : Value) (ht : tmps.getD 6 undef = .pointer (some ⟨b, 0, none⟩)) (hu : tmps.getD 7 undef = .pointer (some ⟨c, 0, none⟩)) (h0 : w.cell? ⟨b, 0, none⟩ = some (.slice a n d)) (h1 : w.cell? ⟨c, 0, none⟩ = some x) (h2 : w.cell? ⟨c, 1, none⟩ = some y) :
    (results Tryz.f97 tmps).run Tryz.prog w = .ok (.tuple #[.agg #[.slice a n d], .agg #[x, y]]) w := by
  have ht' : tmps[6]?.getD undef = .pointer (some ⟨b, 0, none⟩) := by simpa using ht
  have hu' : tmps[7]?.getD undef = .pointer (some ⟨c, 0, none⟩) := by simpa using hu
  simp [results, ht', hu', go_sem, h0, h1, h2, Result.andThen]
theorem st1_calls (w : World) (n : Nat) (nb : Nat) (gs g1 g2 : List Gt) (m t u : List Cl) (xa ma : Option Addr) (xc mc ng nm : Nat) (a : List Cl) (ab : Nat) (aa : Option Addr) (ac na : Nat) (hng : gs.length = ng) (hnm : m.length = nm) (h : GatesW w xa xc gs) (hm : CellsW w ma mc m) (hn : w.cell? ⟨nb, 0, none⟩ = some (.int .i64 (n : Int))) (hna : a.length = na) (ha : CellsW w aa ac a) (hab0 : w.cell? ⟨ab, 0, none⟩ = some (.int .i64 2)) (hab1 : w.cell? ⟨ab, 1, none⟩ = some (.slice aa na ac)) (hsa : Sq n gs a)
    (hG : Good gs) (hs : Sq n gs m) (hn1 : 1 ≤ n) (hn4 : n ≤ 4) (hl : ng ≤ 440) (e1 : (mjoinP n n (n * n) m a).run gs = (g1, t)) (e2 : (munionP a t).run g1 = (g2, u)) :
    Calls Tryz.prog 97 #[.agg #[.slice xa ng xc], .agg #[.int .i64 2, .slice ma nm mc], .pointer (some ⟨nb, 0, none⟩), .pointer (some ⟨ab, 0, none⟩)] w (AnsM w g2 2 u) := by
  have h16 : n * n ≤ 16 := by have : n * n ≤ 4 * 4 := Nat.mul_le_mul hn4 hn4; omega
  have h64 : n * n * n ≤ 64 := by have : n * n * n ≤ 16 * 4 := Nat.mul_le_mul h16 hn4; omega
  have lm := hs.len
  have la := hsa.len
  have sj := Pr.safe_run _ (safe_joinSq hG hs hsa (by omega))
  rw [e1] at sj
  have HJ := Lib.hid (show Good g1 ∧ gs <+: g1 ∧ g1.length ≤ ng + 128 ∧ Sq n g1 t ∧ t.length ≤ 16 from ⟨sj.1.good, sj.1.pre, by have h1 := sj.1.len; simp only at h1; omega, sj.2.1, Nat.le_trans sj.2.1.len h16⟩)
  have hmm : nm * na ≤ 16 * 16 := Nat.mul_le_mul (by omega) (by omega)
  have HCJ := Lib.hid (fun (U : World) (hU : GatesW U xa xc gs) (hM : CellsW U ma mc m) (hA : CellsW U aa ac a) => joinSq_at hng hnm hna e1 hG hs hsa hn1 hn4 (by omega) hU hM hA)
  have HM16 := Lib.hid (show a.length = na ∧ na ≤ 16 ∧ ng ≤ 440 ∧ Sq n gs a from ⟨hna, by omega, hl, hsa⟩)
  have HE2 := Lib.hid e2
  obtain ⟨W, b0, b1, b2, b3, hW, hg, hsz, ⟨hb0, hb1, hb2, hb3⟩, k0, k1, k2, k3⟩ := boxes4 w xa ng xc 2 ma nm mc
  have HG := Lib.hid hg
  have H0 := Lib.hid k0
  have H1 := Lib.hid k1
  have H2 := Lib.hid k2
  have H3 := Lib.hid k3
  have HN := Lib.hid (show w.heap.size ≤ b0 ∧ b0 < b1 ∧ b1 < b2 ∧ b2 < b3 ∧ b3 < W.heap.size ∧ ab < w.heap.size from by have := lies_lt hab0; simp only at this; omega)
  have HX := Lib.hid (h.grown hg)
  have HM := Lib.hid (hm.grown hg)
  have HNB := Lib.hid (hg.cell hn (by simp))
  have HA := Lib.hid (ha.grown hg)
  have HAB := Lib.hid (And.intro hab0 hab1)
  have HB := Lib.hid (And.intro hb3 (And.intro hb2 (And.intro hb1 hb0)))
  clear hg k0 k1 k2 k3 hsz h hm hn hb0 hb1 hb2 hb3 sj hmm lm h16 h64 e1 e2 hs hG hn1 hn4 hl hng hnm hna ha hab0 hab1 hsa la
  go_enter Tryz.func97, Tryz.ntmps97
  go_upto_region 1 with fail
  rw [HB.out.1, HB.out.2.1, HB.out.2.2.1, HB.out.2.2.2]
  clear hW HB
  have q0 := H0.out.1
  have q1 := H1.out.1
  have r1 := H1.out.2.1
  have q3 := HNB.out
  have qa := HG.out.cell HAB.out.1 (by simp)
  have qb := HG.out.cell HAB.out.2 (by simp)
  go_wp2_with fail
  clear q0 q1 r1 qa qb q3
  refine (HCJ.out W HX.out HM.out HA.out).mono ?_
  rintro e V ⟨a1, c1, a2, n2, c2, rfl, hn2, hr, hm2, gw⟩
  replace H0 := Lib.hid (H0.out.grown gw)
  replace H1 := Lib.hid (H1.out.grown gw)
  replace H2 := Lib.hid (H2.out.grown gw)
  replace H3 := Lib.hid (H3.out.grown gw)
  replace HX := Lib.hid (HX.out.grown gw)
  replace HM := Lib.hid (HM.out.grown gw)
  replace HA := Lib.hid (HA.out.grown gw)
  replace HG := Lib.hid (World.grownBy.trans HG.out gw)
  have HS1 := Lib.hid (World.grownBy.size gw)
  clear gw
  have HR := Lib.hid hr
  have HT := Lib.hid hm2
  have HN2 := Lib.hid (show t.length = n2 from hn2)
  clear hr hm2 hn2 HX HNB HCJ
  have gA := World.grownBy_alloc V (.cells #[.int .i64 0, .slice none 0 0] 35) none
  have k0 := H0.out.grown gA
  have q0 := k0.1
  have f0 := k0.2
  clear gA k0
  have hne1 : ¬ V.heap.size = b0 := (by have := HN.out; have := HS1.out; omega)
  have hne2 : ¬ b0 = V.heap.size := (by have := HN.out; have := HS1.out; omega)
  go_upto_region 2 with fail
  clear q0 f0 hne1 hne2
  have gw := World.grownBy_alloc V (.cells #[.int .i64 0, .slice none 0 0] 35) none
  have hb := MF.new V 0 none 0 0
  obtain ⟨V1, hV⟩ : ∃ z, World.alloc V (.cells #[.int .i64 0, .slice none 0 0] 35) = z := ⟨_, rfl⟩
  have hz : V1.heap.size = V.heap.size + 1 := by rw [← hV]; simp
  rw [hV] at gw hb ⊢
  clear hV
  obtain ⟨b4, hbb⟩ : ∃ z, V.heap.size = z := ⟨_, rfl⟩
  rw [hbb] at hb ⊢
  have HS2 := Lib.hid (show V.heap.size = b4 ∧ V1.heap.size = b4 + 1 from by omega)
  clear hz hbb
  replace H0 := Lib.hid (H0.out.grown gw)
  replace H1 := Lib.hid (H1.out.grown gw)
  replace H2 := Lib.hid (H2.out.grown gw)
  replace H3 := Lib.hid (H3.out.grown gw)
  replace HM := Lib.hid (HM.out.grown gw)
  replace HA := Lib.hid (HA.out.grown gw)
  replace HR := Lib.hid (HR.out.grown gw)
  replace HT := Lib.hid (HT.out.grown gw)
  replace HG := Lib.hid (World.grownBy.trans HG.out gw)
  have HS3 := Lib.hid (World.grownBy.size gw)
  clear gw
  have H4 := Lib.hid hb
  clear hb
  have nw0 := H0.out.put a1 g1.length c1
  have nw1 := H0.out.mf (.slice a1 g1.length c1) H1.out
  have nw2 := H0.out.cf (.slice a1 g1.length c1) H2.out (by have := HN.out; have := HS1.out; have := HS2.out; have := HS3.out; omega)
  have nw3 := H0.out.mf (.slice a1 g1.length c1) H3.out
  have nwM := H0.out.cells (.slice a1 g1.length c1) HM.out
  have nwA := H0.out.cells (.slice a1 g1.length c1) HA.out
  have nwR := H0.out.gates (.slice a1 g1.length c1) HR.out
  have nwT := H0.out.cells (.slice a1 g1.length c1) HT.out
  have nw4 := H0.out.mf (.slice a1 g1.length c1) H4.out
  have nG := CF.grows HG.out (by have := HN.out; have := HS1.out; have := HS2.out; have := HS3.out; omega) (.slice a1 g1.length c1) (b := b0)
  have nS : (World.setCell V1 ⟨b0, 0, none⟩ (.slice a1 g1.length c1)).heap.size = V1.heap.size := by simp
  obtain ⟨V2, hV⟩ : ∃ z, World.setCell V1 ⟨b0, 0, none⟩ (.slice a1 g1.length c1) = z := ⟨_, rfl⟩
  rw [hV] at nw0 nw1 nw2 nw3 nwM nwA nwR nwT nw4 nG nS ⊢
  clear hV
  replace H0 := Lib.hid nw0
  replace H1 := Lib.hid nw1
  replace H2 := Lib.hid nw2
  replace H3 := Lib.hid nw3
  replace HM := Lib.hid nwM
  replace HA := Lib.hid nwA
  replace HR := Lib.hid nwR
  replace HT := Lib.hid nwT
  replace H4 := Lib.hid nw4
  replace HG := Lib.hid nG
  have HS4 := Lib.hid nS
  clear nG nS nw0 nw1 nw2 nw3 nwM nwA nwR nwT nw4
  have nw0 := H4.out.cf (.int .i64 2) (.slice a2 n2 c2) H0.out
  have nw1 := H4.out.mf (.int .i64 2) (.slice a2 n2 c2) H1.out (by have := HN.out; have := HS1.out; have := HS2.out; have := HS3.out; have := HS4.out; omega)
  have nw2 := H4.out.cf (.int .i64 2) (.slice a2 n2 c2) H2.out
  have nw3 := H4.out.mf (.int .i64 2) (.slice a2 n2 c2) H3.out (by have := HN.out; have := HS1.out; have := HS2.out; have := HS3.out; have := HS4.out; omega)
  have nwM := H4.out.cells (.int .i64 2) (.slice a2 n2 c2) HM.out
  have nwA := H4.out.cells (.int .i64 2) (.slice a2 n2 c2) HA.out
  have nwR := H4.out.gates (.int .i64 2) (.slice a2 n2 c2) HR.out
  have nwT := H4.out.cells (.int .i64 2) (.slice a2 n2 c2) HT.out
  have nw4 := H4.out.put 2 a2 n2 c2
  have nG := MF.grows HG.out (by have := HN.out; have := HS1.out; have := HS2.out; have := HS3.out; have := HS4.out; omega) (.int .i64 2) (.slice a2 n2 c2) (b := b4)
  have nS : (World.setCell (World.setCell V2 ⟨b4, 0, none⟩ (.int .i64 2)) ⟨b4, 1, none⟩ (.slice a2 n2 c2)).heap.size = V2.heap.size := by simp
  unfold laidX at nw0 nw1 nw2 nw3 nwM nwA nwR nwT nw4 nG
  obtain ⟨V3, hV⟩ : ∃ z, World.setCell (World.setCell V2 ⟨b4, 0, none⟩ (.int .i64 2)) ⟨b4, 1, none⟩ (.slice a2 n2 c2) = z := ⟨_, rfl⟩
  rw [hV] at nw0 nw1 nw2 nw3 nwM nwA nwR nwT nw4 nG nS ⊢
  clear hV
  replace H0 := Lib.hid nw0
  replace H1 := Lib.hid nw1
  replace H2 := Lib.hid nw2
  replace H3 := Lib.hid nw3
  replace HM := Lib.hid nwM
  replace HA := Lib.hid nwA
  replace HR := Lib.hid nwR
  replace HT := Lib.hid nwT
  replace H4 := Lib.hid nw4
  replace HG := Lib.hid nG
  have HS5 := Lib.hid nS
  clear nG nS nw0 nw1 nw2 nw3 nwM nwA nwR nwT nw4
  have q0 := H0.out.1
  have q4 := H4.out.1
  have r4 := H4.out.2.1
  have qa := HG.out.cell HAB.out.1 (by simp)
  have qb := HG.out.cell HAB.out.2 (by simp)
  go_wp2_with fail
  clear q0 q4 r4 qa qb
  refine (unionSq_at rfl HM16.out.1 HN2.out HE2.out HJ.out.1 (HM16.out.2.2.2.1.grow HJ.out.2.1) HJ.out.2.2.2.1.1 (by have := HJ.out; have := HM16.out; have := HN2.out; omega) (by have := HM16.out; omega) (by have := HJ.out; have := HN2.out; omega) HR.out HA.out HT.out).mono ?_
  rintro e U ⟨a3, c3, a4, n4, c4, rfl, hn4, hr, hm2, gw⟩
  replace H0 := Lib.hid (H0.out.grown gw)
  replace H1 := Lib.hid (H1.out.grown gw)
  replace H2 := Lib.hid (H2.out.grown gw)
  replace H3 := Lib.hid (H3.out.grown gw)
  replace HM := Lib.hid (HM.out.grown gw)
  replace HA := Lib.hid (HA.out.grown gw)
  replace HR := Lib.hid (HR.out.grown gw)
  replace HT := Lib.hid (HT.out.grown gw)
  replace H4 := Lib.hid (H4.out.grown gw)
  replace HG := Lib.hid (World.grownBy.trans HG.out gw)
  have HS6 := Lib.hid (World.grownBy.size gw)
  clear gw
  have HP := Lib.hid hr
  have HU := Lib.hid hm2
  have HN4 := Lib.hid (show u.length = n4 from hn4)
  clear hr hm2 hn4
  have q2 := H2.out.1
  have f2 := H2.out.2
  have q3 := H3.out.1
  have r3 := H3.out.2.1
  have f3 := H3.out.2.2.1
  have e3 := H3.out.2.2.2
  have hne1 : ¬ b2 = b3 := (by have := HN.out; have := HS1.out; have := HS2.out; have := HS3.out; have := HS4.out; have := HS5.out; have := HS6.out; omega)
  have hne2 : ¬ b3 = b2 := (by have := HN.out; have := HS1.out; have := HS2.out; have := HS3.out; have := HS4.out; have := HS5.out; have := HS6.out; omega)
  go_wp2_with fail
  clear q2 f2 q3 r3 f3 e3 hne1 hne2
  have nw0 := H2.out.cf (.slice a3 g2.length c3) H0.out (by have := HN.out; have := HS1.out; have := HS2.out; have := HS3.out; have := HS4.out; have := HS5.out; have := HS6.out; omega)
  have nw1 := H2.out.mf (.slice a3 g2.length c3) H1.out
  have nw2 := H2.out.put a3 g2.length c3
  have nw3 := H2.out.mf (.slice a3 g2.length c3) H3.out
  have nwM := H2.out.cells (.slice a3 g2.length c3) HM.out
  have nwA := H2.out.cells (.slice a3 g2.length c3) HA.out
  have nwR := H2.out.gates (.slice a3 g2.length c3) HR.out
  have nwT := H2.out.cells (.slice a3 g2.length c3) HT.out
  have nw4 := H2.out.mf (.slice a3 g2.length c3) H4.out
  have nwP := H2.out.gates (.slice a3 g2.length c3) HP.out
  have nwU := H2.out.cells (.slice a3 g2.length c3) HU.out
  have nG := CF.grows HG.out (by have := HN.out; have := HS1.out; have := HS2.out; have := HS3.out; have := HS4.out; have := HS5.out; have := HS6.out; omega) (.slice a3 g2.length c3) (b := b2)
  have nS : (World.setCell U ⟨b2, 0, none⟩ (.slice a3 g2.length c3)).heap.size = U.heap.size := by simp
  obtain ⟨V4, hV⟩ : ∃ z, World.setCell U ⟨b2, 0, none⟩ (.slice a3 g2.length c3) = z := ⟨_, rfl⟩
  rw [hV] at nw0 nw1 nw2 nw3 nwM nwA nwR nwT nw4 nwP nwU nG nS ⊢
  clear hV
  replace H0 := Lib.hid nw0
  replace H1 := Lib.hid nw1
  replace H2 := Lib.hid nw2
  replace H3 := Lib.hid nw3
  replace HM := Lib.hid nwM
  replace HA := Lib.hid nwA
  replace HR := Lib.hid nwR
  replace HT := Lib.hid nwT
  replace H4 := Lib.hid nw4
  replace HP := Lib.hid nwP
  replace HU := Lib.hid nwU
  replace HG := Lib.hid nG
  have HS7 := Lib.hid nS
  clear nG nS nw0 nw1 nw2 nw3 nwM nwA nwR nwT nw4 nwP nwU
  have nw0 := H3.out.cf (.int .i64 2) (.slice a4 n4 c4) H0.out
  have nw1 := H3.out.mf (.int .i64 2) (.slice a4 n4 c4) H1.out (by have := HN.out; have := HS1.out; have := HS2.out; have := HS3.out; have := HS4.out; have := HS5.out; have := HS6.out; have := HS7.out; omega)
  have nw2 := H3.out.cf (.int .i64 2) (.slice a4 n4 c4) H2.out
  have nw3 := H3.out.put 2 a4 n4 c4
  have nwM := H3.out.cells (.int .i64 2) (.slice a4 n4 c4) HM.out
  have nwA := H3.out.cells (.int .i64 2) (.slice a4 n4 c4) HA.out
  have nwR := H3.out.gates (.int .i64 2) (.slice a4 n4 c4) HR.out
  have nwT := H3.out.cells (.int .i64 2) (.slice a4 n4 c4) HT.out
  have nw4 := H3.out.mf (.int .i64 2) (.slice a4 n4 c4) H4.out (by have := HN.out; have := HS1.out; have := HS2.out; have := HS3.out; have := HS4.out; have := HS5.out; have := HS6.out; have := HS7.out; omega)
  have nwP := H3.out.gates (.int .i64 2) (.slice a4 n4 c4) HP.out
  have nwU := H3.out.cells (.int .i64 2) (.slice a4 n4 c4) HU.out
  have nG := MF.grows HG.out (by have := HN.out; have := HS1.out; have := HS2.out; have := HS3.out; have := HS4.out; have := HS5.out; have := HS6.out; have := HS7.out; omega) (.int .i64 2) (.slice a4 n4 c4) (b := b3)
  have nS : (World.setCell (World.setCell V4 ⟨b3, 0, none⟩ (.int .i64 2)) ⟨b3, 1, none⟩ (.slice a4 n4 c4)).heap.size = V4.heap.size := by simp
  unfold laidX at nw0 nw1 nw2 nw3 nwM nwA nwR nwT nw4 nwP nwU nG
  obtain ⟨V5, hV⟩ : ∃ z, World.setCell (World.setCell V4 ⟨b3, 0, none⟩ (.int .i64 2)) ⟨b3, 1, none⟩ (.slice a4 n4 c4) = z := ⟨_, rfl⟩
  rw [hV] at nw0 nw1 nw2 nw3 nwM nwA nwR nwT nw4 nwP nwU nG nS ⊢
  clear hV
  replace H0 := Lib.hid nw0
  replace H1 := Lib.hid nw1
  replace H2 := Lib.hid nw2
  replace H3 := Lib.hid nw3
  replace HM := Lib.hid nwM
  replace HA := Lib.hid nwA
  replace HR := Lib.hid nwR
  replace HT := Lib.hid nwT
  replace H4 := Lib.hid nw4
  replace HP := Lib.hid nwP
  replace HU := Lib.hid nwU
  replace HG := Lib.hid nG
  have HS8 := Lib.hid nS
  clear nG nS nw0 nw1 nw2 nw3 nwM nwA nwR nwT nw4 nwP nwU
  exact bodyPost_ret (resU107 _ _ b2 b3 a3 g2.length c3 _ _ rfl rfl H2.out.1 H3.out.1 H3.out.2.1) rfl ⟨a3, c3, a4, n4, c4, rfl, HN4.out, HP.out, HU.out, HG.out⟩
end Go.Proofs.YthdhmflodiincaaGreat
