/- The check of examples. -/
import Derived.Test.YtbddpjofhddilaaNSL
import Derived.Deep.RegionHeld3
namespace Go.Proofs.Ytbddpjofhddilaa
open Go.RowKit

def fdA : Fd := (⟨#[102]⟩, [0], true)
def fdB : Fd := (⟨#[102]⟩, [0], false)
theorem fields_one {w : World} {b s : Nat} {c sc : Nat} {y : Bool} (h0 : w.cell? ⟨b, 0, none⟩ = some (.string ⟨#[102]⟩)) (h1 : w.cell? ⟨b, 1, none⟩ = some (.slice (some ⟨s, 0, none⟩) 1 sc)) (h2 : w.cell? ⟨b, 2, none⟩ = some (.bool y)) (h3 : w.cell? ⟨s, 0, none⟩ = some (.int .i64 0)) (hc : 1 ≤ c) (hsc : 1 ≤ sc) :
    Fields w (some ⟨b, 0, none⟩) c [(⟨#[102]⟩, [0], y)] := by
  refine ⟨hc, fun j f hj => ?_⟩
  match j, hj with
  | 0, hj =>
    simp at hj
    subst hj
    refine ⟨b, 0, rfl, h0, ⟨some ⟨s, 0, none⟩, sc, h1, hsc, .inr ⟨s, 0, rfl, fun i z hz => ?_⟩⟩, h2⟩
    match i, hz with
    | 0, hz => simp at hz; subst hz; exact h3

theorem stage (w3 : World) (x0 x1 x2 x3 y0 y1 y2 y3 z0 u0 u1 u2 : Value) : ((((w3.alloc (.cells #[x0, x1, x2, x3] 33)).alloc (.cells #[y0, y1, y2, y3] 27)).alloc (.cells #[z0] 3)).alloc (.cells #[u0, u1, u2] 51)).cell? ⟨w3.heap.size, 0, none⟩ = some x0 ∧
    ((((w3.alloc (.cells #[x0, x1, x2, x3] 33)).alloc (.cells #[y0, y1, y2, y3] 27)).alloc (.cells #[z0] 3)).alloc (.cells #[u0, u1, u2] 51)).cell? ⟨w3.heap.size, 1, none⟩ = some x1 ∧
    ((((w3.alloc (.cells #[x0, x1, x2, x3] 33)).alloc (.cells #[y0, y1, y2, y3] 27)).alloc (.cells #[z0] 3)).alloc (.cells #[u0, u1, u2] 51)).cell? ⟨w3.heap.size, 2, none⟩ = some x2 ∧
    ((((w3.alloc (.cells #[x0, x1, x2, x3] 33)).alloc (.cells #[y0, y1, y2, y3] 27)).alloc (.cells #[z0] 3)).alloc (.cells #[u0, u1, u2] 51)).cell? ⟨w3.heap.size, 3, none⟩ = some x3 ∧
    ((((w3.alloc (.cells #[x0, x1, x2, x3] 33)).alloc (.cells #[y0, y1, y2, y3] 27)).alloc (.cells #[z0] 3)).alloc (.cells #[u0, u1, u2] 51)).cell? ⟨w3.heap.size + 1, 0, none⟩ = some y0 ∧
    ((((w3.alloc (.cells #[x0, x1, x2, x3] 33)).alloc (.cells #[y0, y1, y2, y3] 27)).alloc (.cells #[z0] 3)).alloc (.cells #[u0, u1, u2] 51)).cell? ⟨w3.heap.size + 1, 1, none⟩ = some y1 ∧
    ((((w3.alloc (.cells #[x0, x1, x2, x3] 33)).alloc (.cells #[y0, y1, y2, y3] 27)).alloc (.cells #[z0] 3)).alloc (.cells #[u0, u1, u2] 51)).cell? ⟨w3.heap.size + 1, 2, none⟩ = some y2 ∧
    ((((w3.alloc (.cells #[x0, x1, x2, x3] 33)).alloc (.cells #[y0, y1, y2, y3] 27)).alloc (.cells #[z0] 3)).alloc (.cells #[u0, u1, u2] 51)).cell? ⟨w3.heap.size + 1, 3, none⟩ = some y3 ∧
    ((((w3.alloc (.cells #[x0, x1, x2, x3] 33)).alloc (.cells #[y0, y1, y2, y3] 27)).alloc (.cells #[z0] 3)).alloc (.cells #[u0, u1, u2] 51)).cell? ⟨w3.heap.size + 1 + 1, 0, none⟩ = some z0 ∧
    ((((w3.alloc (.cells #[x0, x1, x2, x3] 33)).alloc (.cells #[y0, y1, y2, y3] 27)).alloc (.cells #[z0] 3)).alloc (.cells #[u0, u1, u2] 51)).cell? ⟨w3.heap.size + 1 + 1 + 1, 0, none⟩ = some u0 ∧
    ((((w3.alloc (.cells #[x0, x1, x2, x3] 33)).alloc (.cells #[y0, y1, y2, y3] 27)).alloc (.cells #[z0] 3)).alloc (.cells #[u0, u1, u2] 51)).cell? ⟨w3.heap.size + 1 + 1 + 1, 1, none⟩ = some u1 ∧
    ((((w3.alloc (.cells #[x0, x1, x2, x3] 33)).alloc (.cells #[y0, y1, y2, y3] 27)).alloc (.cells #[z0] 3)).alloc (.cells #[u0, u1, u2] 51)).cell? ⟨w3.heap.size + 1 + 1 + 1, 2, none⟩ = some u2 := by
  refine ⟨?_, ?_, ?_, ?_, ?_, ?_, ?_, ?_, ?_, ?_, ?_, ?_⟩
  all_goals go_simp
set_option maxRecDepth 100000 in
set_option maxHeartbeats 20000000 in
theorem head_says : HeadSays := by
  intro w
  have hgU := (((World.grownBy_alloc w (.cells #[.string ⟨#[65]⟩, .bool false] 85) none).trans (World.grownBy_alloc _ (.cells #[.int .i64 0] 3) none)).trans (World.grownBy_alloc _ (.cells #[.string ⟨#[102]⟩, .slice (some ⟨w.heap.size + 1, 0, none⟩) 1 1, .bool true] 51) none)).trans (World.grownBy_alloc _ (.cells #[.slice (some ⟨w.heap.size, 0, none⟩) 1 1, .slice (some ⟨w.heap.size + 1 + 1, 0, none⟩) 1 1, .slice none 0 0, .slice none 0 0] 27) none)
  obtain ⟨U, hU⟩ : ∃ U, (((w.alloc (.cells #[.string ⟨#[65]⟩, .bool false] 85)).alloc (.cells #[.int .i64 0] 3)).alloc (.cells #[.string ⟨#[102]⟩, .slice (some ⟨w.heap.size + 1, 0, none⟩) 1 1, .bool true] 51)).alloc (.cells #[.slice (some ⟨w.heap.size, 0, none⟩) 1 1, .slice (some ⟨w.heap.size + 1 + 1, 0, none⟩) 1 1, .slice none 0 0, .slice none 0 0] 27) = U := ⟨_, rfl⟩
  rw [hU] at hgU
  have hs0 : U.cell? ⟨w.heap.size + 1 + 1 + 1, 0, none⟩ = some (.slice (some ⟨w.heap.size, 0, none⟩) 1 1) := by rw [← hU]; clear hU hgU; go_simp
  have hs1 : U.cell? ⟨w.heap.size + 1 + 1 + 1, 1, none⟩ = some (.slice (some ⟨w.heap.size + 1 + 1, 0, none⟩) 1 1) := by rw [← hU]; clear hU hgU hs0; go_simp
  have hs2 : U.cell? ⟨w.heap.size + 1 + 1 + 1, 2, none⟩ = some (.slice none 0 0) := by rw [← hU]; clear hU hgU hs0 hs1; go_simp
  have hs3 : U.cell? ⟨w.heap.size + 1 + 1 + 1, 3, none⟩ = some (.slice none 0 0) := by rw [← hU]; clear hU hgU hs0 hs1 hs2; go_simp
  have hf0 : U.cell? ⟨w.heap.size + 1 + 1, 0, none⟩ = some (.string ⟨#[102]⟩) := by rw [← hU]; clear hU hgU hs0 hs1 hs2 hs3; go_simp
  have hf1 : U.cell? ⟨w.heap.size + 1 + 1, 1, none⟩ = some (.slice (some ⟨w.heap.size + 1, 0, none⟩) 1 1) := by rw [← hU]; clear hU hgU hs0 hs1 hs2 hs3 hf0; go_simp
  have hf2 : U.cell? ⟨w.heap.size + 1 + 1, 2, none⟩ = some (.bool true) := by rw [← hU]; clear hU hgU hs0 hs1 hs2 hs3 hf0 hf1; go_simp
  have hf3 : U.cell? ⟨w.heap.size + 1, 0, none⟩ = some (.int .i64 0) := by rw [← hU]; clear hU hgU hs0 hs1 hs2 hs3 hf0 hf1 hf2; go_simp
  have hsz : U.heap.size = w.heap.size + 1 + 1 + 1 + 1 := by rw [← hU]; simp
  have HFA : Hid (Fields U (some ⟨w.heap.size + 1 + 1, 0, none⟩) 1 [fdA]) := Lib.hid (fields_one hf0 hf1 hf2 hf3 (Nat.le_refl _) (Nat.le_refl _))
  have HU := Lib.hid (And.intro hgU (And.intro (And.intro hs0 (And.intro hs1 (And.intro hs2 hs3))) hsz))
  have hT1 := trace4_calls U 2 0 1 0 1
  have HU0 := Lib.hid (And.intro hU hsz)
  clear hs0 hs1 hs2 hs3 hf0 hf1 hf2 hf3 hgU hU hsz
  go_enter Try.func16, Try.ntmps16
  go_wp2_with fail
  rw [HU0.out.1, ← HU0.out.2]
  clear HU0
  refine hT1.mono ?_
  clear hT1
  rintro e w1 ⟨ia, ca, ta, da, rfl, hca, g1⟩
  have HA := Lib.hid (And.intro hca ((World.grownBy_alloc U _ none).trans g1)); clear hca g1
  have hT2 := trace2_calls (w1.alloc (.cells #[.slice ia 1 ca, .int .i64 4, .slice ta 4 da, .int .i64 2] 33)) 0 0 1
  rw [World.size_alloc] at hT2
  have hba := four_cells w1 (.slice ia 1 ca) (.int .i64 4) (.slice ta 4 da) (.int .i64 2) 33
  have hga := World.grownBy_alloc w1 (.cells #[.slice ia 1 ca, .int .i64 4, .slice ta 4 da, .int .i64 2] 33) none
  go_wp2_with fail
  refine hT2.mono ?_
  clear hT2
  rintro e w2 ⟨ib, cb, tb, db, rfl, hcb, g2⟩
  have HA2 := Lib.hid (fun (W' : World) (g : w2.grownBy W' none) => by
    have g0 := ((World.grownBy_alloc (w1.alloc (.cells #[.slice ia 1 ca, .int .i64 4, .slice ta 4 da, .int .i64 2] 33)) (.cells #[.int .i64 0, .int .i64 1] 3) none).trans g2).trans g
    exact And.intro (⟨g0.cell hba.1 (by simp), g0.cell hba.2.1 (by simp), g0.cell hba.2.2.1 (by simp), g0.cell hba.2.2.2 (by simp)⟩ : Box W' w1.heap.size ia 1 ca 4 ta 4 da 2) (And.intro (HA.out.1.1.grown (hga.trans g0)) (HA.out.1.2.grown (hga.trans g0))))
  have HB := Lib.hid (And.intro hcb (HA.out.2.trans (hga.trans ((World.grownBy_alloc _ _ none).trans g2)))); clear hcb g2 hga hba
  have hT3 := trace3_calls (w2.alloc (.cells #[.slice ib 1 cb, .int .i64 2, .slice tb 2 db, .int .i64 0] 33)) 1 0 1 1
  rw [World.size_alloc] at hT3
  have hbb := four_cells w2 (.slice ib 1 cb) (.int .i64 2) (.slice tb 2 db) (.int .i64 0) 33
  have hgb := World.grownBy_alloc w2 (.cells #[.slice ib 1 cb, .int .i64 2, .slice tb 2 db, .int .i64 0] 33) none
  go_wp2_with fail
  refine hT3.mono ?_
  clear hT3
  rintro e w3 ⟨ic, cc, tc, dc, rfl, hcc, g3⟩
  have g23 := hgb.trans ((World.grownBy_alloc _ _ none).trans g3)
  have HA3 := Lib.hid (fun (W' : World) (g : w3.grownBy W' none) => HA2.out W' (g23.trans g))
  have HB3 := Lib.hid (fun (W' : World) (g : w3.grownBy W' none) => by
    have g0 := ((World.grownBy_alloc (w2.alloc (.cells #[.slice ib 1 cb, .int .i64 2, .slice tb 2 db, .int .i64 0] 33)) (.cells #[.int .i64 0, .int .i64 1, .int .i64 1] 3) none).trans g3).trans g
    exact And.intro (⟨g0.cell hbb.1 (by simp), g0.cell hbb.2.1 (by simp), g0.cell hbb.2.2.1 (by simp), g0.cell hbb.2.2.2 (by simp)⟩ : Box W' w2.heap.size ib 1 cb 2 tb 2 db 0) (And.intro (HB.out.1.1.grown (g23.trans g)) (HB.out.1.2.grown (g23.trans g))))
  have HC := Lib.hid (And.intro hcc (HB.out.2.trans g23)); clear hcc g3 g23 hgb hbb HA2
  have hgc := HC.out.2.trans (World.grownBy_alloc w3 (.cells #[.slice ic 1 cc, .int .i64 3, .slice tc 3 dc, .int .i64 1] 33) none)
  have s0 := hgc.cell HU.out.2.1.1 (by simp)
  have s1 := hgc.cell HU.out.2.1.2.1 (by simp)
  have s2 := hgc.cell HU.out.2.1.2.2.1 (by simp)
  have s3 := hgc.cell HU.out.2.1.2.2.2 (by simp)
  go_wp2_with fail
  clear s0 s1 s2 s3
  have hgV := (((World.grownBy_alloc w3 (.cells #[.slice ic 1 cc, .int .i64 3, .slice tc 3 dc, .int .i64 1] 33) none).trans (World.grownBy_alloc _ (.cells #[.slice (some ⟨w.heap.size, 0, none⟩) 1 1, .slice (some ⟨w3.heap.size + 1 + 1 + 1, 0, none⟩) 1 1, .slice none 0 0, .slice none 0 0] 27) none)).trans (World.grownBy_alloc _ (.cells #[.int .i64 0] 3) none)).trans (World.grownBy_alloc _ (.cells #[.string ⟨#[102]⟩, .slice (some ⟨w3.heap.size + 1 + 1, 0, none⟩) 1 1, .bool false] 51) none)
  obtain ⟨V, hV⟩ : ∃ V, (((w3.alloc (.cells #[.slice ic 1 cc, .int .i64 3, .slice tc 3 dc, .int .i64 1] 33)).alloc (.cells #[.slice (some ⟨w.heap.size, 0, none⟩) 1 1, .slice (some ⟨w3.heap.size + 1 + 1 + 1, 0, none⟩) 1 1, .slice none 0 0, .slice none 0 0] 27)).alloc (.cells #[.int .i64 0] 3)).alloc (.cells #[.string ⟨#[102]⟩, .slice (some ⟨w3.heap.size + 1 + 1, 0, none⟩) 1 1, .bool false] 51) = V := ⟨_, rfl⟩
  rw [hV] at hgV ⊢
  have HGV := Lib.hid hgV; clear hgV
  have hst := stage w3 (.slice ic 1 cc) (.int .i64 3) (.slice tc 3 dc) (.int .i64 1) (.slice (some ⟨w.heap.size, 0, none⟩) 1 1) (.slice (some ⟨w3.heap.size + 1 + 1 + 1, 0, none⟩) 1 1) (.slice none 0 0) (.slice none 0 0) (.int .i64 0) (.string ⟨#[102]⟩) (.slice (some ⟨w3.heap.size + 1 + 1, 0, none⟩) 1 1) (.bool false)
  rw [hV] at hst
  obtain ⟨c0, c1, c2, c3, s0, s1, s2, s3, f0, q0, q1, q2⟩ := hst
  clear hV
  obtain ⟨gc, hgc⟩ : ∃ gc, w3.heap.size = gc := ⟨_, rfl⟩
  rw [hgc] at c0 c1 c2 c3 s0 s1 s2 s3 f0 q0 q1 q2 ⊢
  clear hgc
  have HFB : Hid (Fields V (some ⟨gc + 1 + 1 + 1, 0, none⟩) 1 [fdB]) := Lib.hid (fields_one q0 q1 q2 f0 (Nat.le_refl _) (Nat.le_refl _))
  have HFV : Hid (Fields V (some ⟨w.heap.size + 1 + 1, 0, none⟩) 1 [fdA]) := Lib.hid (HFA.out.grown (HC.out.2.trans HGV.out))
  obtain ⟨⟨a0, a1, a2, a3⟩, hua, hta⟩ := HA3.out V HGV.out
  obtain ⟨⟨b0, b1, b2, b3⟩, hub, htb⟩ := HB3.out V HGV.out
  have huc := HC.out.1.1.grown HGV.out
  have htc := HC.out.1.2.grown HGV.out
  have gp := HC.out.2.trans HGV.out
  have p0 := gp.cell HU.out.2.1.1 (by simp)
  have p1 := gp.cell HU.out.2.1.2.1 (by simp)
  have p2 := gp.cell HU.out.2.1.2.2.1 (by simp)
  have p3 := gp.cell HU.out.2.1.2.2.2 (by simp)
  have HW := Lib.hid (HU.out.1.trans gp)
  clear gp f0 q0 q1 q2
  have HV1 := Lib.hid (fun (W' : World) (g : V.grownBy W' none) => headValid (s1 := some ⟨w.heap.size, 0, none⟩) (c1 := 1) (st := 4) (lp := 2) (k := 4) (B := true) (HFV.out.grown g) (hua.grown g) (hta.grown g) rfl (by decide) (by decide) (by decide) (by decide +kernel))
  have HV2 := Lib.hid (fun (W' : World) (g : V.grownBy W' none) => headValid (s1 := some ⟨w.heap.size, 0, none⟩) (c1 := 1) (st := 2) (lp := 0) (k := 2) (B := true) (HFV.out.grown g) (hub.grown g) (htb.grown g) rfl (by decide) (by decide) (by decide) (by decide +kernel))
  have HV5 := Lib.hid (fun (W' : World) (g : V.grownBy W' none) => headValid (s1 := some ⟨w.heap.size, 0, none⟩) (c1 := 1) (st := 2) (lp := 0) (k := 2) (B := false) (HFB.out.grown g) (hub.grown g) (htb.grown g) rfl (by decide) (by decide) (by decide) (by decide +kernel))
  have HV3 := Lib.hid (fun (x z : Option Addr) (y u : Nat) (W' : World) (g : V.grownBy W' none) (hx : Ints W' x y [3]) (hz : Sts W' z u [one1 0, one1 1, one1 0, one1 1]) => headValid (s1 := some ⟨w.heap.size, 0, none⟩) (c1 := 1) (st := 4) (lp := 4) (k := 4) (B := false) (HFV.out.grown g) hx hz rfl (by decide) (by decide) (by decide) (by decide +kernel))
  have HV4 := Lib.hid (fun (x z : Option Addr) (y u : Nat) (W' : World) (g : V.grownBy W' none) (hx : Ints W' x y [3]) (hz : Sts W' z u [one1 3]) => headValid (s1 := some ⟨w.heap.size, 0, none⟩) (c1 := 1) (st := 1) (lp := 0) (k := 1) (B := false) (HFV.out.grown g) hx hz rfl (by decide) (by decide) (by decide) (by decide +kernel))
  have HV6 := Lib.hid (fun (x z : Option Addr) (y u : Nat) (W' : World) (g : V.grownBy W' none) (hx : Ints W' x y [3]) (hz : Sts W' z u [one1 2, one1 2]) => headValid (s1 := some ⟨w.heap.size, 0, none⟩) (c1 := 1) (st := 2) (lp := 1) (k := 2) (B := true) (HFB.out.grown g) hx hz rfl (by decide) (by decide) (by decide) (by decide +kernel))
  have HS1 := Lib.hid (fun (W' : World) (g : V.grownBy W' none) => headSame (st := 4) (st' := 2) (lp := 2) (lp' := 0) (k := 4) (k' := 2) (B := true) (hua.grown g) (hub.grown g) (hta.grown g) (htb.grown g) rfl rfl (by decide) (by decide) (by decide) (by decide) (by decide +kernel))
  have HS2 := Lib.hid (fun (W' : World) (g : V.grownBy W' none) => headSame (st := 2) (st' := 3) (lp := 0) (lp' := 1) (k := 2) (k' := 3) (B := false) (hub.grown g) (huc.grown g) (htb.grown g) (htc.grown g) rfl rfl (by decide) (by decide) (by decide) (by decide) (by decide +kernel))
  have HE1 := Lib.hid (fun (W' : World) (g : V.grownBy W' none) => headEqual (st := 4) (st' := 2) (lp := 2) (lp' := 0) (k := 4) (k' := 2) (B := false) (hua.grown g) (hub.grown g) (hta.grown g) (htb.grown g) rfl rfl (by decide) (by decide) (by decide +kernel))
  have HE2 := Lib.hid (fun (x z : Option Addr) (y u : Nat) (W' : World) (g : V.grownBy W' none) (hx : Ints W' x y [3]) (hz : Sts W' z u [one1 0, one1 1]) => headEqual (st := 2) (st' := 2) (lp := 0) (lp' := 0) (k := 2) (k' := 2) (B := true) hx (hub.grown g) hz (htb.grown g) rfl rfl (by decide) (by decide) (by decide +kernel))
  have HE3 := Lib.hid (fun (x z x' z' : Option Addr) (y u y' u' : Nat) (W' : World) (hx : Ints W' x y [3]) (hx' : Ints W' x' y' [3]) (hz : Sts W' z u [one1 0, one1 1]) (hz' : Sts W' z' u' [one1 0, one1 1]) => headEqual (st := 2) (st' := 2) (lp := 1) (lp' := 1) (k := 2) (k' := 2) (B := true) hx hx' hz hz' rfl rfl (by decide) (by decide) (by decide +kernel))
  have HH1 := Lib.hid (fun (W' : World) (g : V.grownBy W' none) => headShorten (st := 4) (lp := 2) (lp' := 0) (p := 2) (q := 0) (N := 2) (k := 4) (k' := 2) (L' := [one1 0, one1 1]) (hua.grown g) (hta.grown g) rfl (by decide) (by decide) rfl (by decide) (by decide +kernel) rfl (by decide +kernel) (by decide +kernel) rfl)
  have HH2 := Lib.hid (fun (W' : World) (g : V.grownBy W' none) => headShorten (st := 3) (lp := 1) (lp' := 1) (p := 1) (q := 1) (N := 2) (k := 3) (k' := 2) (L' := [one1 0, one1 1]) (huc.grown g) (htc.grown g) rfl (by decide) (by decide) rfl (by decide) (by decide +kernel) rfl (by decide +kernel) (by decide +kernel) rfl)
  have HN1 := Lib.hid (fun (W' : World) => headNext (w := W') (ia := ia) (ca := ca) (ta := ta) (tc := da) (st := 4) (lp := 2) (k := 4) 3 2 (by decide) (by decide) (by decide) (by decide))
  have HN2 := Lib.hid (fun (W' : World) => headNext (w := W') (ia := ia) (ca := ca) (ta := ta) (tc := da) (st := 4) (lp := 2) (k := 4) 0 1 (by decide) (by decide) (by decide) (by decide))
  have HT1 := Lib.hid (fun (W' : World) (g : V.grownBy W' none) => headAt (ia := ia) (ca := ca) (st := 4) (lp := 2) (k := 4) 7 1 (hta.grown g) rfl (by decide) (by decide) (by decide) (by decide) (by decide +kernel))
  have HT2 := Lib.hid (fun (W' : World) => at_neg ia 1 ca 4 ta 4 da 2 (-1) W' (by decide))
  have HAT := Lib.hid (fun (W' : World) (g : V.grownBy W' none) => headAtoms (st := 4) (hua.grown g))
  clear hua hub huc hta htb htc
  simp only [List.append_eq, List.cons_append, List.nil_append]
  have hS : HeadS V (w.heap.size + 1 + 1 + 1) w1.heap.size w2.heap.size gc (gc + 1) (some ⟨w.heap.size, 0, none⟩) (some ⟨w.heap.size + 1 + 1, 0, none⟩) (some ⟨gc + 1 + 1 + 1, 0, none⟩) ia ta ib tb ic tc ca da cb db cc dc V.drew :=
    ⟨⟨rfl, rfl, rfl, Nat.le_refl _, fun _ _ _ => rfl⟩, p0, p1, p2, p3, a0, a1, a2, a3, b0, b1, b2, b3, c0, c1, c2, c3, s0, s1, s2, s3⟩
  refine wp_region_held_drew (by kernel_rfl) hS (fun hHeld => ?_)
  refine headAll' (fun _ _ d _ _ h => by cases d <;> exact h) HV1.out HV2.out HV3.out HV4.out HV5.out HV6.out HS1.out HS2.out HE1.out HH1.out HE2.out HH2.out HE3.out HN1.out HN2.out HT1.out HT2.out HAT.out ?_ _ _ _ _ _ _ _ _ _ _ _ _ _ _ _ _ _ _ _ _ _ _ _ _ _ _ _ _ _ _ _ _ _ _ _ _ _ _ _ _ _ _ _ _ _ _ _ _ _ _ _ _ _ _ _ _ _ _ _ _ _ _ _ _ _ _ _ _ _ _ _ _ _ _ _ _ _ _ _ _ _ _ _ _ _ _ _ _ _ _ _ _ _ _ _ _ _ _ _ _ _ _ _ _ _ _ _ _ _ _ _ _ _ _ _ _ _ hHeld
  clear hHeld hS
  intro t6 t7 t8 t9 t10 t11 t12 t13 t14 t15 t16 t17 t18 t19 t20 t21 t22 t23 t24 t25 t26 t27 t28 t29 t30 t31 t32 t33 t34 t35 t36 t37 t38 t39 t40 t41 t42 t43 t44 t45 t46 t47 t48 t49 t50 t51 t52 t53 t54 t55 t56 t57 t58 t59 t60 t61 t62 t63 t64 t65 t66 t67 t68 t69 t70 t71 t72 t73 t74 t75 t76 t77 t78 t79 t80 t81 t82 t83 t84 t85 t86 t87 t88 t89 t90 t91 t92 t93 t94 t95 t96 t97 t98 t99 t100 t101 t102 t103 t104 t105 t106 t107 t108 t109 t110 t111 t112 t113 t114 t115 t116 t117 t118 t119 t120 v26 hv
  have HEND := Lib.hid (HW.out.trans hv.1)
  clear hv
  go_wp2_with fail
  go_ret
  exact ⟨rfl, HEND.out⟩
end Go.Proofs.Ytbddpjofhddilaa
