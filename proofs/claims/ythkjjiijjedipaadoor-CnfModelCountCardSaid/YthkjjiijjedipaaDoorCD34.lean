/- Texts of the proof: M8. -/
import Derived.Test.YthkjjiijjedipaaDoorCD32
namespace Go.Proofs.YthkjjiijjedipaaDoor
open Go.RowKit

theorem info28 : (Tryd.prog.info? 28).map (fun i => (i.zero, i.size, i.bytes)) = some (some (.slice none 0 0), 1, 24) := by kernel_rfl
/-- A new row of integers, alone in its block. -/
theorem row_span (w : World) (zs : List Int) (n : Nat) (hn : zs.length = n) : Span w.heap.size (w.heap.size + 1) (w.alloc (.cells (intCells zs).toArray 3)) (fun W => IntsW W (some ⟨w.heap.size, 0, none⟩) n zs) := by
  refine ⟨by simp, fun W hW => ⟨by omega, .inr ⟨w.heap.size, 0, rfl, fun j z hj => ?_⟩⟩⟩
  rw [Nat.zero_add]
  have h1 := hW w.heap.size (Nat.le_refl _) (Nat.lt_succ_self _)
  rw [World.cell?_of_block (w := w.alloc (.cells (intCells zs).toArray 3)) h1, World.cell?_alloc_new]
  simp [intCells, hj]
theorem cell_three_new (w : World) (x y z : Value) (t : TypeId) : ∀ j u, [x, y, z][j]? = some u → (w.alloc (.cells #[x, y, z] t)).cell? ((⟨w.heap.size, 0, none⟩ : Addr).add j) = some u := by
  intro j u hu
  rw [add_at, World.cell?_alloc_new]
  match j, hu with
  | 0, hu => simpa using hu
  | 1, hu => simpa using hu
  | 2, hu => simpa using hu
theorem cell_one_new (w : World) (x : Value) (t : TypeId) : ∀ j u, [x][j]? = some u → (w.alloc (.cells #[x] t)).cell? ((⟨w.heap.size, 0, none⟩ : Addr).add j) = some u := by
  intro j u hu
  rw [add_at, World.cell?_alloc_new]
  match j, hu with
  | 0, hu => simpa using hu
theorem litV_bound {V : List Int} (hb : ∀ x ∈ V, -1000000 ≤ x ∧ x ≤ 1000000) (r : Int) : -1000000 ≤ litV' V r ∧ litV' V r ≤ 1000000 := by
  have h : ∀ q, -1000000 ≤ vget V q ∧ vget V q ≤ 1000000 := fun q => by
    unfold vget
    cases hz : V[q]? with
    | none => simp
    | some z => exact hb z (List.mem_of_getElem? hz)
  have h2 := h (r / 2).toNat
  unfold litV'
  split <;> omega

set_option maxRecDepth 100000 in
set_option maxHeartbeats 4000000 in
theorem emit_calls (T : TsB) (hT : T.Ok) (gs : List Gt) (wr : World) (k : Int) (V : List Int) (v : Value) (D : List Dc) (h : TsS T wr k V v D) (hA : GatesW T.W0 T.ga T.gc gs) (hn : gs.length = T.n) (hl : T.n ≤ 1000) (i : Nat) (g : Gt) (hg : gs[i]? = some g)
    (hga : 0 ≤ g.2.1 ∧ g.2.1 < 2 * (T.n : Int)) (hgb : 0 ≤ g.2.2 ∧ g.2.2 < 2 * (T.n : Int)) (hk : 0 ≤ k ∧ k ≤ 20000) (hb : ∀ x ∈ V.set i (k + 1), -1000000 ≤ x ∧ x ≤ 1000000) (hD : D.length ≤ 100000) :
    Calls Tryd.prog 30 #[.int .i64 (i : Int), .pointer (some ⟨T.pc, 0, none⟩), .pointer (some ⟨T.pf, 0, none⟩), .pointer (some ⟨T.pv, 0, none⟩), .pointer (some ⟨T.pl, 0, none⟩)] wr fun e w' => e = .returned (.tuple #[]) ∧
      ∃ v' D', TsS T w' (k + 1) (V.set i (k + 1)) v' (D ++ D') ∧ D'.map (·.1) = triN (k + 1) (litV' (V.set i (k + 1)) g.2.1) (litV' (V.set i (k + 1)) g.2.2) := by
  have hin : i < T.n := by rw [← hn]; exact (List.getElem?_eq_some_iff.1 hg).1
  have hiI : (i : Int) < (T.n : Int) := by omega
  have hi0 : (0 : Int) ≤ (i : Int) := by omega
  obtain ⟨ba, oa, hgae, x0, x1, x2⟩ := (hA.grown h.grow).at hg
  have c0 := h.c0
  rw [hgae] at c0
  have hgc := gate_cells wr g
  have hga2 := World.grownBy_alloc wr (.cells #[.int .i64 g.1, .int .i64 g.2.1, .int .i64 g.2.2] 58) none
  obtain ⟨wA, hwA⟩ : ∃ W, wr.alloc (.cells #[.int .i64 g.1, .int .i64 g.2.1, .int .i64 g.2.2] 58) = W := ⟨_, rfl⟩
  rw [hwA] at hgc hga2
  have HY := Lib.hid (show GateAt wA wr.heap.size 0 g from hgc)
  have hsA := h.grown hga2
  have HOK := Lib.hid hT
  have HBB : Hid (T.B ≤ wr.heap.size) := Lib.hid h.size
  have HA := Lib.hid hsA
  have HB := Lib.hid (hsA.vars hT (k + 1))
  have f0 := hsA.f0
  have ff := hsA.ff 0
  have hk1 : IntKind.i64.wrap (k + 1) = k + 1 := IntWalk.i64_in _ (by omega)
  have hk2 : IntKind.i64.wrap (-(k + 1)) = -(k + 1) := IntWalk.i64_in _ (by omega)
  have HK := Lib.hid (And.intro hga hgb)
  have HD := Lib.hid (And.intro hb hD)
  have HL := Lib.hid (And.intro hl hin)
  clear h hA hg hgae hgc hga2 hsA hga hgb hT hb hD hn
  go_enter Tryd.func30, Tryd.ntmps30
  go_upto_region 2 with fail
  clear x0 x1 x2 c0 f0 ff hwA
  have HYB : Hid (GateAt (wA.setCell ⟨T.pf, 0, none⟩ (.int .i64 (k + 1))) wr.heap.size 0 g) := Lib.hid (HY.out.moved (grown_set wA T.pf 0 (.int .i64 (k + 1))) (fun e => by injection e with e; have := HOK.out.o2; have := HOK.out.o3; have := HOK.out.o4; have := HOK.out.o5; have := HOK.out.o6; have := HBB.out; omega))
  obtain ⟨wB, hwB⟩ : ∃ z, wA.setCell ⟨T.pf, 0, none⟩ (.int .i64 (k + 1)) = z := ⟨_, rfl⟩
  rw [hwB] at HB HYB ⊢
  clear hwB
  have f1 := HB.out.f0
  have v1 := HB.out.v0
  obtain ⟨z0, hz0⟩ : ∃ z, V[i]? = some z := ⟨_, List.getElem?_eq_getElem (by rw [HB.out.len]; exact hin)⟩
  have a1 := HB.out.arr.cells i z0 hz0
  have a2 := HB.out.arr.fr i
  have HC := Lib.hid (HB.out.put HOK.out hin (k + 1))
  clear hz0
  go_upto_region 3 with fail
  clear f1 v1 a1 a2
  have HYC : Hid (GateAt (wB.setCell ⟨T.bv, i, none⟩ (.int .i64 (k + 1))) wr.heap.size 0 g) := Lib.hid (HYB.out.moved (grown_set wB T.bv i (.int .i64 (k + 1))) (fun e => by injection e with e; have := HOK.out.o3; have := HOK.out.o4; have := HOK.out.o5; have := HOK.out.o6; have := HBB.out; omega))
  obtain ⟨wC, hwC⟩ : ∃ z, wB.setCell ⟨T.bv, i, none⟩ (.int .i64 (k + 1)) = z := ⟨_, rfl⟩
  rw [hwC] at HC HYC ⊢
  clear hwC HB HYB HY HA
  obtain ⟨V', hV'⟩ : ∃ z, V.set i (k + 1) = z := ⟨_, rfl⟩
  rw [hV'] at HC HD
  have HV' := Lib.hid hV'
  clear hV'
  have l1 := HC.out.l0
  obtain ⟨y0, y1, y2⟩ := HYC.out
  have HLC : Hid (∀ (x : Int) (U : World), (x = g.2.1 ∨ x = g.2.2) → wC.grownBy U none → Calls Tryd.prog 29 #[.int .i64 x, .pointer (some ⟨T.pv, 0, none⟩)] U fun e w' => e = .returned (.int .i64 (litV' V' x)) ∧ w' = U) := Lib.hid (fun x U hx hU => by
    have hs := HC.out.grown hU
    exact literal_calls V' T.pv T.bv T.n x U hs.v0 hs.arr hs.len HL.out.1 (by rcases hx with rfl | rfl; exact HK.out.1; exact HK.out.2) HD.out.1)
  go_quiet (exact (HLC.out _ _ (by first | exact .inl rfl | exact .inr rfl) (grown_drewN _ _ _)).mono (fun _ _ h => ⟨h.1, _, h.2⟩))
  have HE := Lib.hid (HC.out.grown (grown_drewN wC nq none))
  obtain ⟨wD, hwD⟩ : ∃ z, wC.drewN nq = z := ⟨_, rfl⟩
  rw [hwD] at HE ⊢
  clear hwD l1 y0 y1 y2 HLC
  obtain ⟨la, hla⟩ : ∃ z, litV' V' g.2.1 = z := ⟨_, rfl⟩
  obtain ⟨lb, hlb⟩ : ∃ z, litV' V' g.2.2 = z := ⟨_, rfl⟩
  rw [hla, hlb]
  have hba := litV_bound HD.out.1 g.2.1
  have hbb := litV_bound HD.out.1 g.2.2
  rw [hla] at hba
  rw [hlb] at hbb
  have hna : IntKind.i64.wrap (-la) = -la := IntWalk.i64_in _ (by omega)
  have hnb : IntKind.i64.wrap (-lb) = -lb := IntWalk.i64_in _ (by omega)
  have HLL := Lib.hid (And.intro hla hlb)
  clear hla hlb hba hbb
  have p0 := HE.out.f0
  have p1 := HE.out.f1
  have s1 := row_span wD [-(k + 1), la] 2 rfl
  have g1 := World.grownBy_alloc wD (.cells (intCells [-(k + 1), la]).toArray 3) none
  obtain ⟨E1, e1⟩ : ∃ z, wD.alloc (.cells #[.int .i64 (-(k + 1)), .int .i64 la] 3) = z := ⟨_, rfl⟩
  rw [show wD.alloc (.cells (intCells [-(k + 1), la]).toArray 3) = E1 from e1] at s1 g1
  have s2 := row_span E1 [-(k + 1), lb] 2 rfl
  have g2 := World.grownBy_alloc E1 (.cells (intCells [-(k + 1), lb]).toArray 3) none
  obtain ⟨E2, e2⟩ : ∃ z, E1.alloc (.cells #[.int .i64 (-(k + 1)), .int .i64 lb] 3) = z := ⟨_, rfl⟩
  rw [show E1.alloc (.cells (intCells [-(k + 1), lb]).toArray 3) = E2 from e2] at s2 g2
  have s3 := row_span E2 [k + 1, -la, -lb] 3 rfl
  have g3 := World.grownBy_alloc E2 (.cells (intCells [k + 1, -la, -lb]).toArray 3) none
  obtain ⟨E3, e3⟩ : ∃ z, E2.alloc (.cells #[.int .i64 (k + 1), .int .i64 (-la), .int .i64 (-lb)] 3) = z := ⟨_, rfl⟩
  rw [show E2.alloc (.cells (intCells [k + 1, -la, -lb]).toArray 3) = E3 from e3] at s3 g3
  have hnew := cell_three_new E3 (.slice (some ⟨wD.heap.size, 0, none⟩) 2 2) (.slice (some ⟨E1.heap.size, 0, none⟩) 2 2) (.slice (some ⟨E2.heap.size, 0, none⟩) 3 3) 28
  have g4 := World.grownBy_alloc E3 (.cells #[.slice (some ⟨wD.heap.size, 0, none⟩) 2 2, .slice (some ⟨E1.heap.size, 0, none⟩) 2 2, .slice (some ⟨E2.heap.size, 0, none⟩) 3 3] 28) none
  obtain ⟨E4, e4⟩ : ∃ z, E3.alloc (.cells #[.slice (some ⟨wD.heap.size, 0, none⟩) 2 2, .slice (some ⟨E1.heap.size, 0, none⟩) 2 2, .slice (some ⟨E2.heap.size, 0, none⟩) 3 3] 28) = z := ⟨_, rfl⟩
  rw [e4] at hnew g4
  have HGG := Lib.hid (And.intro g1 (And.intro g2 (And.intro g3 g4)))
  have HSS := Lib.hid (And.intro s1 (And.intro s2 s3))
  have HNW := Lib.hid hnew
  have HGA : Hid (wD.grownBy E4 none) := Lib.hid (World.grownBy.trans g1 (World.grownBy.trans g2 (World.grownBy.trans g3 g4)))
  have p0a := g1.cell p0 (by simp)
  have p0b := g2.cell p0a (by simp)
  have HF4 := Lib.hid (HE.out.grown HGA.out)
  have HRW := Lib.hid (own_grown HE.out.row.own HGA.out)
  have HBE : Hid (T.B ≤ E4.heap.size ∧ T.B ≤ E3.heap.size) := Lib.hid ⟨HF4.out.size, by have := HE.out.size; have := g1.size; have := g2.size; have := g3.size; omega⟩
  obtain ⟨p, hp⟩ : ∃ p, D.length = p := ⟨_, rfl⟩
  obtain ⟨Dc0, hDc⟩ : ∃ z, D.flatMap clC = z := ⟨_, rfl⟩
  rw [hp, hDc] at HRW
  have HPD := Lib.hid (And.intro hp hDc)
  have hpl : p ≤ 100000 := by rw [← hp]; exact HD.out.2
  obtain ⟨i0, hi0, hz0, hz1, hz2⟩ := info_parts info28
  clear s1 s2 s3 g1 g2 g3 g4 hnew hp hDc
  go_wp2_with (at_builtin; refine wpList_append_own_at _ rfl _ _ 33 rfl T.B 28 i0 (.slice none 0 0) 1 24 Tryd.underlying33 hi0 hz0 hz1 hz2 rfl (by decide) v p Dc0 rfl HRW.out ⟨E3.heap.size, 0, none⟩ 3 3 [.slice (some ⟨wD.heap.size, 0, none⟩) 2 2, .slice (some ⟨E1.heap.size, 0, none⟩) 2 2, .slice (some ⟨E2.heap.size, 0, none⟩) 3 3] rfl rfl HNW.out (fun u hu => by simp at hu; rcases hu with rfl | rfl | rfl <;> rfl) (by unfold maxLen; omega) (by omega) HBE.out.1 ?_)
  intro v' w7 hown hgrow _ hat
  obtain ⟨rgA, rcA, rfl⟩ := own_shape hown
  have HP : Hid (TsS T (w7.setCell ⟨T.pf, 1, none⟩ (.slice rgA (p + 3) rcA)) (k + 1) V' (.slice rgA (p + 3) rcA) (D ++ [([-(k + 1), la], some ⟨wD.heap.size, 0, none⟩, 2), ([-(k + 1), lb], some ⟨E1.heap.size, 0, none⟩, 2), ([k + 1, -la, -lb], some ⟨E2.heap.size, 0, none⟩, 3)])) := Lib.hid (HE.out.push HOK.out HGA.out (fun d hd => by
    obtain ⟨g1, g2, g3, g4⟩ := HGG.out
    have h1 := g1.size; have h2 := g2.size
    simp only [List.mem_cons, List.not_mem_nil, or_false] at hd
    rcases hd with rfl | rfl | rfl
    · exact ⟨_, _, (HSS.out.1.grown (World.grownBy.trans g2 (World.grownBy.trans g3 g4))), Nat.le_refl _⟩
    · exact ⟨_, _, (HSS.out.2.1.grown (World.grownBy.trans g3 g4)), h1⟩
    · exact ⟨_, _, HSS.out.2.2.grown g4, Nat.le_trans h1 h2⟩) (by rw [HPD.out.1, HPD.out.2]; exact hown) hgrow hat)
  have hvB : some T.pf ≠ v.ownBlock := fun e => by have := (HE.out.row.own.lt T.pf e.symm).1; have := HOK.out.o2; have := HOK.out.o3; have := HOK.out.o4; have := HOK.out.o5; have := HOK.out.o6; omega
  have r1 := hgrow.cell HF4.out.f1 hvB
  have r2 : w7.frozen? ⟨T.pf, 1, none⟩ = false := (World.frozen?_of_block (a := ⟨T.pf, 1, none⟩) (hgrow.block T.pf (lies_lt HF4.out.f1) hvB)).trans (HF4.out.ff 1)
  clear hown hgrow hat p0 p1 p0a p0b e1 e2 e3 e4 hvB
  go_wp2_with fail
  go_end0
  exact ⟨rfl, _, _, by rw [HV'.out]; exact HP.out, by rw [HV'.out, HLL.out.1, HLL.out.2]; rfl⟩
end Go.Proofs.YthkjjiijjedipaaDoor
