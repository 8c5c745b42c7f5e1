/- Texts of the proof: T4 M8 OG. -/
import Derived.Test.YthkjjiijjedipaaDoorCA12
import Derived.Test.YthkjjiijjedipaaDoorCA13
import Derived.Test.YthkjjiijjedipaaDoorCA00
import Derived.OrdersHeld
namespace Go.Proofs.YthkjjiijjedipaaDoor

/-- The literals of the first places below k. -/
def distGo (zs : List Int) : Nat → List Int
  | 0 => []
  | k + 1 => match zs[k]? with
    | some x => if ixOf zs x = some k then distGo zs k ++ [x] else distGo zs k
    | none => distGo zs k
def tautGo (zs : List Int) : Nat → Bool
  | 0 => false
  | k + 1 => match zs[k]? with
    | some x => tautGo zs k || (ixOf zs (-x)).isSome
    | none => tautGo zs k
def distP (zs : List Int) : List Int := distGo zs zs.length
def tautP (zs : List Int) : Bool := tautGo zs zs.length
def dropGo (l : List (List Int)) : Nat → List (List Int)
  | 0 => []
  | k + 1 => match l[k]? with
    | some z => if tautP z = true then dropGo l k else dropGo l k ++ [distP z]
    | none => dropGo l k
def dropP (l : List (List Int)) : List (List Int) := dropGo l l.length
def keepGo (l : List (List Int)) : Nat → List (List Int)
  | 0 => []
  | k + 1 => match l[k]? with
    | some z => if ixOf (l.map keyP) (keyP z) = some k then keepGo l k ++ [z] else keepGo l k
    | none => keepGo l k
def keepP (l : List (List Int)) : List (List Int) := keepGo l l.length
def simpP (l : List (List Int)) : List (List Int) := keepP (dropP l)
theorem dist_yes {zs : List Int} {k : Nat} {x : Int} (hx : zs[k]? = some x) (h : ixOf zs x = some k) : distGo zs (k + 1) = distGo zs k ++ [x] := by
  show (match zs[k]? with | some x => if ixOf zs x = some k then distGo zs k ++ [x] else distGo zs k | none => distGo zs k) = _
  rw [hx]; exact if_pos h
theorem dist_no {zs : List Int} {k : Nat} {x : Int} (hx : zs[k]? = some x) (h : ¬ ixOf zs x = some k) : distGo zs (k + 1) = distGo zs k := by
  show (match zs[k]? with | some x => if ixOf zs x = some k then distGo zs k ++ [x] else distGo zs k | none => distGo zs k) = _
  rw [hx]; exact if_neg h
theorem taut_step {zs : List Int} {k : Nat} {x : Int} (hx : zs[k]? = some x) : tautGo zs (k + 1) = (tautGo zs k || (ixOf zs (-x)).isSome) := by
  show (match zs[k]? with | some x => tautGo zs k || (ixOf zs (-x)).isSome | none => tautGo zs k) = _
  rw [hx]
theorem drop_yes {l : List (List Int)} {k : Nat} {z : List Int} (hz : l[k]? = some z) (h : tautP z = false) : dropGo l (k + 1) = dropGo l k ++ [distP z] := by
  show (match l[k]? with | some z => if tautP z = true then dropGo l k else dropGo l k ++ [distP z] | none => dropGo l k) = _
  rw [hz]; exact if_neg (by rw [h]; simp)
theorem drop_no {l : List (List Int)} {k : Nat} {z : List Int} (hz : l[k]? = some z) (h : tautP z = true) : dropGo l (k + 1) = dropGo l k := by
  show (match l[k]? with | some z => if tautP z = true then dropGo l k else dropGo l k ++ [distP z] | none => dropGo l k) = _
  rw [hz]; exact if_pos h
theorem keep_yes {l : List (List Int)} {k : Nat} {z : List Int} (hz : l[k]? = some z) (h : ixOf (l.map keyP) (keyP z) = some k) : keepGo l (k + 1) = keepGo l k ++ [z] := by
  show (match l[k]? with | some z => if ixOf (l.map keyP) (keyP z) = some k then keepGo l k ++ [z] else keepGo l k | none => keepGo l k) = _
  rw [hz]; exact if_pos h
theorem keep_no {l : List (List Int)} {k : Nat} {z : List Int} (hz : l[k]? = some z) (h : ¬ ixOf (l.map keyP) (keyP z) = some k) : keepGo l (k + 1) = keepGo l k := by
  show (match l[k]? with | some z => if ixOf (l.map keyP) (keyP z) = some k then keepGo l k ++ [z] else keepGo l k | none => keepGo l k) = _
  rw [hz]; exact if_neg h
theorem dist_len (zs : List Int) : ∀ k, (distGo zs k).length ≤ k
  | 0 => Nat.le_refl _
  | k + 1 => by
    have ih := dist_len zs k
    cases hx : zs[k]? with
    | none => show (match zs[k]? with | some x => if ixOf zs x = some k then distGo zs k ++ [x] else distGo zs k | none => distGo zs k).length ≤ _; rw [hx]; simp only; omega
    | some x =>
      by_cases h : ixOf zs x = some k
      · rw [dist_yes hx h, List.length_append]; simp only [List.length_cons, List.length_nil]; omega
      · rw [dist_no hx h]; omega
theorem mem_dist {zs : List Int} {x : Int} : ∀ {k : Nat}, k ≤ zs.length → (x ∈ distGo zs k ↔ ∃ i, i < k ∧ ixOf zs x = some i)
  | 0, _ => by simp [distGo]
  | k + 1, hk => by
    have ih := mem_dist (zs := zs) (x := x) (k := k) (by omega)
    obtain ⟨y, hy⟩ : ∃ y, zs[k]? = some y := ⟨_, List.getElem?_eq_getElem (by omega)⟩
    by_cases h : ixOf zs y = some k
    · rw [dist_yes hy h, List.mem_append, List.mem_singleton, ih]
      constructor
      · rintro (⟨i, h1, h2⟩ | rfl)
        · exact ⟨i, by omega, h2⟩
        · exact ⟨k, by omega, h⟩
      · rintro ⟨i, h1, h2⟩
        by_cases e : i = k
        · subst e
          have := (ix_some.1 h2).1
          rw [hy] at this
          cases this
          exact .inr rfl
        · exact .inl ⟨i, by omega, h2⟩
    · rw [dist_no hy h, ih]
      constructor
      · rintro ⟨i, h1, h2⟩; exact ⟨i, by omega, h2⟩
      · rintro ⟨i, h1, h2⟩
        by_cases e : i = k
        · subst e
          have := (ix_some.1 h2).1
          rw [hy] at this
          cases this
          exact absurd h2 h
        · exact ⟨i, by omega, h2⟩
theorem ix_of_mem {α : Type} [DecidableEq α] {zs : List α} {x : α} (h : x ∈ zs) : ∃ i, i < zs.length ∧ ixOf zs x = some i := by
  cases hx : ixOf zs x with
  | none => exact absurd h (ix_none.1 hx)
  | some i => exact ⟨i, (List.getElem?_eq_some_iff.1 (ix_some.1 hx).1).1, rfl⟩
theorem mem_distP {zs : List Int} {x : Int} : x ∈ distP zs ↔ x ∈ zs := by
  unfold distP
  rw [mem_dist (Nat.le_refl _)]
  constructor
  · rintro ⟨i, _, h⟩; exact List.mem_of_getElem? (ix_some.1 h).1
  · intro h; exact ix_of_mem h
theorem drop_len (l : List (List Int)) : ∀ k, (dropGo l k).length ≤ k
  | 0 => Nat.le_refl _
  | k + 1 => by
    have ih := drop_len l k
    cases hx : l[k]? with
    | none => show (match l[k]? with | some z => if tautP z = true then dropGo l k else dropGo l k ++ [distP z] | none => dropGo l k).length ≤ _; rw [hx]; simp only; omega
    | some z =>
      cases h : tautP z with
      | true => rw [drop_no hx h]; omega
      | false => rw [drop_yes hx h, List.length_append]; simp only [List.length_cons, List.length_nil]; omega
theorem mem_drop {l : List (List Int)} {c : List Int} : ∀ {k : Nat}, k ≤ l.length → (c ∈ dropGo l k ↔ ∃ i z, i < k ∧ l[i]? = some z ∧ tautP z = false ∧ c = distP z)
  | 0, _ => by simp [dropGo]
  | k + 1, hk => by
    have ih := mem_drop (l := l) (c := c) (k := k) (by omega)
    obtain ⟨y, hy⟩ : ∃ y, l[k]? = some y := ⟨_, List.getElem?_eq_getElem (by omega)⟩
    cases h : tautP y with
    | false =>
      rw [drop_yes hy h, List.mem_append, List.mem_singleton, ih]
      constructor
      · rintro (⟨i, z, h1, h2⟩ | rfl)
        · exact ⟨i, z, by omega, h2⟩
        · exact ⟨k, y, by omega, hy, h, rfl⟩
      · rintro ⟨i, z, h1, h2, h3, h4⟩
        by_cases e : i = k
        · subst e
          rw [hy] at h2
          cases h2
          exact .inr h4
        · exact .inl ⟨i, z, by omega, h2, h3, h4⟩
    | true =>
      rw [drop_no hy h, ih]
      constructor
      · rintro ⟨i, z, h1, h2⟩; exact ⟨i, z, by omega, h2⟩
      · rintro ⟨i, z, h1, h2, h3, h4⟩
        by_cases e : i = k
        · subst e
          rw [hy] at h2
          cases h2
          rw [h] at h3
          cases h3
        · exact ⟨i, z, by omega, h2, h3, h4⟩
theorem mem_dropP {l : List (List Int)} {c : List Int} : c ∈ dropP l ↔ ∃ z ∈ l, tautP z = false ∧ c = distP z := by
  unfold dropP
  rw [mem_drop (Nat.le_refl _)]
  constructor
  · rintro ⟨i, z, _, h2, h3, h4⟩; exact ⟨z, List.mem_of_getElem? h2, h3, h4⟩
  · rintro ⟨z, hz, h3, h4⟩
    obtain ⟨i, hi, e⟩ := List.getElem_of_mem hz
    exact ⟨i, z, hi, by rw [List.getElem?_eq_getElem hi, e], h3, h4⟩
end Go.Proofs.YthkjjiijjedipaaDoor

namespace Go.Proofs.YthkjjiijjedipaaDoor
open Go.RowKit

theorem info28 : (Tryd.prog.info? 28).map (fun i => (i.zero, i.size, i.bytes)) = some (some (.slice none 0 0), 1, 24) := by kernel_rfl
/-- A new row of integers, alone in its block. -/
theorem row_span (w : World) (zs : List Int) (n : Nat) (hn : zs.length = n) : Span w.heap.size (w.heap.size + 1) (w.alloc (.cells (intCells zs).toArray 3)) (fun W => IntsW W (some ⟨w.heap.size, 0, none⟩) n zs) := by
  refine ⟨by simp, fun W hW => ⟨by omega, .inr ⟨w.heap.size, 0, rfl, fun j z hj => ?_⟩⟩⟩
  rw [Nat.zero_add]
  have h1 := hW w.heap.size (Nat.le_refl _) (Nat.lt_succ_self _)
  rw [World.cell?_of_block (w := w.alloc (.cells (intCells zs).toArray 3)) h1, World.cell?_alloc_new]
  simp [intCells, hj]
theorem cell_three_new (w : World) (x y z : Value) (t : TypeId) : ∀ j u, [x, y, z][j]? = some u → (w.alloc (.cells #[x, y, z] t)).cell? ((⟨w.heap.size, 0, none⟩ : Addr).add j) = some u := by
  intro j u hu
  rw [add_at, World.cell?_alloc_new]
  match j, hu with
  | 0, hu => simpa using hu
  | 1, hu => simpa using hu
  | 2, hu => simpa using hu
theorem cell_one_new (w : World) (x : Value) (t : TypeId) : ∀ j u, [x][j]? = some u → (w.alloc (.cells #[x] t)).cell? ((⟨w.heap.size, 0, none⟩ : Addr).add j) = some u := by
  intro j u hu
  rw [add_at, World.cell?_alloc_new]
  match j, hu with
  | 0, hu => simpa using hu
theorem litV_bound {V : List Int} (hb : ∀ x ∈ V, -1000000 ≤ x ∧ x ≤ 1000000) (r : Int) : -1000000 ≤ litV' V r ∧ litV' V r ≤ 1000000 := by
  have h : ∀ q, -1000000 ≤ vget V q ∧ vget V q ≤ 1000000 := fun q => by
    unfold vget
    cases hz : V[q]? with
    | none => simp
    | some z => exact hb z (List.mem_of_getElem? hz)
  have h2 := h (r / 2).toNat
  unfold litV'
  split <;> omega

set_option maxRecDepth 100000 in
set_option maxHeartbeats 4000000 in
theorem emit_calls (T : TsB) (hT : T.Ok) (gs : List Gt) (wr : World) (k : Int) (V : List Int) (v : Value) (D : List Dc) (h : TsS T wr k V v D) (hA : GatesW T.W0 T.ga T.gc gs) (hn : gs.length = T.n) (hl : T.n ≤ 1000) (i : Nat) (g : Gt) (hg : gs[i]? = some g)
    (hga : 0 ≤ g.2.1 ∧ g.2.1 < 2 * (T.n : Int)) (hgb : 0 ≤ g.2.2 ∧ g.2.2 < 2 * (T.n : Int)) (hk : 0 ≤ k ∧ k ≤ 20000) (hb : ∀ x ∈ V.set i (k + 1), -1000000 ≤ x ∧ x ≤ 1000000) (hD : D.length ≤ 100000) :
    Calls Tryd.prog 30 #[.int .i64 (i : Int), .pointer (some ⟨T.pc, 0, none⟩), .pointer (some ⟨T.pf, 0, none⟩), .pointer (some ⟨T.pv, 0, none⟩), .pointer (some ⟨T.pl, 0, none⟩)] wr fun e w' => e = .returned (.tuple #[]) ∧
      ∃ v' D', TsS T w' (k + 1) (V.set i (k + 1)) v' (D ++ D') ∧ D'.map (·.1) = triN (k + 1) (litV' (V.set i (k + 1)) g.2.1) (litV' (V.set i (k + 1)) g.2.2) := by
  have hin : i < T.n := by rw [← hn]; exact (List.getElem?_eq_some_iff.1 hg).1
  have hiI : (i : Int) < (T.n : Int) := by omega
  have hi0 : (0 : Int) ≤ (i : Int) := by omega
  obtain ⟨ba, oa, hgae, x0, x1, x2⟩ := (hA.grown h.grow).at hg
  have c0 := h.c0
  rw [hgae] at c0
  have hgc := gate_cells wr g
  have hga2 := World.grownBy_alloc wr (.cells #[.int .i64 g.1, .int .i64 g.2.1, .int .i64 g.2.2] 58) none
  obtain ⟨wA, hwA⟩ : ∃ W, wr.alloc (.cells #[.int .i64 g.1, .int .i64 g.2.1, .int .i64 g.2.2] 58) = W := ⟨_, rfl⟩
  rw [hwA] at hgc hga2
  have HY := Lib.hid (show GateAt wA wr.heap.size 0 g from hgc)
  have hsA := h.grown hga2
  have HOK := Lib.hid hT
  have HBB : Hid (T.B ≤ wr.heap.size) := Lib.hid h.size
  have HA := Lib.hid hsA
  have HB := Lib.hid (hsA.vars hT (k + 1))
  have f0 := hsA.f0
  have ff := hsA.ff 0
  have hk1 : IntKind.i64.wrap (k + 1) = k + 1 := IntWalk.i64_in _ (by omega)
  have hk2 : IntKind.i64.wrap (-(k + 1)) = -(k + 1) := IntWalk.i64_in _ (by omega)
  have HK := Lib.hid (And.intro hga hgb)
  have HD := Lib.hid (And.intro hb hD)
  have HL := Lib.hid (And.intro hl hin)
  clear h hA hg hgae hgc hga2 hsA hga hgb hT hb hD hn
  go_enter Tryd.func30, Tryd.ntmps30
  go_upto_region 2 with fail
  clear x0 x1 x2 c0 f0 ff hwA
  have HYB : Hid (GateAt (wA.setCell ⟨T.pf, 0, none⟩ (.int .i64 (k + 1))) wr.heap.size 0 g) := Lib.hid (HY.out.moved (grown_set wA T.pf 0 (.int .i64 (k + 1))) (fun e => by injection e with e; have := HOK.out.o2; have := HOK.out.o3; have := HOK.out.o4; have := HOK.out.o5; have := HOK.out.o6; have := HBB.out; omega))
  obtain ⟨wB, hwB⟩ : ∃ z, wA.setCell ⟨T.pf, 0, none⟩ (.int .i64 (k + 1)) = z := ⟨_, rfl⟩
  rw [hwB] at HB HYB ⊢
  clear hwB
  have f1 := HB.out.f0
  have v1 := HB.out.v0
  obtain ⟨z0, hz0⟩ : ∃ z, V[i]? = some z := ⟨_, List.getElem?_eq_getElem (by rw [HB.out.len]; exact hin)⟩
  have a1 := HB.out.arr.cells i z0 hz0
  have a2 := HB.out.arr.fr i
  have HC := Lib.hid (HB.out.put HOK.out hin (k + 1))
  clear hz0
  go_upto_region 3 with fail
  clear f1 v1 a1 a2
  have HYC : Hid (GateAt (wB.setCell ⟨T.bv, i, none⟩ (.int .i64 (k + 1))) wr.heap.size 0 g) := Lib.hid (HYB.out.moved (grown_set wB T.bv i (.int .i64 (k + 1))) (fun e => by injection e with e; have := HOK.out.o3; have := HOK.out.o4; have := HOK.out.o5; have := HOK.out.o6; have := HBB.out; omega))
  obtain ⟨wC, hwC⟩ : ∃ z, wB.setCell ⟨T.bv, i, none⟩ (.int .i64 (k + 1)) = z := ⟨_, rfl⟩
  rw [hwC] at HC HYC ⊢
  clear hwC HB HYB HY HA
  obtain ⟨V', hV'⟩ : ∃ z, V.set i (k + 1) = z := ⟨_, rfl⟩
  rw [hV'] at HC HD
  have HV' := Lib.hid hV'
  clear hV'
  have l1 := HC.out.l0
  obtain ⟨y0, y1, y2⟩ := HYC.out
  have HLC : Hid (∀ (x : Int) (U : World), (x = g.2.1 ∨ x = g.2.2) → wC.grownBy U none → Calls Tryd.prog 29 #[.int .i64 x, .pointer (some ⟨T.pv, 0, none⟩)] U fun e w' => e = .returned (.int .i64 (litV' V' x)) ∧ w' = U) := Lib.hid (fun x U hx hU => by
    have hs := HC.out.grown hU
    exact literal_calls V' T.pv T.bv T.n x U hs.v0 hs.arr hs.len HL.out.1 (by rcases hx with rfl | rfl; exact HK.out.1; exact HK.out.2) HD.out.1)
  go_quiet (exact (HLC.out _ _ (by first | exact .inl rfl | exact .inr rfl) (grown_drewN _ _ _)).mono (fun _ _ h => ⟨h.1, _, h.2⟩))
  have HE := Lib.hid (HC.out.grown (grown_drewN wC nq none))
  obtain ⟨wD, hwD⟩ : ∃ z, wC.drewN nq = z := ⟨_, rfl⟩
  rw [hwD] at HE ⊢
  clear hwD l1 y0 y1 y2 HLC
  obtain ⟨la, hla⟩ : ∃ z, litV' V' g.2.1 = z := ⟨_, rfl⟩
  obtain ⟨lb, hlb⟩ : ∃ z, litV' V' g.2.2 = z := ⟨_, rfl⟩
  rw [hla, hlb]
  have hba := litV_bound HD.out.1 g.2.1
  have hbb := litV_bound HD.out.1 g.2.2
  rw [hla] at hba
  rw [hlb] at hbb
  have hna : IntKind.i64.wrap (-la) = -la := IntWalk.i64_in _ (by omega)
  have hnb : IntKind.i64.wrap (-lb) = -lb := IntWalk.i64_in _ (by omega)
  have HLL := Lib.hid (And.intro hla hlb)
  clear hla hlb hba hbb
  have p0 := HE.out.f0
  have p1 := HE.out.f1
  have s1 := row_span wD [-(k + 1), la] 2 rfl
  have g1 := World.grownBy_alloc wD (.cells (intCells [-(k + 1), la]).toArray 3) none
  obtain ⟨E1, e1⟩ : ∃ z, wD.alloc (.cells #[.int .i64 (-(k + 1)), .int .i64 la] 3) = z := ⟨_, rfl⟩
  rw [show wD.alloc (.cells (intCells [-(k + 1), la]).toArray 3) = E1 from e1] at s1 g1
  have s2 := row_span E1 [-(k + 1), lb] 2 rfl
  have g2 := World.grownBy_alloc E1 (.cells (intCells [-(k + 1), lb]).toArray 3) none
  obtain ⟨E2, e2⟩ : ∃ z, E1.alloc (.cells #[.int .i64 (-(k + 1)), .int .i64 lb] 3) = z := ⟨_, rfl⟩
  rw [show E1.alloc (.cells (intCells [-(k + 1), lb]).toArray 3) = E2 from e2] at s2 g2
  have s3 := row_span E2 [k + 1, -la, -lb] 3 rfl
  have g3 := World.grownBy_alloc E2 (.cells (intCells [k + 1, -la, -lb]).toArray 3) none
  obtain ⟨E3, e3⟩ : ∃ z, E2.alloc (.cells #[.int .i64 (k + 1), .int .i64 (-la), .int .i64 (-lb)] 3) = z := ⟨_, rfl⟩
  rw [show E2.alloc (.cells (intCells [k + 1, -la, -lb]).toArray 3) = E3 from e3] at s3 g3
  have hnew := cell_three_new E3 (.slice (some ⟨wD.heap.size, 0, none⟩) 2 2) (.slice (some ⟨E1.heap.size, 0, none⟩) 2 2) (.slice (some ⟨E2.heap.size, 0, none⟩) 3 3) 28
  have g4 := World.grownBy_alloc E3 (.cells #[.slice (some ⟨wD.heap.size, 0, none⟩) 2 2, .slice (some ⟨E1.heap.size, 0, none⟩) 2 2, .slice (some ⟨E2.heap.size, 0, none⟩) 3 3] 28) none
  obtain ⟨E4, e4⟩ : ∃ z, E3.alloc (.cells #[.slice (some ⟨wD.heap.size, 0, none⟩) 2 2, .slice (some ⟨E1.heap.size, 0, none⟩) 2 2, .slice (some ⟨E2.heap.size, 0, none⟩) 3 3] 28) = z := ⟨_, rfl⟩
  rw [e4] at hnew g4
  have HGG := Lib.hid (And.intro g1 (And.intro g2 (And.intro g3 g4)))
  have HSS := Lib.hid (And.intro s1 (And.intro s2 s3))
  have HNW := Lib.hid hnew
  have HGA : Hid (wD.grownBy E4 none) := Lib.hid (World.grownBy.trans g1 (World.grownBy.trans g2 (World.grownBy.trans g3 g4)))
  have p0a := g1.cell p0 (by simp)
  have p0b := g2.cell p0a (by simp)
  have HF4 := Lib.hid (HE.out.grown HGA.out)
  have HRW := Lib.hid (own_grown HE.out.row.own HGA.out)
  have HBE : Hid (T.B ≤ E4.heap.size ∧ T.B ≤ E3.heap.size) := Lib.hid ⟨HF4.out.size, by have := HE.out.size; have := g1.size; have := g2.size; have := g3.size; omega⟩
  obtain ⟨p, hp⟩ : ∃ p, D.length = p := ⟨_, rfl⟩
  obtain ⟨Dc0, hDc⟩ : ∃ z, D.flatMap clC = z := ⟨_, rfl⟩
  rw [hp, hDc] at HRW
  have HPD := Lib.hid (And.intro hp hDc)
  have hpl : p ≤ 100000 := by rw [← hp]; exact HD.out.2
  obtain ⟨i0, hi0, hz0, hz1, hz2⟩ := info_parts info28
  clear s1 s2 s3 g1 g2 g3 g4 hnew hp hDc
  go_wp2_with (at_builtin; refine wpList_append_own_at _ rfl _ _ 33 rfl T.B 28 i0 (.slice none 0 0) 1 24 Tryd.underlying33 hi0 hz0 hz1 hz2 rfl (by decide) v p Dc0 rfl HRW.out ⟨E3.heap.size, 0, none⟩ 3 3 [.slice (some ⟨wD.heap.size, 0, none⟩) 2 2, .slice (some ⟨E1.heap.size, 0, none⟩) 2 2, .slice (some ⟨E2.heap.size, 0, none⟩) 3 3] rfl rfl HNW.out (fun u hu => by simp at hu; rcases hu with rfl | rfl | rfl <;> rfl) (by unfold maxLen; omega) (by omega) HBE.out.1 ?_)
  intro v' w7 hown hgrow _ hat
  obtain ⟨rgA, rcA, rfl⟩ := own_shape hown
  have HP : Hid (TsS T (w7.setCell ⟨T.pf, 1, none⟩ (.slice rgA (p + 3) rcA)) (k + 1) V' (.slice rgA (p + 3) rcA) (D ++ [([-(k + 1), la], some ⟨wD.heap.size, 0, none⟩, 2), ([-(k + 1), lb], some ⟨E1.heap.size, 0, none⟩, 2), ([k + 1, -la, -lb], some ⟨E2.heap.size, 0, none⟩, 3)])) := Lib.hid (HE.out.push HOK.out HGA.out (fun d hd => by
    obtain ⟨g1, g2, g3, g4⟩ := HGG.out
    have h1 := g1.size; have h2 := g2.size
    simp only [List.mem_cons, List.not_mem_nil, or_false] at hd
    rcases hd with rfl | rfl | rfl
    · exact ⟨_, _, (HSS.out.1.grown (World.grownBy.trans g2 (World.grownBy.trans g3 g4))), Nat.le_refl _⟩
    · exact ⟨_, _, (HSS.out.2.1.grown (World.grownBy.trans g3 g4)), h1⟩
    · exact ⟨_, _, HSS.out.2.2.grown g4, Nat.le_trans h1 h2⟩) (by rw [HPD.out.1, HPD.out.2]; exact hown) hgrow hat)
  have hvB : some T.pf ≠ v.ownBlock := fun e => by have := (HE.out.row.own.lt T.pf e.symm).1; have := HOK.out.o2; have := HOK.out.o3; have := HOK.out.o4; have := HOK.out.o5; have := HOK.out.o6; omega
  have r1 := hgrow.cell HF4.out.f1 hvB
  have r2 : w7.frozen? ⟨T.pf, 1, none⟩ = false := (World.frozen?_of_block (a := ⟨T.pf, 1, none⟩) (hgrow.block T.pf (lies_lt HF4.out.f1) hvB)).trans (HF4.out.ff 1)
  clear hown hgrow hat p0 p1 p0a p0b e1 e2 e3 e4 hvB
  go_wp2_with fail
  go_end0
  exact ⟨rfl, _, _, by rw [HV'.out]; exact HP.out, by rw [HV'.out, HLL.out.1, HLL.out.2]; rfl⟩
end Go.Proofs.YthkjjiijjedipaaDoor

namespace Go.Proofs.YthkjjiijjedipaaDoor
open Go.RowKit

section
variable {P : Program} {ops : Array Oper} {Q : Exit → Act → World → Prop} {md : Region.Mode} {S T : World → Prop} {m : Nat}

/-- S holds behind every operation, T until m has come up. -/
def wpAnyG (P : Program) (md : Region.Mode) (ops : Array Oper) (Q : Exit → Act → World → Prop) (S T : World → Prop) (m : Nat) : Nat → Array Bool → Act → World → Prop
  | 0, listed, a, w => Region.ready md ops listed = [] ∧ Q .normal a w
  | fuel + 1, listed, a, w =>
    (Region.ready md ops listed = [] → Q .normal a w) ∧
    ∀ i ∈ Region.ready md ops listed, wpOp P ops Q i (fun a' w' => (S w' ∧ ((listed.setIfInBounds i true).getD m false = true ∨ T w')) ∧ wpAnyG P md ops Q S T m fuel (listed.setIfInBounds i true) a' w') a w
theorem wpAnyG_any : ∀ (fuel : Nat) (listed : Array Bool) (a : Act) (w : World), wpAnyG P md ops Q S T m fuel listed a w → wpAny P md ops Q fuel listed a w
  | 0, _, _, _, h => h
  | fuel + 1, _, _, _, h => ⟨h.1, fun i hi => wpOp_mono (fun a' w' h' => wpAnyG_any fuel _ a' w' h'.2) (h.2 i hi)⟩
/-- In state listed: T is still owed. -/
theorem setD_ne {listed : Array Bool} {i j : Nat} (d : Bool) (h : i ≠ j) : (listed.setIfInBounds i true).getD j d = listed.getD j d := getD_set_ne d h
/-- An operation that yields in every world that meets S and T may be taken first, if m waits for it. -/
theorem wpAnyG_firstT {i : Nat} {oi : Oper} {v : Value} (hi : ops[i]? = some oi) (hsel : ∀ (j : Nat) (o : Oper) cs b, ops[j]? = some o → o.op ≠ .select cs b)
    (hQ : ∀ c a w, Q (.panic c) (a.put oi.dst v) w → Q (.panic c) a w) {om : Oper} (hm : ops[m]? = some om) (hw : ∃ e ∈ om.after, Region.binds md e = true ∧ e.on = i) (hmi : m ≠ i) :
    ∀ (fuel : Nat) (listed : Array Bool) (a : Act) (w : World), listed.getD m true = false →
      (∀ j oj, ops[j]? = some oj → j ≠ i → listed.getD j true = false → (∀ e ∈ oj.after, Region.binds md e = true → e.on ≠ i) → oi.apart ops oj = true) →
      i ∈ Region.ready md ops listed → YieldsIf P ops (fun W => S W ∧ T W) oi v a → S w → T w →
      wpAnyG P md ops Q S T m fuel (listed.setIfInBounds i true) (a.put oi.dst v) w → wpAnyG P md ops Q S T m (fuel + 1) listed a w := by
  intro fuel
  induction fuel with
  | zero =>
    intro listed a w _ _ hr hy hS hT H
    refine ⟨fun h => (by rw [h] at hr; cases hr), fun j hj => ?_⟩
    rcases Classical.em (j = i) with e | e
    · rw [e]; exact hy.wpOp hi ⟨hS, hT⟩ ⟨⟨hS, .inr hT⟩, H⟩
    · exact absurd (ready_mono hj e) (by rw [H.1]; simp)
  | succ n ih =>
    intro listed a w hml hfree hr hy hS hT H
    refine ⟨fun h => (by rw [h] at hr; cases hr), fun j hj => ?_⟩
    rcases Classical.em (j = i) with e | hji
    · rw [e]; exact hy.wpOp hi ⟨hS, hT⟩ ⟨⟨hS, .inr hT⟩, H⟩
    · have hip := (mem_ready.1 hr).1
      have pend : listed.getD i false ≠ true := fun h1 => by
        rcases Nat.lt_or_ge i listed.size with h' | h'
        · simp [h'] at hip h1; rw [hip] at h1; cases h1
        · simp [Array.getElem?_eq_none h'] at h1
      obtain ⟨hjl, oj, hoj, hall⟩ := mem_ready.1 hj
      have hno : ∀ e ∈ oj.after, Region.binds md e = true → e.on ≠ i := fun e he hb hq => pend (by rw [← hq]; exact hall e he hb)
      have hjm : j ≠ m := fun hq => by
        subst hq
        rw [hm] at hoj
        cases hoj
        obtain ⟨e, he, hb, hq⟩ := hw
        exact hno e he hb hq
      have hml' : (listed.setIfInBounds j true).getD m true = false := by rw [setD_ne true hjm]; exact hml
      have step := wpOp_putIf hoj (hfree j oj hoj hji hjl hno) (fun cs b => hsel i oi cs b hi) (fun cs b => hsel j oj cs b hoj) hQ hy (H.2 j (ready_mono hj hji))
      refine wpOp_mono (fun a' w' h3 => ?_) step
      obtain ⟨hy', ⟨hS', hT'⟩, hK⟩ := h3
      have hT2 : T w' := hT'.resolve_left (fun h => by
        rw [setD_ne false hjm, setD_ne false (Ne.symm hmi)] at h
        have hms : m < listed.size := by
          rcases Nat.lt_or_ge m listed.size with h' | h'
          · exact h'
          · simp [Array.getElem?_eq_none h'] at hml
        simp [hms] at h hml
        rw [h] at hml
        cases hml)
      refine ⟨⟨hS', .inr hT2⟩, ih _ a' w' hml' (fun k ok hk hki hun hn => hfree k ok hk hki ?_ hn) (ready_mono hr (Ne.symm hji)) hy' hS' hT2 (by rw [Array.setIfInBounds_comm _ _ hji]; exact hK)⟩
      rcases Classical.em (j = k) with e | e
      · rw [← e]; exact hjl
      · rw [setD_ne true e] at hun; exact hun
/-- An operation that yields in every world that meets S may be taken first. -/
theorem wpAnyG_firstS {i : Nat} {oi : Oper} {v : Value} (hi : ops[i]? = some oi) (hsel : ∀ (j : Nat) (o : Oper) cs b, ops[j]? = some o → o.op ≠ .select cs b)
    (hQ : ∀ c a w, Q (.panic c) (a.put oi.dst v) w → Q (.panic c) a w) (him : i ≠ m) :
    ∀ (fuel : Nat) (listed : Array Bool) (a : Act) (w : World),
      (∀ j oj, ops[j]? = some oj → j ≠ i → listed.getD j true = false → (∀ e ∈ oj.after, Region.binds md e = true → e.on ≠ i) → oi.apart ops oj = true) →
      i ∈ Region.ready md ops listed → YieldsIf P ops S oi v a → S w → (listed.getD m false = true ∨ T w) →
      wpAnyG P md ops Q S T m fuel (listed.setIfInBounds i true) (a.put oi.dst v) w → wpAnyG P md ops Q S T m (fuel + 1) listed a w := by
  intro fuel
  induction fuel with
  | zero =>
    intro listed a w _ hr hy hS hT H
    refine ⟨fun h => (by rw [h] at hr; cases hr), fun j hj => ?_⟩
    rcases Classical.em (j = i) with e | e
    · rw [e]; exact hy.wpOp hi hS ⟨⟨hS, by rw [setD_ne false him]; exact hT⟩, H⟩
    · exact absurd (ready_mono hj e) (by rw [H.1]; simp)
  | succ n ih =>
    intro listed a w hfree hr hy hS hT H
    refine ⟨fun h => (by rw [h] at hr; cases hr), fun j hj => ?_⟩
    rcases Classical.em (j = i) with e | hji
    · rw [e]; exact hy.wpOp hi hS ⟨⟨hS, by rw [setD_ne false him]; exact hT⟩, H⟩
    · have hip := (mem_ready.1 hr).1
      have pend : listed.getD i false ≠ true := fun h1 => by
        rcases Nat.lt_or_ge i listed.size with h' | h'
        · simp [h'] at hip h1; rw [hip] at h1; cases h1
        · simp [Array.getElem?_eq_none h'] at h1
      obtain ⟨hjl, oj, hoj, hall⟩ := mem_ready.1 hj
      have hno : ∀ e ∈ oj.after, Region.binds md e = true → e.on ≠ i := fun e he hb hq => pend (by rw [← hq]; exact hall e he hb)
      have step := wpOp_putIf hoj (hfree j oj hoj hji hjl hno) (fun cs b => hsel i oi cs b hi) (fun cs b => hsel j oj cs b hoj) hQ hy (H.2 j (ready_mono hj hji))
      refine wpOp_mono (fun a' w' h3 => ?_) step
      obtain ⟨hy', ⟨hS', hT'⟩, hK⟩ := h3
      rw [Array.setIfInBounds_comm _ _ (Ne.symm hji), setD_ne false him] at hT'
      refine ⟨⟨hS', hT'⟩, ih _ a' w' (fun k ok hk hki hun hn => hfree k ok hk hki ?_ hn) (ready_mono hr (Ne.symm hji)) hy' hS' hT' (by rw [Array.setIfInBounds_comm _ _ hji]; exact hK)⟩
      rcases Classical.em (j = k) with e | e
      · rw [← e]; exact hjl
      · rw [setD_ne true e] at hun; exact hun
theorem wpAnyG_take {i : Nat} {oi : Oper} {v : Value} {fuel : Nat} {listed : Array Bool} {a : Act} {w : World} (hi : ops[i]? = some oi) (him : i ≠ m)
    (hs : Region.noSelect ops = true) (hf : Region.free md ops listed i = true) (hr : (Region.ready md ops listed).contains i = true)
    (hQ : ∀ c a w, Q (.panic c) (a.put oi.dst v) w → Q (.panic c) a w) (hy : YieldsIf P ops S oi v a) (hS : S w ∧ (listed.getD m false = true ∨ T w))
    (h : wpAnyG P md ops Q S T m fuel (listed.setIfInBounds i true) (a.put oi.dst v) w) : wpAnyG P md ops Q S T m (fuel + 1) listed a w :=
  wpAnyG_firstS hi (Region.noSelect_spec hs) hQ him fuel listed a w (Region.free_spec hi hf) (by simpa using hr) hy hS.1 hS.2 h
theorem wpAnyG_takeT {i : Nat} {oi : Oper} {v : Value} {fuel : Nat} {listed : Array Bool} {a : Act} {w : World} (hi : ops[i]? = some oi) {om : Oper} (hm : ops[m]? = some om) (hw : (om.after.any fun e => Region.binds md e && e.on == i) = true) (hmi : m ≠ i) (hml : listed.getD m true = false)
    (hs : Region.noSelect ops = true) (hf : Region.free md ops listed i = true) (hr : (Region.ready md ops listed).contains i = true)
    (hQ : ∀ c a w, Q (.panic c) (a.put oi.dst v) w → Q (.panic c) a w) (hy : YieldsIf P ops (fun W => S W ∧ T W) oi v a) (hS : S w ∧ (listed.getD m false = true ∨ T w))
    (h : wpAnyG P md ops Q S T m fuel (listed.setIfInBounds i true) (a.put oi.dst v) w) : wpAnyG P md ops Q S T m (fuel + 1) listed a w := by
  refine wpAnyG_firstT hi (Region.noSelect_spec hs) hQ hm ?_ hmi fuel listed a w hml (Region.free_spec hi hf) (by simpa using hr) hy hS.1 (hS.2.resolve_left fun h => ?_) h
  · obtain ⟨e, he, hb⟩ := Array.any_eq_true'.1 hw
    simp only [Bool.and_eq_true, beq_iff_eq] at hb
    exact ⟨e, he, hb.1, hb.2⟩
  · have hms : m < listed.size := by
      rcases Nat.lt_or_ge m listed.size with h' | h'
      · exact h'
      · simp [Array.getElem?_eq_none h'] at hml
    simp [hms] at h hml
    rw [h] at hml
    cases hml
def AllReadyG (P : Program) (md : Region.Mode) (ops : Array Oper) (Q : Exit → Act → World → Prop) (S T : World → Prop) (m : Nat) (fuel : Nat) (listed : Array Bool) (a : Act) (w : World) (rs : List Nat) : Prop :=
  ∀ i ∈ rs, wpOp P ops Q i (fun a' w' => (S w' ∧ ((listed.setIfInBounds i true).getD m false = true ∨ T w')) ∧ wpAnyG P md ops Q S T m fuel (listed.setIfInBounds i true) a' w') a w
theorem AllReadyG.nil {fuel : Nat} {listed : Array Bool} {a : Act} {w : World} : AllReadyG P md ops Q S T m fuel listed a w [] := fun _ h => by cases h
/-- What is owed behind an operation. -/
theorem AllReadyG.cons {fuel : Nat} {listed : Array Bool} {a : Act} {w : World} {i : Nat} {o : Oper} {rs : List Nat} (ho : ops[i]? = some o)
    (h : ∀ K' : Act → World → Prop, Shut (∀ a w, (S w ∧ ((listed.setIfInBounds i true).getD m false = true ∨ T w)) → ((S w ∧ ((listed.setIfInBounds i true).getD m false = true ∨ T w)) → wpAnyG P md ops Q S T m fuel (listed.setIfInBounds i true) a w) → K' a w) → if Region.wanted o (yielded ops a.tmps) = true then Oper.wp P o a w K' Q else K' (a.put o.dst undef) w)
    (hs : AllReadyG P md ops Q S T m fuel listed a w rs) : AllReadyG P md ops Q S T m fuel listed a w (i :: rs) := fun j hj => by
  cases List.mem_cons.1 hj with
  | inl e => subst e; exact wpOp_step ho (fun K' hK => h K' (fun a w hS hW => hK a w ⟨hS, hW hS⟩))
  | inr e => exact hs j e
theorem wpAnyG_ready {rs : List Nat} {fuel : Nat} {listed : Array Bool} {a : Act} {w : World} (hr : Region.ready md ops listed = rs) (hne : rs ≠ [])
    (h : AllReadyG P md ops Q S T m fuel listed a w rs) : wpAnyG P md ops Q S T m (fuel + 1) listed a w := ⟨fun h0 => absurd (hr ▸ h0) hne, hr ▸ h⟩
theorem wpAnyG_done {listed : Array Bool} {a : Act} {w : World} (hr : Region.ready md ops listed = []) (h : Q .normal a w) : ∀ fuel, wpAnyG P md ops Q S T m fuel listed a w
  | 0 => ⟨hr, h⟩
  | _ + 1 => ⟨fun _ => h, by rw [hr]; simp⟩
theorem wp_region_gone_drew {id : Nat} {a : Act} {w : World} (hmo : P.follows .mixedOrders = true) (hS : S w.drew ∧ T w.drew)
    (h : (S w.drew ∧ ((Array.replicate ops.size false).getD m false = true ∨ T w.drew)) → wpAnyG P .any ops Q S T m ops.size (Array.replicate ops.size false) a w.drew) : (Code.region id ops true).wp P Q a w :=
  wp_region_any hmo (wpAnyG_any _ _ _ _ (h ⟨hS.1, .inr hS.2⟩))
end
end Go.Proofs.YthkjjiijjedipaaDoor
