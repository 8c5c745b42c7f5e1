/- Full: what holds between two ranks that it collects. -/
import Derived.Test.YtbddpjofhddilaaUS
import Derived.Maps.OwnIn
namespace Go.Proofs.Ytbddpjofhddilaa
open Go.RowKit Go.Shelf

abbrev intCells (l : List Int) : List Value := l.map fun (z : Int) => Value.int .i64 z
/-- The relation that is being made in block b; the result's cell is block r. -/
structure FuB (w wr : World) (b r B k : Nat) (s : List Int) : Prop where
  row : ∃ v, wr.cell? ⟨b, 1, none⟩ = some v ∧ wr.ownsRow B 3 1 v s.length (intCells s)
  c0 : wr.cell? ⟨b, 0, none⟩ = some (.int .i64 (k : Int))
  fr : wr.frozen? ⟨b, 1, none⟩ = false
  r0 : (wr.cell? ⟨r, 0, none⟩).isSome = true ∧ wr.frozen? ⟨r, 0, none⟩ = false
  r1 : (wr.cell? ⟨r, 1, none⟩).isSome = true ∧ wr.frozen? ⟨r, 1, none⟩ = false
  grown : w.grownBy wr none
  low : w.heap.size ≤ r ∧ r < b ∧ b < B ∧ B ≤ wr.heap.size
/-- The blocks that a round leaves alone. -/
def Alone (b : Nat) (W : World) (k : Nat) : Prop := k < W.heap.size ∧ k ≠ b ∧ ∃ v, W.cell? ⟨b, 1, none⟩ = some v ∧ v.ownBlock ≠ some k

theorem row_kept {w w' : World} {row : Option Nat} {B e size n : Nat} {v : Value} {xs : List Value} (h : w.ownsRow B e size v n xs) (hg : w.grownBy w' row) (hr : ∀ r, row = some r → ∃ o : Obj, w.heap[r]? = some o ∧ o.isCells = false) : w'.ownsRow B e size v n xs := by
  refine h.kept hg ?_
  rcases h.2 with ⟨rfl, _⟩ | ⟨g, cap, cur, rfl, _, hgb, _⟩
  · exact .inl rfl
  · refine .inr fun e' => ?_
    obtain ⟨o, ho, hc⟩ := hr g (by simpa [Value.ownBlock] using e'.symm)
    rw [hgb] at ho; cases ho; cases hc
theorem FuB.quiet {w A A' : World} {b r B k C : Nat} {s : List Int} (h : FuB w A b r B k s) (hC : w.heap.size ≤ C) (hq : Quiet C A A') : FuB w A' b r B k s := by
  obtain ⟨v, hv, hown⟩ := h.row
  have hc0 := hq.cell h.c0
  obtain ⟨u0, hu0⟩ := Option.isSome_iff_exists.1 h.r0.1
  obtain ⟨u1, hu1⟩ := Option.isSome_iff_exists.1 h.r1.1
  have h0 := hq.cell hu0
  have h1 := hq.cell hu1
  have hs := hq.size
  have hv' := hq.cell hv
  obtain ⟨row, hg, hr⟩ := hq
  refine ⟨⟨v, hv', row_kept hown hg (fun r e => (hr r e).2)⟩, hc0, (frozen_kept (a := ⟨b, 1, none⟩) hv hg (fun r e => (hr r e).2)).trans h.fr, ⟨by rw [h0]; rfl, (frozen_kept hu0 hg (fun r e => (hr r e).2)).trans h.r0.2⟩, ⟨by rw [h1]; rfl, (frozen_kept hu1 hg (fun r e => (hr r e).2)).trans h.r1.2⟩,
    grown_own h.grown hg (fun r e => Nat.le_trans hC (hr r e).1), h.low.1, h.low.2.1, h.low.2.2.1, Nat.le_trans h.low.2.2.2 hs⟩
theorem FuB.abide {w : World} {b r B k C : Nat} (hC : w.heap.size ≤ C) : Abide C (fun s W => FuB w W b r B k s) (Alone b) := by
  refine ⟨fun s A A' h hq => h.quiet hC hq, fun s A A' c h hq hs => ?_, fun s A A' c h hq h1 h2 => ?_⟩
  · obtain ⟨s1, s2, v, hv, hne⟩ := hs
    exact ⟨Nat.lt_of_lt_of_le s1 hq.size, s2, v, hq.cell hv, hne⟩
  · obtain ⟨v, hv, hown⟩ := h.row
    refine ⟨h2, fun e => ?_, v, hq.cell hv, fun e => ?_⟩
    · have := h.low; omega
    · have := (hown.lt c e).2; omega
theorem FuB.start (w : World) (k r : Nat) (W0 : World) (hg : w.grownBy W0 none) (hr : w.heap.size ≤ r ∧ r < W0.heap.size) (h0 : (W0.cell? ⟨r, 0, none⟩).isSome = true ∧ W0.frozen? ⟨r, 0, none⟩ = false) (h1 : (W0.cell? ⟨r, 1, none⟩).isSome = true ∧ W0.frozen? ⟨r, 1, none⟩ = false) :
    FuB w (W0.alloc (.cells #[.int .i64 (k : Int), .slice none 0 0] 53)) W0.heap.size r (W0.heap.size + 1) k [] := by
  have ga := World.grownBy_alloc W0 (.cells #[.int .i64 (k : Int), .slice none 0 0] 53) none
  obtain ⟨u0, hu0⟩ := Option.isSome_iff_exists.1 h0.1
  obtain ⟨u1, hu1⟩ := Option.isSome_iff_exists.1 h1.1
  refine ⟨⟨.slice none 0 0, by go_simp, World.ownsRow_nil _ _ _ _⟩, by go_simp, by go_simp, ⟨by rw [ga.cell hu0 (by simp)]; rfl, ?_⟩, ⟨by rw [ga.cell hu1 (by simp)]; rfl, ?_⟩, hg.trans ga, hr.1, hr.2, by omega, by simp⟩
  · exact (World.frozen?_of_block (a := ⟨r, 0, none⟩) (ga.block r hr.2 (by simp))).trans h0.2
  · exact (World.frozen?_of_block (a := ⟨r, 1, none⟩) (ga.block r hr.2 (by simp))).trans h1.2
theorem FuB.at_ {w wr w3 : World} {b r B k : Nat} {s : List Int} {v : Value} {o : Obj} (h : FuB w wr b r B k s) (hv : wr.cell? ⟨b, 1, none⟩ = some v) (hown : wr.ownsRow B 3 1 v s.length (intCells s)) (hg : (wr.alloc o).grownBy w3 v.ownBlock) :
    w3.cell? ⟨b, 1, none⟩ = some v ∧ w3.frozen? ⟨b, 1, none⟩ = false := by
  have hne : some b ≠ v.ownBlock := fun e => by have := (hown.lt b e.symm).1; have := h.low; omega
  have ha := World.grownBy_alloc wr o none
  have hlt := World.block_lt_of_cell? wr ⟨b, 1, none⟩ hv
  have e1 := ha.block b hlt (by simp)
  have e2 := hg.block b (Nat.lt_of_lt_of_le hlt ha.size) hne
  exact ⟨hg.cell (ha.cell hv (by simp)) hne, (World.frozen?_of_block (a := ⟨b, 1, none⟩) (e2.trans e1)).trans h.fr⟩
theorem FuB.step {w wr w3 : World} {b r B k : Nat} {s : List Int} {x : Int} {v v' : Value} {o : Obj} (h : FuB w wr b r B k s) (hv : wr.cell? ⟨b, 1, none⟩ = some v) (hown : wr.ownsRow B 3 1 v s.length (intCells s))
    (hg : (wr.alloc o).grownBy w3 v.ownBlock) (hown' : w3.ownsRow B 3 1 v' (s.length + 1) (intCells s ++ [.int .i64 x])) (hat : v'.ownBlock = v.ownBlock ∨ v'.ownBlock = some (wr.alloc o).heap.size) :
    FuB w (w3.setCell ⟨b, 1, none⟩ v') b r B k (s ++ [x]) ∧ Saved (Alone b) wr (w3.setCell ⟨b, 1, none⟩ v') := by
  have hlow := h.low
  have hne : ∀ j, j < B → some j ≠ v.ownBlock := fun j hj e => by have := (hown.lt j e.symm).1; omega
  have ha := World.grownBy_alloc wr o none
  have hcell : ∀ (j i : Nat) (u : Value), j < B → wr.cell? ⟨j, i, none⟩ = some u → w3.cell? ⟨j, i, none⟩ = some u := fun j i u hj hc => hg.cell (ha.cell hc (by simp)) (fun e => hne j hj e)
  have hblk : ∀ j, j < wr.heap.size → some j ≠ v.ownBlock → w3.heap[j]? = wr.heap[j]? := fun j hj e => (hg.block j (Nat.lt_of_lt_of_le hj ha.size) e).trans (ha.block j hj (by simp))
  have hfr : ∀ (j i : Nat), j < B → w3.frozen? ⟨j, i, none⟩ = wr.frozen? ⟨j, i, none⟩ := fun j i hj => World.frozen?_of_block (a := ⟨j, i, none⟩) (hblk j (by omega) (hne j hj))
  have hv3 := hcell b 1 v (by omega) hv
  have hset : (w3.setCell ⟨b, 1, none⟩ v').cell? ⟨b, 1, none⟩ = some v' := World.cell?_setCell_same' _ _ _ (by rw [hv3]; rfl)
  have hB : B ≤ w3.heap.size := by have h1 := ha.size; have h2 := hg.size; omega
  obtain ⟨u0, hu0⟩ := Option.isSome_iff_exists.1 h.r0.1
  obtain ⟨u1, hu1⟩ := Option.isSome_iff_exists.1 h.r1.1
  have hown2 : (w3.setCell ⟨b, 1, none⟩ v').ownsRow B 3 1 v' (s.length + 1) (intCells s ++ [.int .i64 x]) := hown'.kept (grown_set _ _ _ _) (own_ne hown' (by omega))
  refine ⟨⟨⟨v', hset, ?_⟩, ?_, ?_, ⟨?_, ?_⟩, ⟨?_, ?_⟩, ?_, hlow.1, hlow.2.1, hlow.2.2.1, by simpa [World.setCell] using hB⟩, ?_⟩
  · rw [List.length_append, intCells, List.map_append]; exact hown2
  · rw [World.cell?_setCell_other _ _ _ _ (by intro e; injection e with _ e1; omega)]; exact hcell b 0 _ (by omega) h.c0
  · rw [World.frozen?_setCell, hfr b 1 (by omega)]; exact h.fr
  · rw [World.cell?_setCell_other _ _ _ _ (by intro e; injection e with e1; omega), hcell r 0 u0 (by omega) hu0]; rfl
  · rw [World.frozen?_setCell, hfr r 0 (by omega)]; exact h.r0.2
  · rw [World.cell?_setCell_other _ _ _ _ (by intro e; injection e with e1; omega), hcell r 1 u1 (by omega) hu1]; rfl
  · rw [World.frozen?_setCell, hfr r 1 (by omega)]; exact h.r1.2
  · refine grown_own (grown_own (h.grown.trans ha) hg (fun j hj => ?_)) (grown_set _ _ _ _) (fun j hj => ?_)
    · have := (hown.lt j hj).1; omega
    · cases hj; omega
  · rintro j ⟨s1, s2, v0, hv0, hne0⟩
    rw [hv] at hv0
    injection hv0 with hv0
    subst hv0
    refine ⟨(Below.heap_setCell _ _ _ _ s2).trans (hblk j s1 (fun e => hne0 e.symm)), ?_, s2, v', hset, fun e => ?_⟩
    · have h1 := ha.size; have h2 := hg.size; simp [World.setCell]; omega
    · rcases hat with h1 | h1
      · exact hne0 (h1.symm.trans e)
      · rw [h1] at e; injection e with e; simp at e; omega
/-- A row of the call's own, as numbers that are read. -/
theorem own_ints {w : World} {B : Nat} {v : Value} {l : List Int} (h : w.ownsRow B 3 1 v l.length (intCells l)) : ∃ a c, v = .slice a l.length c ∧ Ints w a c l := by
  have hc := @World.ownsRow.cells w B 3 1 v l.length _ h
  rcases h.2 with ⟨hv, h0⟩ | ⟨g, cap, cur, rfl, hb, hg, hnc, hcm, _⟩
  · have hl : l = [] := List.eq_nil_of_length_eq_zero h0
    subst hl
    exact ⟨none, 0, hv, Nat.le_refl _, .inl ⟨rfl, rfl, rfl⟩⟩
  · refine ⟨_, _, rfl, hnc, .inr ⟨g, 0, rfl, (Array.getElem?_eq_some_iff.1 hg).1, fun j z hj => ?_⟩⟩
    have := hc (g := g) rfl j (.int .i64 z) (by rw [intCells, List.getElem?_map, hj]; rfl)
    have hadd : (⟨g, 0, none⟩ : Addr).add j = ⟨g, j, none⟩ := by unfold Addr.add; split <;> simp_all
    rw [hadd] at this
    rw [Nat.zero_add]; exact this
theorem digs_length {zs : List Nat} (hz : ∀ z ∈ zs, z ≤ 5) : ∀ (ss : List Nat) (x : Nat), (digs zs x ss).length ≤ 5 ^ ss.length
  | [], x => by simp [digs]
  | s :: ss, x => by
    have h5 : zs.getD s 0 ≤ 5 := by
      rw [List.getD_eq_getElem?_getD]
      cases h : zs[s]? with
      | none => simp
      | some z => exact hz z (List.mem_of_getElem? h)
    have h1 : ∀ m, ((List.range m).flatMap fun i => digs zs (x * sum zs + (sum (zs.take s) + i)) ss).length ≤ m * 5 ^ ss.length := by
      intro m
      induction m with
      | zero => simp
      | succ m ih =>
        rw [List.range_succ, List.flatMap_append, List.length_append, Nat.add_mul]
        have := digs_length hz ss (x * sum zs + (sum (zs.take s) + m))
        simp only [List.flatMap_cons, List.flatMap_nil, List.append_nil]
        omega
    have h2 := h1 (zs.getD s 0)
    have h3 : zs.getD s 0 * 5 ^ ss.length ≤ 5 * 5 ^ ss.length := Nat.mul_le_mul_right _ h5
    simp only [digs, List.length_cons, Nat.pow_succ]
    omega
end Go.Proofs.Ytbddpjofhddilaa
