/- A row of steps that is being made. -/
import Derived.Test.YtgeidnfigncepaaDoorD
namespace Go.Proofs.YtgeidnfigncepaaDoor
open Go.RowKit

theorem info3 : (Tryd.prog.info? 3).map (fun i => (i.zero, i.size, i.bytes)) = some (some (.int .i64 0), 1, 8) := by kernel_rfl
theorem info43 : (Tryd.prog.info? 43).map (fun i => (i.zero, i.size, i.bytes)) = some (some (.agg #[.int .i64 0, .slice none 0 0, .int .i64 0]), 3, 40) := by kernel_rfl
abbrev intCells (l : List Int) : List Value := l.map fun (z : Int) => Value.int .i64 z
/-- A step with the row of its literals. -/
abbrev Dt := St × Option Addr × Nat
def stepCells (d : Dt) : List Value := [.int .i64 d.1.1, .slice d.2.1 d.1.2.1.length d.2.2, .int .i64 d.1.2.2]
def rowCells (D : List Dt) : List Value := D.flatMap stepCells
theorem rowCells_snoc (D : List Dt) (d : Dt) : rowCells (D ++ [d]) = rowCells D ++ stepCells d := by simp [rowCells]
theorem rowCells_at : ∀ (D : List Dt) (j : Nat) (d : Dt), D[j]? = some d → ∀ t < 3, (rowCells D)[j * 3 + t]? = (stepCells d)[t]?
  | [], j, d, h, _, _ => by simp at h
  | e :: D, 0, d, h, t, ht => by
    simp at h; subst h
    show (stepCells e ++ rowCells D)[0 * 3 + t]? = _
    rw [List.getElem?_append_left (by simp [stepCells]; omega), Nat.zero_mul, Nat.zero_add]
  | e :: D, j + 1, d, h, t, ht => by
    show (stepCells e ++ rowCells D)[(j + 1) * 3 + t]? = _
    rw [List.getElem?_append_right (by simp [stepCells]; omega)]
    have := rowCells_at D j d (by simpa using h) t ht
    rw [← this]; congr 1; simp [stepCells]; omega
theorem add_at (g j : Nat) : (⟨g, 0, none⟩ : Addr).add j = ⟨g, j, none⟩ := by unfold Addr.add; split <;> simp_all
theorem cell_three_new (w : World) (x y z : Value) (t : TypeId) : ∀ j u, [x, y, z][j]? = some u → (w.alloc (.cells #[x, y, z] t)).cell? ((⟨w.heap.size, 0, none⟩ : Addr).add j) = some u := by
  intro j u hu
  rw [add_at, World.cell?_alloc_new]
  match j, hu with
  | 0, hu => simpa using hu
  | 1, hu => simpa using hu
  | 2, hu => simpa using hu
theorem own_ints {w : World} {B : Nat} {v : Value} {l : List Int} (h : w.ownsRow B 3 1 v l.length (intCells l)) : ∃ a c, v = .slice a l.length c ∧ Ints w a c l ∧ ∀ x, a = some x → B ≤ x.block ∧ x.block < w.heap.size := by
  have hc := @World.ownsRow.cells w B 3 1 v l.length _ h
  rcases h.2 with ⟨hv, h0⟩ | ⟨g, cap, cur, rfl, hb, hg, hnc, hcm, _⟩
  · have hl : l = [] := List.eq_nil_of_length_eq_zero h0
    subst hl
    exact ⟨none, 0, hv, ints_nil w, fun x hx => (by cases hx)⟩
  · refine ⟨_, _, rfl, ⟨hnc, fun j z hj => ⟨g, 0, rfl, ?_⟩⟩, fun x hx => by cases hx; exact ⟨hb, (Array.getElem?_eq_some_iff.1 hg).1⟩⟩
    have := hc (g := g) rfl j (.int .i64 z) (by rw [List.getElem?_map, hj]; rfl)
    rw [add_at] at this
    rw [Nat.zero_add]; exact this
theorem own_ne {w : World} {B b : Nat} {e : TypeId} {size n : Nat} {v : Value} {xs : List Value} (h : w.ownsRow B e size v n xs) (hb : b < B) : v.ownBlock = none ∨ v.ownBlock ≠ some b := by
  cases hv : v.ownBlock with
  | none => exact .inl rfl
  | some k => have := (h.lt k hv).1; exact .inr (by simp; omega)
theorem own_shape {w : World} {B n size : Nat} {e : TypeId} {v : Value} {xs : List Value} (h : w.ownsRow B e size v n xs) : ∃ a c, v = .slice a n c := by
  rcases h.2 with ⟨hv, h0⟩ | ⟨g, cap, cur, rfl, _⟩
  · exact ⟨none, 0, by rw [hv, h0]⟩
  · exact ⟨_, _, rfl⟩
theorem Ints.off {w w' : World} {a : Option Addr} {c : Nat} {zs : List Int} {r : Option Nat} (h : Ints w a c zs) (hg : w.grownBy w' r) (hr : ∀ x, a = some x → some x.block ≠ r) : Ints w' a c zs :=
  ⟨h.1, fun j z hj => by obtain ⟨b, o, ha, hc⟩ := h.2 j z hj; exact ⟨b, o, ha, hg.cell hc (show some b ≠ r from hr _ ha)⟩⟩

structure Out (w : World) (B : Nat) (v : Value) (D : List Dt) : Prop where
  own : w.ownsRow B 43 3 v D.length (rowCells D)
  ints : ∀ d ∈ D, Ints w d.2.1 d.2.2 d.1.2.1
  off : ∀ d ∈ D, ∀ a, d.2.1 = some a → v.ownBlock ≠ some a.block ∧ B ≤ a.block ∧ a.block < w.heap.size
theorem Out.start (w : World) (B : Nat) : Out w B (.slice none 0 0) [] := ⟨World.ownsRow_nil _ _ _ _, fun d hd => (by cases hd), fun d hd => (by cases hd)⟩
theorem Out.quiet {w w' : World} {B : Nat} {v : Value} {D : List Dt} {r : Option Nat} (h : Out w B v D) (hg : w.grownBy w' r) (hr : ∀ k, r = some k → k < B) : Out w' B v D := by
  refine ⟨h.own.kept hg ?_, fun d hd => (h.ints d hd).off hg (fun x hx e => ?_), fun d hd a ha => ?_⟩
  · cases r with
    | none => cases hv : v.ownBlock <;> simp
    | some k => exact own_ne h.own (hr k rfl)
  · have h1 := h.off d hd x hx
    have := hr _ e.symm
    omega
  · have h1 := h.off d hd a ha
    exact ⟨h1.1, h1.2.1, Nat.lt_of_lt_of_le h1.2.2 hg.size⟩
theorem Out.push {w w3 : World} {B : Nat} {v v' : Value} {D : List Dt} {x : St} {la : Option Addr} {lc : Nat} {o : Obj} (h : Out w B v D) (hi : Ints w la lc x.2.1)
    (ho : ∀ a, la = some a → v.ownBlock ≠ some a.block ∧ B ≤ a.block ∧ a.block < w.heap.size) (hown : w3.ownsRow B 43 3 v' (D.length + 1) (rowCells D ++ stepCells (x, la, lc)))
    (hg : (w.alloc o).grownBy w3 v.ownBlock) (hat : v'.ownBlock = v.ownBlock ∨ v'.ownBlock = some (w.alloc o).heap.size) : Out w3 B v' (D ++ [(x, la, lc)]) := by
  have ga := World.grownBy_alloc w o none
  have key : ∀ (y : St) (a' : Option Addr) (c' : Nat), Ints w a' c' y.2.1 → (∀ a, a' = some a → v.ownBlock ≠ some a.block ∧ B ≤ a.block ∧ a.block < w.heap.size) →
      Ints w3 a' c' y.2.1 ∧ ∀ a, a' = some a → v'.ownBlock ≠ some a.block ∧ B ≤ a.block ∧ a.block < w3.heap.size := by
    intro y a' c' hy hoff
    refine ⟨(hy.grown ga).off hg (fun z hz e => (hoff z hz).1 e.symm), fun z hz => ?_⟩
    have h1 := hoff z hz
    have h2 := ga.size
    have h3 := hg.size
    refine ⟨?_, h1.2.1, by omega⟩
    rcases hat with e | e
    · rw [e]; exact h1.1
    · rw [e]; intro e'; injection e' with e'; omega
  refine ⟨by rw [rowCells_snoc, List.length_append]; exact hown, fun d hd => ?_, fun d hd => ?_⟩
  · rw [List.mem_append, List.mem_singleton] at hd
    rcases hd with hd | rfl
    · exact (key d.1 d.2.1 d.2.2 (h.ints d hd) (h.off d hd)).1
    · exact (key x la lc hi ho).1
  · rw [List.mem_append, List.mem_singleton] at hd
    rcases hd with hd | rfl
    · exact (key d.1 d.2.1 d.2.2 (h.ints d hd) (h.off d hd)).2
    · exact (key x la lc hi ho).2
theorem Out.steps {w : World} {B : Nat} {v : Value} {D : List Dt} (h : Out w B v D) : ∃ a c, v = .slice a (D.map (·.1)).length c ∧ Steps w a c (D.map (·.1)) := by
  have hc := @World.ownsRow.cells w B 43 3 v D.length _ h.own
  rw [List.length_map]
  rcases h.own.2 with ⟨hv, h0⟩ | ⟨g, cap, cur, rfl, hb, hg, hnc, hcm, _⟩
  · have hl : D = [] := List.eq_nil_of_length_eq_zero h0
    subst hl
    exact ⟨none, 0, hv, Nat.le_refl _, fun j z hj => by simp at hj⟩
  · refine ⟨_, _, rfl, by rw [List.length_map]; exact hnc, fun j x hj => ⟨g, 0, rfl, ?_⟩⟩
    rw [List.getElem?_map] at hj
    cases hd : D[j]? with
    | none => rw [hd] at hj; cases hj
    | some d =>
      rw [hd] at hj
      cases hj
      have hat := rowCells_at D j d hd
      have hcell : ∀ t < 3, ∀ u, (stepCells d)[t]? = some u → w.cell? ⟨g, 0 + j * 3 + t, none⟩ = some u := by
        intro t ht u hu
        have := hc (g := g) rfl (j * 3 + t) u (by rw [hat t ht]; exact hu)
        rw [add_at] at this
        rw [Nat.zero_add]; exact this
      exact ⟨hcell 0 (by omega) _ rfl, ⟨d.2.1, d.2.2, hcell 1 (by omega) _ rfl, h.ints d (List.mem_of_getElem? hd)⟩, hcell 2 (by omega) _ rfl⟩
end Go.Proofs.YtgeidnfigncepaaDoor
