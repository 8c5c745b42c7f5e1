/- What lies in a span of blocks; a row that is being made, of elements that lie in spans. -/
import Derived.Test.YtbddpjofhddilaaRC
import Derived.Test.YtbddpjofhddilaaUU
import Derived.Laws.AppendOwn
namespace Go.Proofs.Ytbddpjofhddilaa
open Go.RowKit

/-- P holds of whatever world has the blocks from lo up to hi as they lie in w. -/
def Span (lo hi : Nat) (w : World) (P : World → Prop) : Prop := hi ≤ w.heap.size ∧ ∀ W : World, (∀ b, lo ≤ b → b < hi → W.heap[b]? = w.heap[b]?) → P W
theorem Span.here {lo hi : Nat} {w : World} {P : World → Prop} (h : Span lo hi w P) : P w := h.2 w fun _ _ _ => rfl
theorem Span.off {lo hi : Nat} {w w' : World} {P : World → Prop} {r : Option Nat} (h : Span lo hi w P) (hg : w.grownBy w' r) (hr : ∀ x, r = some x → x < lo ∨ hi ≤ x) : Span lo hi w' P := by
  refine ⟨Nat.le_trans h.1 hg.size, fun W hW => h.2 W fun b hl hh => ?_⟩
  rw [hW b hl hh]
  refine hg.block b (Nat.lt_of_lt_of_le hh h.1) fun e => ?_
  have := hr b e.symm
  omega
theorem Span.grown {lo hi : Nat} {w w' : World} {P : World → Prop} (h : Span lo hi w P) (hg : w.grownBy w' none) : Span lo hi w' P := h.off hg fun _ e => by cases e
theorem Span.wide {lo hi lo' hi' : Nat} {w : World} {P : World → Prop} (h : Span lo hi w P) (hl : lo' ≤ lo) (hh : hi ≤ hi') (hs : hi' ≤ w.heap.size) : Span lo' hi' w P :=
  ⟨hs, fun W hW => h.2 W fun b h1 h2 => hW b (by omega) (by omega)⟩
theorem Span.map {lo hi : Nat} {w : World} {P Q : World → Prop} (h : Span lo hi w P) (f : ∀ W, P W → Q W) : Span lo hi w Q := ⟨h.1, fun W hW => f W (h.2 W hW)⟩
theorem add_at (g j : Nat) : (⟨g, 0, none⟩ : Addr).add j = ⟨g, j, none⟩ := by unfold Addr.add; split <;> simp_all
theorem size_of_heap {w W : World} {b : Nat} (h : W.heap[b]? = w.heap[b]?) (hb : b < w.heap.size) : b < W.heap.size := by
  rw [Array.getElem?_eq_getElem hb] at h
  exact (Array.getElem?_eq_some_iff.1 h).1
theorem ints_span {w : World} {B : Nat} {v : Value} {l : List Int} (h : w.ownsRow B 3 1 v l.length (intCells l)) : ∃ a c, v = .slice a l.length c ∧ Span B w.heap.size w (fun W => Ints W a c l) := by
  have hc := @World.ownsRow.cells w B 3 1 v l.length _ h
  rcases h.2 with ⟨hv, h0⟩ | ⟨g, cap, cur, rfl, hb, hg, hnc, hcm, _⟩
  · have hl : l = [] := List.eq_nil_of_length_eq_zero h0
    subst hl
    exact ⟨none, 0, hv, Nat.le_refl _, fun W _ => ints_nil W⟩
  · have hlt := (Array.getElem?_eq_some_iff.1 hg).1
    refine ⟨_, _, rfl, Nat.le_refl _, fun W hW => ⟨hnc, .inr ⟨g, 0, rfl, size_of_heap (hW g hb hlt) hlt, fun j z hj => ?_⟩⟩⟩
    have := hc (g := g) rfl j (.int .i64 z) (by rw [intCells, List.getElem?_map, hj]; rfl)
    rw [add_at] at this
    rw [Nat.zero_add, World.cell?_of_block (hW g hb hlt)]; exact this

section
variable {δ : Type}
/-- A row that is being made: its own block, and the spans of its elements. -/
structure Out (cs : δ → List Value) (k : Nat) (P : δ → World → Prop) (w : World) (B : Nat) (e : TypeId) (v : Value) (D : List δ) : Prop where
  own : w.ownsRow B e k v D.length (D.flatMap cs)
  el : ∀ d ∈ D, ∃ lo hi, Span lo hi w (P d) ∧ B ≤ lo ∧ ∀ x, v.ownBlock = some x → x < lo ∨ hi ≤ x
variable {cs : δ → List Value} {k : Nat} {P : δ → World → Prop}
theorem Out.start (w : World) (B : Nat) (e : TypeId) : Out cs k P w B e (.slice none 0 0) [] := ⟨World.ownsRow_nil _ _ _ _, fun d hd => (by cases hd)⟩
theorem Out.quiet {w w' : World} {B : Nat} {e : TypeId} {v : Value} {D : List δ} {r : Option Nat} (h : Out cs k P w B e v D) (hg : w.grownBy w' r) (hr : ∀ x, r = some x → x < B) : Out cs k P w' B e v D := by
  refine ⟨h.own.kept hg ?_, fun d hd => ?_⟩
  · cases r with
    | none => cases hv : v.ownBlock <;> simp
    | some k => exact own_ne h.own (hr k rfl)
  · obtain ⟨lo, hi, hs, hb, hx⟩ := h.el d hd
    exact ⟨lo, hi, hs.off hg (fun x hx => by have := hr x hx; omega), hb, hx⟩
theorem Out.push {w w3 : World} {B : Nat} {e : TypeId} {v v' : Value} {D : List δ} {d : δ} {lo hi : Nat} {o : Obj} (h : Out cs k P w B e v D) (hd : Span lo hi w (P d)) (hB : B ≤ lo)
    (hx : ∀ x, v.ownBlock = some x → x < lo ∨ hi ≤ x) (hown : w3.ownsRow B e k v' (D.length + 1) (D.flatMap cs ++ cs d))
    (hg : (w.alloc o).grownBy w3 v.ownBlock) (hat : v'.ownBlock = v.ownBlock ∨ v'.ownBlock = some (w.alloc o).heap.size) : Out cs k P w3 B e v' (D ++ [d]) := by
  have ga := World.grownBy_alloc w o none
  have key : ∀ (y : δ) (lo hi : Nat), Span lo hi w (P y) → B ≤ lo → (∀ x, v.ownBlock = some x → x < lo ∨ hi ≤ x) → ∃ lo hi, Span lo hi w3 (P y) ∧ B ≤ lo ∧ ∀ x, v'.ownBlock = some x → x < lo ∨ hi ≤ x := by
    intro y lo hi hs hb hx
    refine ⟨lo, hi, (hs.grown ga).off hg hx, hb, fun x e => ?_⟩
    rcases hat with q | q
    · exact hx x (by rw [← q]; exact e)
    · rw [q] at e
      injection e with e
      have := hs.1
      have := ga.size
      omega
  refine ⟨by rw [List.length_append, List.flatMap_append, List.flatMap_cons, List.flatMap_nil, List.append_nil]; exact hown, fun y hy => ?_⟩
  rw [List.mem_append, List.mem_singleton] at hy
  rcases hy with hy | rfl
  · obtain ⟨lo, hi, hs, hb, hx⟩ := h.el y hy
    exact key y lo hi hs hb hx
  · exact key _ lo hi hd hB hx
theorem flat_at (hcs : ∀ d, (cs d).length = k) : ∀ (D : List δ) (j : Nat) (d : δ), D[j]? = some d → ∀ t < k, (D.flatMap cs)[j * k + t]? = (cs d)[t]?
  | [], j, d, h, _, _ => by simp at h
  | e :: D, 0, d, h, t, ht => by
    simp at h; subst h
    rw [List.flatMap_cons, List.getElem?_append_left (by rw [hcs]; omega), Nat.zero_mul, Nat.zero_add]
  | e :: D, j + 1, d, h, t, ht => by
    rw [List.flatMap_cons, List.getElem?_append_right (by rw [hcs, Nat.add_mul]; omega)]
    have := flat_at hcs D j d (by simpa using h) t ht
    rw [← this, hcs]; congr 1; rw [Nat.add_mul]; omega
theorem Out.span {w : World} {B : Nat} {e : TypeId} {v : Value} {D : List δ} (h : Out cs k P w B e v D) (hcs : ∀ d, (cs d).length = k) :
    ∃ a c, v = .slice a D.length c ∧ D.length ≤ c ∧ Span B w.heap.size w (fun W => ∀ (j : Nat) (d : δ), D[j]? = some d → P d W ∧ ∃ g, a = some ⟨g, 0, none⟩ ∧ ∀ t u, (cs d)[t]? = some u → W.cell? ⟨g, 0 + j * k + t, none⟩ = some u) := by
  have hc := @World.ownsRow.cells w B e k v D.length _ h.own
  rcases h.own.2 with ⟨hv, h0⟩ | ⟨g, cap, cur, rfl, hb, hg, hnc, hcm, _⟩
  · have hl : D = [] := List.eq_nil_of_length_eq_zero h0
    subst hl
    exact ⟨none, 0, hv, Nat.le_refl _, Nat.le_refl _, fun W _ j d hj => by simp at hj⟩
  · have hlt := (Array.getElem?_eq_some_iff.1 hg).1
    refine ⟨_, _, rfl, hnc, Nat.le_refl _, fun W hW j d hj => ⟨?_, g, rfl, fun t u hu => ?_⟩⟩
    · obtain ⟨lo, hi, hs, hbl, _⟩ := h.el d (List.mem_of_getElem? hj)
      exact hs.2 W fun b h1 h2 => hW b (by omega) (Nat.lt_of_lt_of_le h2 hs.1)
    · have ht : t < k := by rw [← hcs d]; exact (List.getElem?_eq_some_iff.1 hu).1
      have := hc (g := g) rfl (j * k + t) u (by rw [flat_at hcs D j d hj t ht]; exact hu)
      rw [add_at] at this
      rw [Nat.zero_add, World.cell?_of_block (hW g hb hlt)]; exact this
end

/-- A relation with its row. -/
abbrev Dr := Rl × Option Addr × Nat
def relCells (d : Dr) : List Value := [.int .i64 d.1.1, .slice d.2.1 d.1.2.length d.2.2]
def relP (d : Dr) (W : World) : Prop := IntsW W d.2.1 d.2.2 d.1.2
abbrev OutR (w : World) (B : Nat) (v : Value) (D : List Dr) : Prop := Out relCells 2 relP w B 53 v D
theorem OutR.rels {w : World} {B : Nat} {v : Value} {D : List Dr} (h : OutR w B v D) : ∃ a c, v = .slice a (D.map (·.1)).length c ∧ Span B w.heap.size w (fun W => Rels W a c (D.map (·.1))) := by
  obtain ⟨a, c, hv, hlc, hs⟩ := Out.span h (fun _ => rfl)
  refine ⟨a, c, by rw [List.length_map]; exact hv, hs.1, fun W hW => ⟨by rw [List.length_map]; exact hlc, fun j r hj => ?_⟩⟩
  rw [List.getElem?_map] at hj
  cases hd : D[j]? with
  | none => rw [hd] at hj; cases hj
  | some d =>
    rw [hd] at hj
    cases hj
    obtain ⟨hp, g, rfl, hc⟩ := hs.2 W hW j d hd
    exact ⟨g, 0, rfl, hc 0 _ rfl, d.2.1, d.2.2, hc 1 _ rfl, hp⟩
/-- A state with its row. -/
abbrev Ds := List Rl × Option Addr × Nat
def stCells (d : Ds) : List Value := [.slice d.2.1 d.1.length d.2.2]
def stP (d : Ds) (W : World) : Prop := Rels W d.2.1 d.2.2 d.1
abbrev OutS (w : World) (B : Nat) (v : Value) (D : List Ds) : Prop := Out stCells 1 stP w B 40 v D
theorem OutS.sts {w : World} {B : Nat} {v : Value} {D : List Ds} (h : OutS w B v D) : ∃ a c, v = .slice a (D.map (·.1)).length c ∧ Span B w.heap.size w (fun W => Sts W a c (D.map (·.1))) := by
  obtain ⟨a, c, hv, hlc, hs⟩ := Out.span h (fun _ => rfl)
  refine ⟨a, c, by rw [List.length_map]; exact hv, hs.1, fun W hW => ⟨by rw [List.length_map]; exact hlc, fun j r hj => ?_⟩⟩
  rw [List.getElem?_map] at hj
  cases hd : D[j]? with
  | none => rw [hd] at hj; cases hj
  | some d =>
    rw [hd] at hj
    cases hj
    obtain ⟨hp, g, rfl, hc⟩ := hs.2 W hW j d hd
    exact ⟨g, 0, rfl, d.2.1, d.2.2, by have := hc 0 _ rfl; simpa using this, hp⟩
theorem info53 : (Try.prog.info? 53).map (fun i => (i.zero, i.size, i.bytes)) = some (some (.agg #[.int .i64 0, .slice none 0 0]), 2, 32) := by kernel_rfl
theorem info40 : (Try.prog.info? 40).map (fun i => (i.zero, i.size, i.bytes)) = some (some (.slice none 0 0), 1, 24) := by kernel_rfl
theorem cell_two_new (w : World) (x y : Value) (t : TypeId) : ∀ j u, [x, y][j]? = some u → (w.alloc (.cells #[x, y] t)).cell? ((⟨w.heap.size, 0, none⟩ : Addr).add j) = some u := by
  intro j u hu
  rw [add_at, World.cell?_alloc_new]
  match j, hu with
  | 0, hu => simpa using hu
  | 1, hu => simpa using hu
end Go.Proofs.Ytbddpjofhddilaa
