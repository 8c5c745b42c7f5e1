/- Texts of the proof: G0. -/
import Derived.Test.YthkjjiijjedipaaDoorProg
import Derived.Test.YthkjjiijjedipaaDoorCD00
import Derived.WalkKit
import Derived.WalkSpells
import Derived.WalkLawsBesides
import Derived.Deep.QuietTactic
import Derived.Deep.LoopGhost
import Derived.Maps.AppendAt
import Derived.BigQuiet
import Derived.Lib.Hide
import Derived.IntWalk
import Derived.Laws.AppendOwn
import Derived.OwnWalk
import Derived.Maps.OwnIn
import Derived.Deep.RegionWith
import Derived.Lib.SliceRun
import Derived.Deep.RegionHeld3
import Derived.Laws.MakeOwn
import Derived.MapKept
namespace Go.Proofs.YthkjjiijjedipaaDoor
open Go.RowKit

theorem grown_drewN (w : World) (n : Nat) (r : Option Nat) : w.grownBy (w.drewN n) r := ⟨rfl, rfl, rfl, Nat.le_refl _, fun _ _ _ => rfl⟩
theorem grown_refl (w : World) (r : Option Nat) : w.grownBy w r := ⟨rfl, rfl, rfl, Nat.le_refl _, fun _ _ _ => rfl⟩
theorem info3 : (Tryd.prog.info? 3).map (fun i => (i.zero, i.size, i.bytes)) = some (some (.int .i64 0), 1, 8) := by kernel_rfl
theorem grown_set (w : World) (b o : Nat) (v : Value) : w.grownBy (w.setCell ⟨b, o, none⟩ v) (some b) :=
  ⟨rfl, rfl, rfl, by simp [World.setCell], fun k _ hk => Below.heap_setCell _ _ _ _ (fun e => hk (by rw [e]))⟩
theorem grown_own {w w1 : World} {r : Option Nat} (h : w.grownBy w1 none) {w2 : World} (h2 : w1.grownBy w2 r) (hr : ∀ k, r = some k → w.heap.size ≤ k) : w.grownBy w2 none :=
  ⟨h2.os.trans h.os, h2.tape.trans h.tape, h2.output.trans h.output, Nat.le_trans h.size h2.size, fun k hk _ => by
    rw [h2.block k (by have := h.size; omega) (fun e => by have := hr k e.symm; omega)]; exact h.block k hk (by simp)⟩
theorem own_shape {w : World} {B n size : Nat} {e : TypeId} {v : Value} {xs : List Value} (h : w.ownsRow B e size v n xs) : ∃ a c, v = .slice a n c := by
  rcases h.2 with ⟨hv, h0⟩ | ⟨g, cap, cur, rfl, _⟩
  · exact ⟨none, 0, by rw [hv, h0]⟩
  · exact ⟨_, _, rfl⟩
theorem lies_lt {w : World} {a : Addr} {v : Value} (h : w.cell? a = some v) : a.block < w.heap.size := by
  unfold World.cell? at h
  split at h
  · rename_i hb; exact (Array.getElem?_eq_some_iff.1 hb).1
  · cases h
/-- P holds of whatever world has the blocks from lo up to hi as they lie in w. -/
def Span (lo hi : Nat) (w : World) (P : World → Prop) : Prop := hi ≤ w.heap.size ∧ ∀ W : World, (∀ b, lo ≤ b → b < hi → W.heap[b]? = w.heap[b]?) → P W
theorem Span.here {lo hi : Nat} {w : World} {P : World → Prop} (h : Span lo hi w P) : P w := h.2 w fun _ _ _ => rfl
theorem Span.off {lo hi : Nat} {w w' : World} {P : World → Prop} {r : Option Nat} (h : Span lo hi w P) (hg : w.grownBy w' r) (hr : ∀ x, r = some x → x < lo ∨ hi ≤ x) : Span lo hi w' P := by
  refine ⟨Nat.le_trans h.1 hg.size, fun W hW => h.2 W fun b hl hh => ?_⟩
  rw [hW b hl hh]
  refine hg.block b (Nat.lt_of_lt_of_le hh h.1) fun e => ?_
  have := hr b e.symm
  omega
theorem Span.grown {lo hi : Nat} {w w' : World} {P : World → Prop} (h : Span lo hi w P) (hg : w.grownBy w' none) : Span lo hi w' P := h.off hg fun _ e => by cases e
theorem Span.wide {lo hi lo' hi' : Nat} {w : World} {P : World → Prop} (h : Span lo hi w P) (hl : lo' ≤ lo) (hh : hi ≤ hi') (hs : hi' ≤ w.heap.size) : Span lo' hi' w P :=
  ⟨hs, fun W hW => h.2 W fun b h1 h2 => hW b (by omega) (by omega)⟩
theorem Span.map {lo hi : Nat} {w : World} {P Q : World → Prop} (h : Span lo hi w P) (f : ∀ W, P W → Q W) : Span lo hi w Q := ⟨h.1, fun W hW => f W (h.2 W hW)⟩
theorem add_at (g j : Nat) : (⟨g, 0, none⟩ : Addr).add j = ⟨g, j, none⟩ := by unfold Addr.add; split <;> simp_all
theorem size_of_heap {w W : World} {b : Nat} (h : W.heap[b]? = w.heap[b]?) (hb : b < w.heap.size) : b < W.heap.size := by
  rw [Array.getElem?_eq_getElem hb] at h
  exact (Array.getElem?_eq_some_iff.1 h).1
theorem grown_frozen {w w' : World} {b : Nat} (h : w.grownBy w' none) (hb : b < w.heap.size) (o : Nat) : w'.frozen? ⟨b, o, none⟩ = w.frozen? ⟨b, o, none⟩ :=
  World.frozen?_of_block (a := ⟨b, o, none⟩) (h.block b hb (by simp))
theorem own_grown {w w' : World} {B : Nat} {e : TypeId} {k n : Nat} {v : Value} {xs : List Value} (h : w.ownsRow B e k v n xs) (hg : w.grownBy w' none) : w'.ownsRow B e k v n xs :=
  h.kept hg (by cases hv : v.ownBlock <;> simp)
theorem one_cells (w : World) (u0 u1 : Value) (s : TypeId) :
    w.heap.size < (w.alloc (.cells #[u0, u1] s)).heap.size ∧ (w.alloc (.cells #[u0, u1] s)).cell? ⟨w.heap.size, 0, none⟩ = some u0 ∧ (w.alloc (.cells #[u0, u1] s)).cell? ⟨w.heap.size, 1, none⟩ = some u1 ∧
    (w.alloc (.cells #[u0, u1] s)).frozen? ⟨w.heap.size, 0, none⟩ = false ∧ (w.alloc (.cells #[u0, u1] s)).frozen? ⟨w.heap.size, 1, none⟩ = false := by
  refine ⟨by simp, by go_simp, by go_simp, by go_simp, by go_simp⟩
theorem two_cells (w : World) (u0 u1 v0 v1 : Value) (s t : TypeId) :
    w.heap.size + 1 < ((w.alloc (.cells #[u0, u1] s)).alloc (.cells #[v0, v1] t)).heap.size ∧
    ((w.alloc (.cells #[u0, u1] s)).alloc (.cells #[v0, v1] t)).cell? ⟨w.heap.size, 0, none⟩ = some u0 ∧ ((w.alloc (.cells #[u0, u1] s)).alloc (.cells #[v0, v1] t)).cell? ⟨w.heap.size, 1, none⟩ = some u1 ∧
    ((w.alloc (.cells #[u0, u1] s)).alloc (.cells #[v0, v1] t)).cell? ⟨w.heap.size + 1, 0, none⟩ = some v0 ∧ ((w.alloc (.cells #[u0, u1] s)).alloc (.cells #[v0, v1] t)).cell? ⟨w.heap.size + 1, 1, none⟩ = some v1 ∧
    ((w.alloc (.cells #[u0, u1] s)).alloc (.cells #[v0, v1] t)).frozen? ⟨w.heap.size + 1, 0, none⟩ = false ∧ ((w.alloc (.cells #[u0, u1] s)).alloc (.cells #[v0, v1] t)).frozen? ⟨w.heap.size + 1, 1, none⟩ = false := by
  refine ⟨by simp, by go_simp, by go_simp, by go_simp, by go_simp, by go_simp, by go_simp⟩
abbrev intCells (l : List Int) : List Value := l.map fun (z : Int) => Value.int .i64 z
/-- A row of integers that is read: where it is empty, nothing is known of its place. -/
def IntsW (w : World) (a : Option Addr) (c : Nat) (zs : List Int) : Prop :=
  zs.length ≤ c ∧ (zs = [] ∨ ∃ b o, a = some ⟨b, o, none⟩ ∧ ∀ (j : Nat) (z : Int), zs[j]? = some z → w.cell? ⟨b, o + j, none⟩ = some (.int .i64 z))
theorem IntsW.grown {w w' : World} {a : Option Addr} {c : Nat} {zs : List Int} (h : IntsW w a c zs) (hg : w.grownBy w' none) : IntsW w' a c zs := by
  obtain ⟨hc, h | ⟨b, o, ha, hz⟩⟩ := h
  · exact ⟨hc, .inl h⟩
  · exact ⟨hc, .inr ⟨b, o, ha, fun j z hj => hg.cell (hz j z hj) (by simp)⟩⟩
theorem IntsW.at {w : World} {a : Option Addr} {c : Nat} {zs : List Int} (h : IntsW w a c zs) {i : Nat} {z : Int} (hz : zs[i]? = some z) : ∃ b o, a = some ⟨b, o, none⟩ ∧ w.cell? ⟨b, o + i, none⟩ = some (.int .i64 z) := by
  obtain ⟨_, h | ⟨b, o, ha, hc⟩⟩ := h
  · rw [h] at hz; simp at hz
  · exact ⟨b, o, ha, hc i z hz⟩
theorem intsW_nil (w : World) (a : Option Addr) (c : Nat) : IntsW w a c [] := ⟨Nat.zero_le _, .inl rfl⟩
/-- A row of integers that is read. -/
def Ints (w : World) (a : Option Addr) (c : Nat) (zs : List Int) : Prop :=
  zs.length ≤ c ∧ ((zs = [] ∧ a = none ∧ c = 0) ∨ ∃ b o, a = some ⟨b, o, none⟩ ∧ b < w.heap.size ∧ ∀ (j : Nat) (z : Int), zs[j]? = some z → w.cell? ⟨b, o + j, none⟩ = some (.int .i64 z))
theorem Ints.grown {w w' : World} {a : Option Addr} {c : Nat} {zs : List Int} (h : Ints w a c zs) (hg : w.grownBy w' none) : Ints w' a c zs := by
  obtain ⟨hc, h | ⟨b, o, ha, hb, hz⟩⟩ := h
  · exact ⟨hc, .inl h⟩
  · exact ⟨hc, .inr ⟨b, o, ha, Nat.lt_of_lt_of_le hb hg.size, fun j z hj => hg.cell (hz j z hj) (by simp)⟩⟩
theorem Ints.weak {w : World} {a : Option Addr} {c : Nat} {zs : List Int} (h : Ints w a c zs) : IntsW w a c zs := by
  obtain ⟨hc, h | ⟨b, o, ha, _, hz⟩⟩ := h
  · exact ⟨hc, .inl h.1⟩
  · exact ⟨hc, .inr ⟨b, o, ha, hz⟩⟩
theorem ints_nil (w : World) : Ints w none 0 [] := ⟨Nat.le_refl _, .inl ⟨rfl, rfl, rfl⟩⟩
theorem ints_span {w : World} {B : Nat} {v : Value} {l : List Int} (h : w.ownsRow B 3 1 v l.length (intCells l)) : ∃ a c, v = .slice a l.length c ∧ Span B w.heap.size w (fun W => Ints W a c l) := by
  have hc := @World.ownsRow.cells w B 3 1 v l.length _ h
  rcases h.2 with ⟨hv, h0⟩ | ⟨g, cap, cur, rfl, hb, hg, hnc, hcm, _⟩
  · have hl : l = [] := List.eq_nil_of_length_eq_zero h0
    subst hl
    exact ⟨none, 0, hv, Nat.le_refl _, fun W _ => ints_nil W⟩
  · have hlt := (Array.getElem?_eq_some_iff.1 hg).1
    refine ⟨_, _, rfl, Nat.le_refl _, fun W hW => ⟨hnc, .inr ⟨g, 0, rfl, size_of_heap (hW g hb hlt) hlt, fun j z hj => ?_⟩⟩⟩
    have := hc (g := g) rfl j (.int .i64 z) (by rw [intCells, List.getElem?_map, hj]; rfl)
    rw [add_at] at this
    rw [Nat.zero_add, World.cell?_of_block (hW g hb hlt)]; exact this
theorem own_ne {w : World} {B b : Nat} {e : TypeId} {size n : Nat} {v : Value} {xs : List Value} (h : w.ownsRow B e size v n xs) (hb : b < B) : v.ownBlock = none ∨ v.ownBlock ≠ some b := by
  cases hv : v.ownBlock with
  | none => exact .inl rfl
  | some k => have := (h.lt k hv).1; exact .inr (by simp; omega)

/-- A gate as a value. -/
abbrev gv (g : Gt) : Value := .agg #[.int .i64 g.1, .int .i64 g.2.1, .int .i64 g.2.2]
abbrev gateCells (l : List Gt) : List Value := l.flatMap fun g => [.int .i64 g.1, .int .i64 g.2.1, .int .i64 g.2.2]
theorem gateCells_len : ∀ l : List Gt, (gateCells l).length = l.length * 3
  | [] => rfl
  | g :: l => by rw [gateCells, List.flatMap_cons, List.length_append, show (l.flatMap fun g => [Value.int .i64 g.1, .int .i64 g.2.1, .int .i64 g.2.2]).length = l.length * 3 from gateCells_len l]; simp; omega
theorem gateCells_at : ∀ {l : List Gt} {j : Nat} {g : Gt}, l[j]? = some g → (gateCells l)[j * 3]? = some (.int .i64 g.1) ∧ (gateCells l)[j * 3 + 1]? = some (.int .i64 g.2.1) ∧ (gateCells l)[j * 3 + 2]? = some (.int .i64 g.2.2)
  | h :: l, 0, g, e => by
    simp at e
    subst e
    simp [gateCells]
  | h :: l, j + 1, g, e => by
    have ih := gateCells_at (l := l) (j := j) (g := g) (by simpa using e)
    have e1 : ∀ k, (gateCells (h :: l))[(j + 1) * 3 + k]? = (gateCells l)[j * 3 + k]? := fun k => by
      rw [gateCells, List.flatMap_cons, List.getElem?_append_right (by simp; omega)]
      congr 1
      simp
      omega
    have e0 := e1 0
    rw [Nat.add_zero, Nat.add_zero] at e0
    exact ⟨e0.trans ih.1, (e1 1).trans ih.2.1, (e1 2).trans ih.2.2⟩
/-- The cells of a gate. -/
def GateAt (w : World) (b o : Nat) (g : Gt) : Prop :=
  w.cell? ⟨b, o, none⟩ = some (.int .i64 g.1) ∧ w.cell? ⟨b, o + 1, none⟩ = some (.int .i64 g.2.1) ∧ w.cell? ⟨b, o + 2, none⟩ = some (.int .i64 g.2.2)
theorem GateAt.grown {w w' : World} {b o : Nat} {g : Gt} (h : GateAt w b o g) (hg : w.grownBy w' none) : GateAt w' b o g :=
  ⟨hg.cell h.1 (by simp), hg.cell h.2.1 (by simp), hg.cell h.2.2 (by simp)⟩
/-- A block of gates. -/
def Ty47 (w : World) (b : Nat) : Prop := ∃ cur fr, w.heap[b]? = some (.cells cur 58 fr)
theorem ty_alloc (w : World) (cs : Array Value) : Ty47 (w.alloc (.cells cs 58)) w.heap.size := ⟨cs, _, (Go.MapKept.heap_alloc w _).1⟩
theorem Ty47.lt {w : World} {b : Nat} (h : Ty47 w b) : b < w.heap.size := by
  obtain ⟨_, _, h⟩ := h
  exact (Array.getElem?_eq_some_iff.1 h).1
theorem Ty47.of {w w' : World} {b : Nat} (h : Ty47 w b) (e : w'.heap[b]? = w.heap[b]?) : Ty47 w' b := by
  obtain ⟨c, f, h⟩ := h
  exact ⟨c, f, e.trans h⟩
theorem Ty47.grown {w w' : World} {b : Nat} {r : Option Nat} (h : Ty47 w b) (hg : w.grownBy w' r) (hr : some b ≠ r) : Ty47 w' b := h.of (hg.block b h.lt hr)
theorem Ty47.set {w : World} {b : Nat} (h : Ty47 w b) (k : Nat) (v : Value) : Ty47 (w.setCell ⟨k, 0, none⟩ v) b := by
  obtain ⟨c, f, h⟩ := h
  by_cases e : b = k
  · subst e
    refine ⟨c.setIfInBounds 0 v, f, ?_⟩
    unfold World.setCell
    simp [Array.getElem?_modify, h]
  · exact (show Ty47 w b from ⟨c, f, h⟩).grown (grown_set w k 0 v) (fun e2 => e (by injection e2))
/-- A row of gates that is read: where it is empty, nothing is known of its place. -/
def GatesR (w : World) (a : Option Addr) (c : Nat) (gs : List Gt) : Prop :=
  gs.length ≤ c ∧ (gs = [] ∨ ∃ b o, a = some ⟨b, o, none⟩ ∧ ∀ (j : Nat) (g : Gt), gs[j]? = some g → GateAt w b (o + j * 3) g)
theorem GatesR.grown {w w' : World} {a : Option Addr} {c : Nat} {gs : List Gt} (h : GatesR w a c gs) (hg : w.grownBy w' none) : GatesR w' a c gs := by
  obtain ⟨hc, h | ⟨b, o, ha, hz⟩⟩ := h
  · exact ⟨hc, .inl h⟩
  · exact ⟨hc, .inr ⟨b, o, ha, fun j z hj => (hz j z hj).grown hg⟩⟩
theorem GatesR.at {w : World} {a : Option Addr} {c : Nat} {gs : List Gt} (h : GatesR w a c gs) {i : Nat} {g : Gt} (hz : gs[i]? = some g) : ∃ b o, a = some ⟨b, o, none⟩ ∧ GateAt w b (o + i * 3) g := by
  obtain ⟨_, h | ⟨b, o, ha, hc⟩⟩ := h
  · rw [h] at hz; simp at hz
  · exact ⟨b, o, ha, hc i g hz⟩
/-- A row of gates in a block of gates. -/
def GatesW (w : World) (a : Option Addr) (c : Nat) (gs : List Gt) : Prop :=
  gs.length ≤ c ∧ (gs = [] ∨ ∃ b o, a = some ⟨b, o, none⟩ ∧ Ty47 w b ∧ ∀ (j : Nat) (g : Gt), gs[j]? = some g → GateAt w b (o + j * 3) g)
theorem GatesW.weak {w : World} {a : Option Addr} {c : Nat} {gs : List Gt} (h : GatesW w a c gs) : GatesR w a c gs := by
  obtain ⟨hc, h | ⟨b, o, ha, _, hz⟩⟩ := h
  · exact ⟨hc, .inl h⟩
  · exact ⟨hc, .inr ⟨b, o, ha, hz⟩⟩
theorem GatesW.grown {w w' : World} {a : Option Addr} {c : Nat} {gs : List Gt} (h : GatesW w a c gs) (hg : w.grownBy w' none) : GatesW w' a c gs := by
  obtain ⟨hc, h | ⟨b, o, ha, ht, hz⟩⟩ := h
  · exact ⟨hc, .inl h⟩
  · exact ⟨hc, .inr ⟨b, o, ha, ht.grown hg (by simp), fun j z hj => (hz j z hj).grown hg⟩⟩
theorem GatesW.at {w : World} {a : Option Addr} {c : Nat} {gs : List Gt} (h : GatesW w a c gs) {i : Nat} {g : Gt} (hz : gs[i]? = some g) : ∃ b o, a = some ⟨b, o, none⟩ ∧ GateAt w b (o + i * 3) g := h.weak.at hz
theorem gatesW_nil (w : World) (a : Option Addr) (c : Nat) : GatesW w a c [] := ⟨Nat.zero_le _, .inl rfl⟩
theorem infoG : (Tryd.prog.info? 58).map (fun i => (i.zero, i.size, i.bytes)) = some (some (.agg #[.int .i64 0, .int .i64 0, .int .i64 0]), 3, 24) := by kernel_rfl
theorem gates_span {w : World} {B : Nat} {v : Value} {l : List Gt} (h : w.ownsRow B 58 3 v l.length (gateCells l)) : ∃ a c, v = .slice a l.length c ∧ Span B w.heap.size w (fun W => GatesW W a c l) := by
  have hc := @World.ownsRow.cells w B 58 3 v l.length _ h
  rcases h.2 with ⟨hv, h0⟩ | ⟨g, cap, cur, rfl, hb, hg, hnc, hcm, _⟩
  · have hl : l = [] := List.eq_nil_of_length_eq_zero h0
    subst hl
    exact ⟨none, 0, hv, Nat.le_refl _, fun W _ => gatesW_nil W _ _⟩
  · have hlt := (Array.getElem?_eq_some_iff.1 hg).1
    refine ⟨_, _, rfl, Nat.le_refl _, fun W hW => ⟨hnc, .inr ⟨g, 0, rfl, ⟨_, _, (hW g hb hlt).trans hg⟩, fun j z hj => ?_⟩⟩⟩
    obtain ⟨e0, e1, e2⟩ := gateCells_at hj
    have h0 := hc (g := g) rfl _ _ e0
    have h1 := hc (g := g) rfl _ _ e1
    have h2 := hc (g := g) rfl _ _ e2
    rw [add_at] at h0 h1 h2
    rw [Nat.zero_add]
    exact ⟨by rw [World.cell?_of_block (hW g hb hlt)]; exact h0, by rw [World.cell?_of_block (hW g hb hlt)]; exact h1, by rw [World.cell?_of_block (hW g hb hlt)]; exact h2⟩
end Go.Proofs.YthkjjiijjedipaaDoor
