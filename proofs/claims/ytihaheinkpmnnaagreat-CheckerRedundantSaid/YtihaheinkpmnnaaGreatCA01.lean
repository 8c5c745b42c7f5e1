/- Texts of the proof: M0 V2 H0. -/
import Derived.Test.YtihaheinkpmnnaaGreatProg
import Derived.Test.YtihaheinkpmnnaaGreatCA00
import Derived.WalkKit
import Derived.WalkSpells
import Derived.WalkLawsBesides
import Derived.Deep.QuietTactic
import Derived.Deep.LoopGhost
import Derived.Maps.AppendAt
import Derived.BigQuiet
import Derived.Lib.Hide
import Derived.IntWalk
import Derived.Laws.AppendOwn
import Derived.OwnWalk
import Derived.Maps.OwnIn
import Derived.Deep.RegionWith
import Derived.Lib.SliceRun
import Derived.Deep.RegionHeld3
import Derived.Laws.MakeOwn
import Derived.MapKept
import Derived.LoopTactic
namespace Go.Proofs.YtihaheinkpmnnaaGreat
set_option maxRecDepth 200000
open Go.RowKit
theorem grown_drew (w : World) (r : Option Nat) : w.grownBy w.drew r := ⟨rfl, rfl, rfl, Nat.le_refl _, fun _ _ _ => rfl⟩
theorem grown_drewN (w : World) (n : Nat) (r : Option Nat) : w.grownBy (w.drewN n) r := ⟨rfl, rfl, rfl, Nat.le_refl _, fun _ _ _ => rfl⟩
theorem grown_refl (w : World) (r : Option Nat) : w.grownBy w r := ⟨rfl, rfl, rfl, Nat.le_refl _, fun _ _ _ => rfl⟩
theorem info3 : (Tryz.prog.info? 3).map (fun i => (i.zero, i.size, i.bytes)) = some (some (.int .i64 0), 1, 8) := by kernel_rfl
theorem grown_set (w : World) (b o : Nat) (v : Value) : w.grownBy (w.setCell ⟨b, o, none⟩ v) (some b) :=
  ⟨rfl, rfl, rfl, by simp [World.setCell], fun k _ hk => Below.heap_setCell _ _ _ _ (fun e => hk (by rw [e]))⟩
theorem grown_own {w w1 : World} {r : Option Nat} (h : w.grownBy w1 none) {w2 : World} (h2 : w1.grownBy w2 r) (hr : ∀ k, r = some k → w.heap.size ≤ k) : w.grownBy w2 none :=
  ⟨h2.os.trans h.os, h2.tape.trans h.tape, h2.output.trans h.output, Nat.le_trans h.size h2.size, fun k hk _ => by
    rw [h2.block k (by have := h.size; omega) (fun e => by have := hr k e.symm; omega)]; exact h.block k hk (by simp)⟩
theorem own_shape {w : World} {B n size : Nat} {e : TypeId} {v : Value} {xs : List Value} (h : w.ownsRow B e size v n xs) : ∃ a c, v = .slice a n c := by
  rcases h.2 with ⟨hv, h0⟩ | ⟨g, cap, cur, rfl, _⟩
  · exact ⟨none, 0, by rw [hv, h0]⟩
  · exact ⟨_, _, rfl⟩
theorem lies_lt {w : World} {a : Addr} {v : Value} (h : w.cell? a = some v) : a.block < w.heap.size := by
  unfold World.cell? at h
  split at h
  · rename_i hb; exact (Array.getElem?_eq_some_iff.1 hb).1
  · cases h
/-- P holds of whatever world has the blocks from lo up to hi as they lie in w. -/
def Span (lo hi : Nat) (w : World) (P : World → Prop) : Prop := hi ≤ w.heap.size ∧ ∀ W : World, (∀ b, lo ≤ b → b < hi → W.heap[b]? = w.heap[b]?) → P W
theorem Span.here {lo hi : Nat} {w : World} {P : World → Prop} (h : Span lo hi w P) : P w := h.2 w fun _ _ _ => rfl
theorem Span.off {lo hi : Nat} {w w' : World} {P : World → Prop} {r : Option Nat} (h : Span lo hi w P) (hg : w.grownBy w' r) (hr : ∀ x, r = some x → x < lo ∨ hi ≤ x) : Span lo hi w' P := by
  refine ⟨Nat.le_trans h.1 hg.size, fun W hW => h.2 W fun b hl hh => ?_⟩
  rw [hW b hl hh]
  refine hg.block b (Nat.lt_of_lt_of_le hh h.1) fun e => ?_
  have := hr b e.symm
  omega
theorem Span.grown {lo hi : Nat} {w w' : World} {P : World → Prop} (h : Span lo hi w P) (hg : w.grownBy w' none) : Span lo hi w' P := h.off hg fun _ e => by cases e
theorem Span.wide {lo hi lo' hi' : Nat} {w : World} {P : World → Prop} (h : Span lo hi w P) (hl : lo' ≤ lo) (hh : hi ≤ hi') (hs : hi' ≤ w.heap.size) : Span lo' hi' w P :=
  ⟨hs, fun W hW => h.2 W fun b h1 h2 => hW b (by omega) (by omega)⟩
theorem Span.map {lo hi : Nat} {w : World} {P Q : World → Prop} (h : Span lo hi w P) (f : ∀ W, P W → Q W) : Span lo hi w Q := ⟨h.1, fun W hW => f W (h.2 W hW)⟩
theorem add_at (g j : Nat) : (⟨g, 0, none⟩ : Addr).add j = ⟨g, j, none⟩ := by unfold Addr.add; split <;> simp_all
theorem size_of_heap {w W : World} {b : Nat} (h : W.heap[b]? = w.heap[b]?) (hb : b < w.heap.size) : b < W.heap.size := by
  rw [Array.getElem?_eq_getElem hb] at h
  exact (Array.getElem?_eq_some_iff.1 h).1
theorem grown_frozen {w w' : World} {b : Nat} (h : w.grownBy w' none) (hb : b < w.heap.size) (o : Nat) : w'.frozen? ⟨b, o, none⟩ = w.frozen? ⟨b, o, none⟩ :=
  World.frozen?_of_block (a := ⟨b, o, none⟩) (h.block b hb (by simp))
theorem own_grown {w w' : World} {B : Nat} {e : TypeId} {k n : Nat} {v : Value} {xs : List Value} (h : w.ownsRow B e k v n xs) (hg : w.grownBy w' none) : w'.ownsRow B e k v n xs :=
  h.kept hg (by cases hv : v.ownBlock <;> simp)
theorem one_cells (w : World) (u0 u1 : Value) (s : TypeId) :
    w.heap.size < (w.alloc (.cells #[u0, u1] s)).heap.size ∧ (w.alloc (.cells #[u0, u1] s)).cell? ⟨w.heap.size, 0, none⟩ = some u0 ∧ (w.alloc (.cells #[u0, u1] s)).cell? ⟨w.heap.size, 1, none⟩ = some u1 ∧
    (w.alloc (.cells #[u0, u1] s)).frozen? ⟨w.heap.size, 0, none⟩ = false ∧ (w.alloc (.cells #[u0, u1] s)).frozen? ⟨w.heap.size, 1, none⟩ = false := by
  refine ⟨by simp, by go_simp, by go_simp, by go_simp, by go_simp⟩
abbrev intCells (l : List Int) : List Value := l.map fun (z : Int) => Value.int .i64 z
/-- A row of integers that is read: where it is empty, nothing is known of its place. -/
def IntsW (w : World) (a : Option Addr) (c : Nat) (zs : List Int) : Prop :=
  zs.length ≤ c ∧ (zs = [] ∨ ∃ b o, a = some ⟨b, o, none⟩ ∧ ∀ (j : Nat) (z : Int), zs[j]? = some z → w.cell? ⟨b, o + j, none⟩ = some (.int .i64 z))
theorem IntsW.grown {w w' : World} {a : Option Addr} {c : Nat} {zs : List Int} (h : IntsW w a c zs) (hg : w.grownBy w' none) : IntsW w' a c zs := by
  obtain ⟨hc, h | ⟨b, o, ha, hz⟩⟩ := h
  · exact ⟨hc, .inl h⟩
  · exact ⟨hc, .inr ⟨b, o, ha, fun j z hj => hg.cell (hz j z hj) (by simp)⟩⟩
theorem IntsW.at {w : World} {a : Option Addr} {c : Nat} {zs : List Int} (h : IntsW w a c zs) {i : Nat} {z : Int} (hz : zs[i]? = some z) : ∃ b o, a = some ⟨b, o, none⟩ ∧ w.cell? ⟨b, o + i, none⟩ = some (.int .i64 z) := by
  obtain ⟨_, h | ⟨b, o, ha, hc⟩⟩ := h
  · rw [h] at hz; simp at hz
  · exact ⟨b, o, ha, hc i z hz⟩
/-- A row of integers that is read. -/
def Ints (w : World) (a : Option Addr) (c : Nat) (zs : List Int) : Prop :=
  zs.length ≤ c ∧ ((zs = [] ∧ a = none ∧ c = 0) ∨ ∃ b o, a = some ⟨b, o, none⟩ ∧ b < w.heap.size ∧ ∀ (j : Nat) (z : Int), zs[j]? = some z → w.cell? ⟨b, o + j, none⟩ = some (.int .i64 z))
theorem Ints.grown {w w' : World} {a : Option Addr} {c : Nat} {zs : List Int} (h : Ints w a c zs) (hg : w.grownBy w' none) : Ints w' a c zs := by
  obtain ⟨hc, h | ⟨b, o, ha, hb, hz⟩⟩ := h
  · exact ⟨hc, .inl h⟩
  · exact ⟨hc, .inr ⟨b, o, ha, Nat.lt_of_lt_of_le hb hg.size, fun j z hj => hg.cell (hz j z hj) (by simp)⟩⟩
theorem Ints.weak {w : World} {a : Option Addr} {c : Nat} {zs : List Int} (h : Ints w a c zs) : IntsW w a c zs := by
  obtain ⟨hc, h | ⟨b, o, ha, _, hz⟩⟩ := h
  · exact ⟨hc, .inl h.1⟩
  · exact ⟨hc, .inr ⟨b, o, ha, hz⟩⟩
theorem ints_nil (w : World) : Ints w none 0 [] := ⟨Nat.le_refl _, .inl ⟨rfl, rfl, rfl⟩⟩
theorem ints_span {w : World} {B : Nat} {v : Value} {l : List Int} (h : w.ownsRow B 3 1 v l.length (intCells l)) : ∃ a c, v = .slice a l.length c ∧ Span B w.heap.size w (fun W => Ints W a c l) := by
  have hc := @World.ownsRow.cells w B 3 1 v l.length _ h
  rcases h.2 with ⟨hv, h0⟩ | ⟨g, cap, cur, rfl, hb, hg, hnc, hcm, _⟩
  · have hl : l = [] := List.eq_nil_of_length_eq_zero h0
    subst hl
    exact ⟨none, 0, hv, Nat.le_refl _, fun W _ => ints_nil W⟩
  · have hlt := (Array.getElem?_eq_some_iff.1 hg).1
    refine ⟨_, _, rfl, Nat.le_refl _, fun W hW => ⟨hnc, .inr ⟨g, 0, rfl, size_of_heap (hW g hb hlt) hlt, fun j z hj => ?_⟩⟩⟩
    have := hc (g := g) rfl j (.int .i64 z) (by rw [intCells, List.getElem?_map, hj]; rfl)
    rw [add_at] at this
    rw [Nat.zero_add, World.cell?_of_block (hW g hb hlt)]; exact this
theorem list_ne {α : Type} {xs ys : List α} {i : Nat} {x y : α} (hx : xs[i]? = some x) (hy : ys[i]? = some y) (h : x ≠ y) : xs ≠ ys := by
  rintro rfl; rw [hx] at hy; cases hy; exact h rfl
theorem list_eq {α : Type} {xs ys : List α} {n : Nat} (hx : xs.length = n) (hy : ys.length = n) (h : ∀ j, j < n → xs[j]? = ys[j]?) : xs = ys := by
  apply List.ext_getElem?
  intro j
  by_cases hj : j < n
  · exact h j hj
  · rw [List.getElem?_eq_none (by omega), List.getElem?_eq_none (by omega)]
theorem agree_step {α : Type} {xs ys : List α} {i : Nat} (h : ∀ j, j < i → xs[j]? = ys[j]?) (hi : xs[i]? = ys[i]?) : ∀ j, j < i + 1 → xs[j]? = ys[j]? := by
  intro j hj
  by_cases hji : j < i
  · exact h j hji
  · have : j = i := by omega
    subst this; exact hi
/-- A row of clauses that is read. -/
def ClsW (w : World) (a : Option Addr) (c : Nat) (l : List (List Int)) : Prop :=
  l.length ≤ c ∧ (l = [] ∨ ∃ b o, a = some ⟨b, o, none⟩ ∧ ∀ (j : Nat) (z : List Int), l[j]? = some z → ∃ a' c', w.cell? ⟨b, o + j, none⟩ = some (.slice a' z.length c') ∧ IntsW w a' c' z)
theorem ClsW.grown {w w' : World} {a : Option Addr} {c : Nat} {l : List (List Int)} (h : ClsW w a c l) (hg : w.grownBy w' none) : ClsW w' a c l := by
  obtain ⟨h1, h | ⟨b, o, h2, h3⟩⟩ := h
  · exact ⟨h1, .inl h⟩
  · exact ⟨h1, .inr ⟨b, o, h2, fun j z hz => by obtain ⟨a', c', h4, h5⟩ := h3 j z hz; exact ⟨a', c', hg.cell h4 (by simp), h5.grown hg⟩⟩⟩
theorem ClsW.at {w : World} {a : Option Addr} {c : Nat} {l : List (List Int)} (h : ClsW w a c l) {i : Nat} {z : List Int} (hz : l[i]? = some z) : ∃ b o a' c', a = some ⟨b, o, none⟩ ∧ w.cell? ⟨b, o + i, none⟩ = some (.slice a' z.length c') ∧ IntsW w a' c' z := by
  obtain ⟨h1, h | ⟨b, o, h2, h3⟩⟩ := h
  · subst h; simp at hz
  · obtain ⟨a', c', h4, h5⟩ := h3 i z hz
    exact ⟨b, o, a', c', h2, h4, h5⟩
structure Off (M : Nat → Prop) (w w' : World) : Prop where
  os : w'.os = w.os
  tape : w'.tape = w.tape
  output : w'.output = w.output
  size : w.heap.size ≤ w'.heap.size
  block : ∀ k, k < w.heap.size → ¬ M k → w'.heap[k]? = w.heap[k]?
theorem Off.of {M : Nat → Prop} {w w' : World} {r : Option Nat} (h : w.grownBy w' r) (hr : ∀ k, r = some k → M k) : Off M w w' :=
  ⟨h.os, h.tape, h.output, h.size, fun k hk hm => h.block k hk (fun e => hm (hr k e.symm))⟩
theorem Off.trans {M N : Nat → Prop} {w w1 w' : World} (h : Off M w w1) (h2 : Off N w1 w') (hn : ∀ k, k < w.heap.size → N k → M k) : Off M w w' :=
  ⟨h2.os.trans h.os, h2.tape.trans h.tape, h2.output.trans h.output, Nat.le_trans h.size h2.size, fun k hk hm => (h2.block k (Nat.lt_of_lt_of_le hk h.size) (fun e => hm (hn k hk e))).trans (h.block k hk hm)⟩
theorem Off.mono {M N : Nat → Prop} {w w' : World} (h : Off M w w') (hn : ∀ k, k < w.heap.size → M k → N k) : Off N w w' := ⟨h.os, h.tape, h.output, h.size, fun k hk hm => h.block k hk (fun e => hm (hn k hk e))⟩
theorem Off.refl (M : Nat → Prop) (w : World) : Off M w w := ⟨rfl, rfl, rfl, Nat.le_refl _, fun _ _ _ => rfl⟩
theorem Off.grown {M : Nat → Prop} {w0 w w' : World} (h0 : w0.grownBy w none) (h : Off M w w') (hm : ∀ k, M k → w0.heap.size ≤ k) : w0.grownBy w' none :=
  ⟨h.os.trans h0.os, h.tape.trans h0.tape, h.output.trans h0.output, Nat.le_trans h0.size h.size, fun k hk _ => (h.block k (Nat.lt_of_lt_of_le hk h0.size) (fun e => by have := hm k e; omega)).trans (h0.block k hk (by simp))⟩
theorem Off.cell {M : Nat → Prop} {w w' : World} (h : Off M w w') {a : Addr} {v : Value} (hc : w.cell? a = some v) (hm : ¬ M a.block) : w'.cell? a = some v :=
  (World.cell?_of_block (h.block a.block (lies_lt hc) hm)).trans hc
theorem Off.frozen {M : Nat → Prop} {w w' : World} (h : Off M w w') {b : Nat} (hb : b < w.heap.size) (hm : ¬ M b) (o : Nat) : w'.frozen? ⟨b, o, none⟩ = w.frozen? ⟨b, o, none⟩ :=
  World.frozen?_of_block (a := ⟨b, o, none⟩) (h.block b hb hm)
theorem Off.row {M : Nat → Prop} {w w' : World} (h : Off M w w') {B n k : Nat} {e : TypeId} {v : Value} {xs : List Value} (hr : w.ownsRow B e k v n xs) (hm : ∀ b, v.ownBlock = some b → ¬ M b) : w'.ownsRow B e k v n xs := by
  refine ⟨hr.1, ?_⟩
  rcases hr.2 with h0 | ⟨g, cap, cur, e1, h1, h2, h3⟩
  · exact .inl h0
  · exact .inr ⟨g, cap, cur, e1, h1, (h.block g (Array.getElem?_eq_some_iff.1 h2).1 (hm g (by rw [e1]; rfl))).trans h2, h3⟩
theorem ne_at {p i j : Nat} (h : i ≠ j) : (⟨p, i, none⟩ : Addr) ≠ ⟨p, j, none⟩ := fun e => by injection e with _ e; exact h e
/-- A row of integers that is changed in place. -/
structure IArr (w : World) (b : Nat) (l : List Int) : Prop where
  cells : ∀ (j : Nat) (z : Int), l[j]? = some z → w.cell? ⟨b, j, none⟩ = some (.int .i64 z)
  fr : ∀ o, w.frozen? ⟨b, o, none⟩ = false
  low : b < w.heap.size
theorem IArr.off {M : Nat → Prop} {w w' : World} {b : Nat} {l : List Int} (h : IArr w b l) (ho : Off M w w') (hm : ¬ M b) : IArr w' b l :=
  ⟨fun j z hj => ho.cell (h.cells j z hj) hm, fun o => (ho.frozen h.low hm o).trans (h.fr o), Nat.lt_of_lt_of_le h.low ho.size⟩
theorem IArr.set {w : World} {b : Nat} {l : List Int} (h : IArr w b l) {j : Nat} {z0 : Int} (hj : l[j]? = some z0) (z : Int) : IArr (w.setCell ⟨b, j, none⟩ (.int .i64 z)) b (l.set j z) := by
  have hjl : j < l.length := (List.getElem?_eq_some_iff.1 hj).1
  refine ⟨fun k u hk => ?_, fun o => by rw [World.frozen?_setCell]; exact h.fr o, Nat.lt_of_lt_of_le h.low (grown_set w b j _).size⟩
  by_cases e : k = j
  · subst e
    rw [List.getElem?_set_self hjl] at hk
    cases hk
    exact World.cell?_setCell_same _ _ _ (h.cells k z0 hj)
  · rw [List.getElem?_set_ne (fun e2 => e e2.symm)] at hk
    rw [World.cell?_setCell_other _ _ _ _ (ne_at (fun e2 => e e2.symm))]
    exact h.cells k u hk
end Go.Proofs.YtihaheinkpmnnaaGreat

namespace Go.Proofs.YtihaheinkpmnnaaGreat
set_option maxRecDepth 200000
open Go.RowKit
/-- The literals are numbers of variables. -/
def inRb (V : Int) (x : Int) : Bool := !(x == 0) && decide (x ≤ V) && decide (-V ≤ x)
set_option maxHeartbeats 4000000 in
theorem within_calls (V : Int) (L : List Int) (a : Option Addr) (c : Nat) (w : World) (h : IntsW w a c L) (hl : L.length ≤ 100000) (hV : -1000000 ≤ V ∧ V ≤ 9000000000000000000) :
    Calls Tryz.prog 42 #[.int .i64 V, .slice a L.length c] w fun e w' => e = .returned (.bool (L.all (inRb V))) ∧ w' = w := by
  obtain ⟨n, hn⟩ : ∃ n, L.length = n := ⟨_, rfl⟩
  have HH := Lib.hid (And.intro h hn)
  rw [hn] at hl ⊢
  clear h hn
  obtain ⟨d, hd⟩ : ∃ d, L.all (inRb V) = d := ⟨_, rfl⟩
  rw [hd]
  have HD := Lib.hid hd
  clear hd
  have kV : IntKind.i64.wrap (-V) = -V := IntWalk.i64_in _ (by omega)
  go_enter Tryz.func42, Tryz.ntmps42
  go_wp2_with fail
  go_loopg [5] n (fun gk s5 w' => ∃ k : Nat, s5 = .int .i64 (k : Int) ∧ gk = n - k ∧ k ≤ n ∧ w' = w ∧ (L.take k).all (inRb V) = true)
  case atStart => exact ⟨0, rfl, rfl, by omega, rfl, by simp⟩
  case round =>
    obtain ⟨k, rfl, hgk, hk, rfl, hbef⟩ := hrel
    have HI := Lib.hid (And.intro hgk hbef)
    clear hgk hbef
    by_cases hkn : k < n
    · have f1 : decide ((k : Int) < (n : Int)) = true := decide_eq_true (by omega)
      have f1' : decide (k < n) = true := decide_eq_true hkn
      have i0 : (0 : Int) ≤ (k : Int) := by omega
      have i1 : (k : Int) < (n : Int) := by omega
      have k1 : IntKind.i64.wrap ((k : Int) + 1) = (k : Int) + 1 := IntWalk.i64_in _ (by omega)
      obtain ⟨z, hz⟩ : ∃ z, L[k]? = some z := ⟨_, List.getElem?_eq_getElem (by rw [HH.out.2]; exact hkn)⟩
      obtain ⟨b, o, rfl, hcell⟩ := HH.out.1.at hz
      have HZ := Lib.hid hz
      have hst : (L.take (k + 1)).all (inRb V) = inRb V z := by
        obtain ⟨hlt, e⟩ := List.getElem?_eq_some_iff.1 hz
        rw [List.take_succ_eq_append_getElem hlt, e, List.all_append, HI.out.2]; simp
      have hno : inRb V z = false → d = false := fun hf => by
        rw [← HD.out]
        cases ha : L.all (inRb V) with
        | false => rfl
        | true => rw [List.all_eq_true] at ha; rw [ha z (List.mem_of_getElem? hz)] at hf; cases hf
      have HS := Lib.hid (And.intro hst hno)
      clear hz hst hno
      have fin : ∀ (b0 b1 b2 : Bool), (z == 0) = b0 → decide (V < z) = b1 → decide (z < -V) = b2 → inRb V z = (!b0 && !b1 && !b2) := fun b0 b1 b2 e0 e1 e2 => by
        unfold inRb
        rw [e0, show decide (z ≤ V) = !b1 from by rw [← e1]; by_cases hh : V < z <;> simp [hh] <;> omega, show decide (-V ≤ z) = !b2 from by rw [← e2]; by_cases hh : z < -V <;> simp [hh] <;> omega]
      have HF := Lib.hid fin
      clear fin
      cases hb0 : (z == 0) with
      | true =>
        have HR : Hid (d = false) := Lib.hid (HS.out.2 (by rw [HF.out true _ _ hb0 rfl rfl]; rfl))
        have b0 := hb0
        clear hb0
        go_wp2_with fail
        go_ret
        exact ⟨by rw [HR.out]; rfl, rfl⟩
      | false =>
        cases hb1 : decide (V < z) with
        | true =>
          have HR : Hid (d = false) := Lib.hid (HS.out.2 (by rw [HF.out false true _ hb0 hb1 rfl]; rfl))
          go_wp2_with fail
          go_ret
          exact ⟨by rw [HR.out]; rfl, rfl⟩
        | false =>
          cases hb2 : decide (z < -V) with
          | true =>
            have HR : Hid (d = false) := Lib.hid (HS.out.2 (by rw [HF.out false false true hb0 hb1 hb2]; rfl))
            go_wp2_with fail
            go_ret
            exact ⟨by rw [HR.out]; rfl, rfl⟩
          | false =>
            have HN : Hid ((L.take (k + 1)).all (inRb V) = true) := Lib.hid (by rw [HS.out.1, HF.out false false false hb0 hb1 hb2]; rfl)
            go_wp2_with fail
            go_roundg (n - (k + 1))
            case measure => rw [HI.out.1]; omega
            case rel => exact ⟨k + 1, rfl, rfl, by omega, rfl, HN.out⟩
    · have hke : k = n := by omega
      subst hke
      have f1 : decide (k < k) = false := by simp
      have HR : Hid (d = true) := Lib.hid (by rw [← HD.out]; have := HI.out.2; rwa [← HH.out.2, List.take_length] at this)
      go_wp2_with fail
      go_ret
      exact ⟨by rw [HR.out]; rfl, rfl⟩
end Go.Proofs.YtihaheinkpmnnaaGreat

namespace Go.Proofs.YtihaheinkpmnnaaGreat
set_option maxRecDepth 200000
/-- An element of a list of integers. -/
def at_ (l : List Int) (k : Nat) : Int := l.getD k 0
def swp (l : List Int) (i j : Nat) : List Int := (l.set i (at_ l j)).set j (at_ l i)
theorem at_set {l : List Int} {i : Nat} (hi : i < l.length) (x : Int) (k : Nat) : at_ (l.set i x) k = if k = i then x else at_ l k := by
  unfold at_
  rw [List.getD_eq_getElem?_getD, List.getElem?_set]
  by_cases e : i = k
  · subst e; simp [hi]
  · have e' : k ≠ i := fun h => e h.symm
    rw [if_neg e, if_neg e', ← List.getD_eq_getElem?_getD]
theorem at_some {l : List Int} {k : Nat} (h : k < l.length) : l[k]? = some (at_ l k) := by
  unfold at_; rw [List.getD_eq_getElem?_getD, List.getElem?_eq_getElem h]; rfl
theorem swp_len (l : List Int) (i j : Nat) : (swp l i j).length = l.length := by simp [swp]
theorem at_swp {l : List Int} {i j : Nat} (hi : i < l.length) (hj : j < l.length) (k : Nat) : at_ (swp l i j) k = if k = j then at_ l i else if k = i then at_ l j else at_ l k := by
  unfold swp
  rw [at_set (by simpa using hj), at_set hi]
theorem set_perm : ∀ {l : List Int} {i : Nat} (_ : i < l.length) (x : Int), (x :: l).Perm (at_ l i :: l.set i x)
  | a :: l, 0, _, x => by simp only [at_, List.getD_cons_zero, List.set_cons_zero]; exact .swap ..
  | a :: l, i + 1, h, x => by
    have ih := set_perm (l := l) (i := i) (by simpa using h) x
    have e : at_ (a :: l) (i + 1) = at_ l i := by simp [at_]
    rw [e, List.set_cons_succ]
    exact (List.Perm.swap ..).trans ((ih.cons a).trans (.swap ..))
theorem swp_perm {l : List Int} {i j : Nat} (hi : i < l.length) (hj : j < l.length) : (swp l i j).Perm l := by
  unfold swp
  have h1 := set_perm hi (at_ l j)
  have h2 := set_perm (l := l.set i (at_ l j)) (i := j) (by simpa using hj) (at_ l i)
  have e : at_ (l.set i (at_ l j)) j = at_ l j := by
    rw [at_set hi]; split <;> rename_i h
    · rfl
    · rfl
  rw [e] at h2
  have h3 := (h1.symm.cons (at_ l j)).trans ((List.Perm.swap ..).trans (((List.Perm.refl _).cons _)))
  have h4 : (at_ l j :: (l.set i (at_ l j)).set j (at_ l i)).Perm (at_ l j :: l) := h2.symm.trans h1.symm
  exact (List.perm_cons _).1 h4
/-- The parent's is not greater. -/
def Heap (n : Nat) (l : List Int) : Prop := ∀ k, 0 < k → k < n → at_ l ((k - 1) / 2) ≤ at_ l k
/-- A heap but for the element at j, which may be too small. -/
def UpI (l : List Int) (j : Nat) : Prop :=
  (∀ k, 0 < k → k < l.length → k ≠ j → at_ l ((k - 1) / 2) ≤ at_ l k) ∧ ∀ k, 0 < k → k < l.length → (k - 1) / 2 = j → 0 < j → at_ l ((j - 1) / 2) ≤ at_ l k
theorem up_push {l : List Int} (h : Heap l.length l) (x : Int) : UpI (l ++ [x]) l.length := by
  have e : ∀ k, k < l.length → at_ (l ++ [x]) k = at_ l k := fun k hk => by unfold at_; rw [List.getD_eq_getElem?_getD, List.getElem?_append_left hk, ← List.getD_eq_getElem?_getD]
  constructor
  · intro k h0 hk hne
    have hk' : k < l.length := by simp at hk; omega
    rw [e _ (by omega), e _ hk']
    exact h k h0 hk'
  · intro k h0 hk hp _
    simp at hk; omega
theorem up_stop {l : List Int} {j : Nat} (h : UpI l j) (hs : j = 0 ∨ at_ l ((j - 1) / 2) ≤ at_ l j) : Heap l.length l := by
  intro k h0 hk
  by_cases e : k = j
  · subst e
    rcases hs with hs | hs
    · omega
    · exact hs
  · exact h.1 k h0 hk e
theorem up_step {l : List Int} {j i : Nat} (h : UpI l j) (hj : j < l.length) (h0 : 0 < j) (hi : (j - 1) / 2 = i) (hlt : at_ l j < at_ l i) : UpI (swp l i j) i := by
  have hil : i < l.length := by omega
  have hne : i ≠ j := by omega
  have a := at_swp (l := l) hil hj
  constructor
  · intro k k0 hk hki
    rw [swp_len] at hk
    rw [a, a]
    by_cases e1 : k = j
    · subst e1
      rw [hi, if_neg hne, if_pos rfl, if_pos rfl]; omega
    · rw [if_neg e1, if_neg hki]
      by_cases e2 : (k - 1) / 2 = j
      · rw [if_pos e2]
        have := h.2 k k0 hk e2 h0
        rwa [hi] at this
      · rw [if_neg e2]
        have := h.1 k k0 hk e1
        by_cases e3 : (k - 1) / 2 = i
        · rw [if_pos e3]; rw [e3] at this; omega
        · rw [if_neg e3]; exact this
  · intro k k0 hk hki hi0
    rw [swp_len] at hk
    have h1 := h.1 i hi0 hil hne
    rw [a, a, if_neg (by omega : (i - 1) / 2 ≠ j), if_neg (by omega : (i - 1) / 2 ≠ i)]
    by_cases e1 : k = j
    · rw [if_pos e1]; exact h1
    · rw [if_neg e1, if_neg (by omega : k ≠ i)]
      have := h.1 k k0 hk e1
      rw [hki] at this
      omega
/-- A heap of the first n but for the element at i, which may be too great. -/
def DnI (n : Nat) (l : List Int) (i : Nat) : Prop :=
  (∀ k, 0 < k → k < n → (k - 1) / 2 ≠ i → at_ l ((k - 1) / 2) ≤ at_ l k) ∧ ∀ k, 0 < k → k < n → (k - 1) / 2 = i → 0 < i → at_ l ((i - 1) / 2) ≤ at_ l k
theorem dn_stop {n : Nat} {l : List Int} {i : Nat} (h : DnI n l i) (h1 : 2 * i + 1 < n → at_ l i ≤ at_ l (2 * i + 1)) (h2 : 2 * i + 2 < n → at_ l i ≤ at_ l (2 * i + 2)) : Heap n l := by
  intro k h0 hk
  by_cases e : (k - 1) / 2 = i
  · rcases (by omega : k = 2 * i + 1 ∨ k = 2 * i + 2) with rfl | rfl
    · rw [e]; exact h1 hk
    · rw [e]; exact h2 hk
  · exact h.1 k h0 hk e
theorem dn_step {n : Nat} {l : List Int} {i j : Nat} (h : DnI n l i) (hn : n ≤ l.length) (hj : j < n) (hji : j = 2 * i + 1 ∨ j = 2 * i + 2) (h1 : at_ l j ≤ at_ l (2 * i + 1)) (h2 : 2 * i + 2 < n → at_ l j ≤ at_ l (2 * i + 2)) (hlt : at_ l j < at_ l i) : DnI n (swp l i j) j := by
  have hil : i < l.length := by omega
  have hjl : j < l.length := by omega
  have hne : i ≠ j := by omega
  have a := at_swp (l := l) hil hjl
  constructor
  · intro k k0 hk hkj
    rw [a, a, if_neg hkj]
    by_cases e1 : k = j
    · subst e1
      rw [if_pos rfl, if_pos (by omega)]; omega
    · rw [if_neg e1]
      by_cases e2 : (k - 1) / 2 = i
      · rw [if_pos e2, if_neg (by omega : k ≠ i)]
        rcases (by omega : k = 2 * i + 1 ∨ k = 2 * i + 2) with rfl | rfl
        · exact h1
        · exact h2 hk
      · rw [if_neg e2]
        by_cases e3 : k = i
        · rw [if_pos e3]; subst e3
          exact h.2 j (by omega) hj (by omega) k0
        · rw [if_neg e3]; exact h.1 k k0 hk e2
  · intro k k0 hk hkj hj0
    have e : (j - 1) / 2 = i := by omega
    rw [a, a, e, if_neg hne, if_pos rfl, if_neg (by omega : k ≠ j), if_neg (by omega : k ≠ i)]
    have := h.1 k k0 hk (by omega)
    rwa [hkj] at this
theorem heap_min {l : List Int} {n : Nat} (h : Heap n l) : ∀ k, k < n → at_ l 0 ≤ at_ l k := by
  intro k
  induction k using Nat.strongRecOn with
  | _ k ih =>
    intro hk
    by_cases e : k = 0
    · subst e; omega
    · have h1 := h k (by omega) hk
      have h2 := ih ((k - 1) / 2) (by omega) (by omega)
      omega
theorem dn_first {l : List Int} {n : Nat} (h : Heap l.length l) (hn : l.length = n + 1) : DnI n (swp l 0 n) 0 := by
  have a := at_swp (l := l) (i := 0) (j := n) (by omega) (by omega)
  constructor
  · intro k k0 hk hne
    rw [a, a, if_neg (by omega), if_neg hne, if_neg (by omega : k ≠ n), if_neg (by omega : k ≠ 0)]
    exact h k k0 (by omega)
  · intro k _ _ _ h0; omega
theorem heap_take {n : Nat} {l : List Int} (h : Heap n l) (hn : n ≤ l.length) : Heap (l.take n).length (l.take n) := by
  intro k k0 hk
  have hk' : k < n := by simp at hk; omega
  have e : ∀ m, m < n → at_ (l.take n) m = at_ l m := fun m hm => by unfold at_; rw [List.getD_eq_getElem?_getD, List.getElem?_take_of_lt hm, ← List.getD_eq_getElem?_getD]
  rw [e _ (by omega), e _ hk']
  exact h k k0 hk'
theorem take_last {l : List Int} {n : Nat} (h : l.length = n + 1) : l = l.take n ++ [at_ l n] := by
  have := List.take_succ_eq_append_getElem (l := l) (i := n) (by omega)
  rw [← h, List.take_length] at this
  unfold at_
  rw [List.getD_eq_getElem?_getD, List.getElem?_eq_getElem (by omega)]
  exact this
end Go.Proofs.YtihaheinkpmnnaaGreat
