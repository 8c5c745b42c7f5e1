/- The scope that is made of raw data. -/
import Derived.Test.YtbddpjofhddilaaUE
namespace Go.Proofs.Ytbddpjofhddilaa
open Go.RowKit

def sizes : List Nat → Nat → Nat → List Nat
  | [], _, _ => []
  | _ :: _, 0, _ => []
  | z :: zs, n + 1, left => if left = 0 then [] else min (z % 5 + 1) left :: sizes zs n (left - min (z % 5 + 1) left)
def scopeL (raw : List Nat) : List Nat := sizes raw 4 12
theorem sizes_stop {zs : List Nat} {n left : Nat} (h : zs = [] ∨ n = 0 ∨ left = 0) : sizes zs n left = [] := by
  match zs, n, h with
  | [], _, _ => rfl
  | _ :: _, 0, _ => rfl
  | z :: zs, n + 1, h =>
    have : left = 0 := by rcases h with h | h | h <;> simp_all
    simp [sizes, this]
theorem sizes_bound : ∀ (zs : List Nat) (n left : Nat), (sizes zs n left).length ≤ n ∧ sum (sizes zs n left) ≤ left ∧ ∀ z ∈ sizes zs n left, 1 ≤ z ∧ z ≤ 5
  | [], n, left => by simp [sizes, sum]
  | _ :: _, 0, left => by simp [sizes, sum]
  | z :: zs, n + 1, left => by
    simp only [sizes]
    split
    · simp [sum]
    · have ih := sizes_bound zs n (left - min (z % 5 + 1) left)
      refine ⟨by simp; exact ih.1, ?_, fun y hy => ?_⟩
      · have := ih.2.1; simp only [sum]; omega
      · rcases List.mem_cons.1 hy with rfl | h
        · omega
        · exact ih.2.2 y h

theorem info3 : (Try.prog.info? 3).map (fun i => (i.zero, i.size, i.bytes)) = some (some (.int .i64 0), 1, 8) := by kernel_rfl

abbrev numCells (l : List Nat) : List Value := l.map fun (z : Nat) => Value.int .i64 (z : Int)
/-- A row of the call's own, as cells. -/
theorem own_nums {w : World} {B : Nat} {v : Value} {l : List Nat} (h : w.ownsRow B 3 1 v l.length (numCells l)) : ∃ a c, v = .slice a l.length c ∧ Nums w a c l := by
  have hc := @World.ownsRow.cells w B 3 1 v l.length _ h
  rcases h.2 with ⟨hv, h0⟩ | ⟨g, cap, cur, rfl, hb, hg, hnc, hcm, _⟩
  · have hl : l = [] := List.eq_nil_of_length_eq_zero h0
    subst hl
    exact ⟨none, 0, hv, Nat.le_refl _, .inl ⟨rfl, rfl, rfl⟩⟩
  · refine ⟨_, _, rfl, hnc, .inr ⟨g, 0, rfl, (Array.getElem?_eq_some_iff.1 hg).1, fun j z hj => ?_⟩⟩
    have := hc (g := g) rfl j (.int .i64 (z : Int)) (by rw [numCells, List.getElem?_map, hj]; rfl)
    have hadd : (⟨g, 0, none⟩ : Addr).add j = ⟨g, j, none⟩ := by unfold Addr.add; split <;> simp_all
    rw [hadd] at this
    rw [Nat.zero_add]; exact this

/-- Raw bytes that are read. -/
def Bytes (w : World) (a : Option Addr) (_c : Nat) (zs : List Nat) : Prop :=
  (∀ z ∈ zs, z < 256) ∧ ∀ j z : Nat, zs[j]? = some z → ∃ b o, a = some ⟨b, o, none⟩ ∧ w.cell? ⟨b, o + j, none⟩ = some (.int .u8 (z : Int))
theorem Bytes.grown {w w' : World} {a : Option Addr} {c : Nat} {zs : List Nat} (h : Bytes w a c zs) (hg : w.grownBy w' none) : Bytes w' a c zs :=
  ⟨h.1, fun j z hj => by obtain ⟨b, o, ha, hc⟩ := h.2 j z hj; exact ⟨b, o, ha, hg.cell hc (by simp)⟩⟩

theorem grown_set (w : World) (b o : Nat) (v : Value) : w.grownBy (w.setCell ⟨b, o, none⟩ v) (some b) :=
  ⟨rfl, rfl, rfl, by simp [World.setCell], fun k _ hk => Below.heap_setCell _ _ _ _ (fun e => hk (by rw [e]))⟩
theorem own_ne {w : World} {B b : Nat} {e : TypeId} {size n : Nat} {v : Value} {xs : List Value} (h : w.ownsRow B e size v n xs) (hb : b < B) : v.ownBlock = none ∨ v.ownBlock ≠ some b := by
  cases hv : v.ownBlock with
  | none => exact .inl rfl
  | some k => have := (h.lt k hv).1; exact .inr (by simp; omega)
theorem grown_own {w w1 : World} {r : Option Nat} (h : w.grownBy w1 none) {w2 : World} (h2 : w1.grownBy w2 r) (hr : ∀ k, r = some k → w.heap.size ≤ k) : w.grownBy w2 none :=
  ⟨h2.os.trans h.os, h2.tape.trans h.tape, h2.output.trans h.output, Nat.le_trans h.size h2.size, fun k hk _ => by
    rw [h2.block k (by have := h.size; omega) (fun e => by have := hr k e.symm; omega)]; exact h.block k hk (by simp)⟩

theorem own_shape {w : World} {B n size : Nat} {e : TypeId} {v : Value} {xs : List Value} (h : w.ownsRow B e size v n xs) : ∃ a c, v = .slice a n c := by
  rcases h.2 with ⟨hv, h0⟩ | ⟨g, cap, cur, rfl, _⟩
  · exact ⟨none, 0, by rw [hv, h0]⟩
  · exact ⟨_, _, rfl⟩
/-- The scope that is being made, in block b + 1; the result's cell is block b. -/
structure ScB (w wr : World) (b T : Nat) (l : List Nat) (v : Value) : Prop where
  c0 : wr.cell? ⟨b + 1, 0, none⟩ = some v
  c1 : wr.cell? ⟨b + 1, 1, none⟩ = some (.int .i64 (T : Int))
  fr : wr.frozen? ⟨b + 1, 0, none⟩ = false
  own : wr.ownsRow (b + 2) 3 1 v l.length (numCells l)
  grown : w.grownBy wr none
  size : w.heap.size = b ∧ b + 2 ≤ wr.heap.size
  r0 : (wr.cell? ⟨b, 0, none⟩).isSome = true ∧ wr.frozen? ⟨b, 0, none⟩ = false
  r1 : (wr.cell? ⟨b, 1, none⟩).isSome = true ∧ wr.frozen? ⟨b, 1, none⟩ = false
theorem ScB.start (w : World) (b T : Nat) (hb : w.heap.size = b) : ScB w ((w.alloc (.cells #[.slice none 0 0, .int .i64 0] 30)).alloc (.cells #[.slice none 0 0, .int .i64 (T : Int)] 30)) b T [] (.slice none 0 0) := by
  subst hb
  have g1 := World.grownBy_alloc w (.cells #[.slice none 0 0, .int .i64 0] 30) none
  have g2 := World.grownBy_alloc (w.alloc (.cells #[.slice none 0 0, .int .i64 0] 30)) (.cells #[.slice none 0 0, .int .i64 (T : Int)] 30) none
  exact ⟨by go_simp, by go_simp, by go_simp, World.ownsRow_nil _ _ _ _, g1.trans g2, ⟨rfl, by simp⟩, ⟨by go_simp, by go_simp⟩, ⟨by go_simp, by go_simp⟩⟩
theorem ScB.at_ {w wr w3 : World} {b T : Nat} {l : List Nat} {v : Value} {o : Obj} (h : ScB w wr b T l v) (hg : (wr.alloc o).grownBy w3 v.ownBlock) :
    w3.cell? ⟨b + 1, 0, none⟩ = some v ∧ w3.frozen? ⟨b + 1, 0, none⟩ = false := by
  have hne : some (b + 1) ≠ v.ownBlock := fun e => by
    rcases own_ne h.own (Nat.lt_succ_self (b + 1)) with h1 | h1
    · rw [h1] at e; cases e
    · exact h1 e.symm
  have ha := World.grownBy_alloc wr o none
  have hlt := World.block_lt_of_cell? wr ⟨b + 1, 0, none⟩ h.c0
  have e1 := ha.block (b + 1) hlt (by simp)
  have e2 := hg.block (b + 1) (Nat.lt_of_lt_of_le hlt ha.size) hne
  exact ⟨hg.cell (ha.cell h.c0 (by simp)) hne, (World.frozen?_of_block (a := ⟨b + 1, 0, none⟩) (e2.trans e1)).trans h.fr⟩
theorem ScB.step {w wr w3 : World} {b T z : Nat} {l : List Nat} {v v' : Value} {o : Obj} (h : ScB w wr b T l v) (hown : w3.ownsRow (b + 2) 3 1 v' (l.length + 1) (numCells l ++ [.int .i64 (z : Int)]))
    (hg : (wr.alloc o).grownBy w3 v.ownBlock) : ScB w (w3.setCell ⟨b + 1, 0, none⟩ v') b T (l ++ [z]) v' := by
  have hne : ∀ k, k < b + 2 → some k ≠ v.ownBlock := fun k hk e => by
    rcases own_ne h.own hk with h1 | h1
    · rw [h1] at e; cases e
    · exact h1 e.symm
  have ha := World.grownBy_alloc wr o none
  have hcell : ∀ (k j : Nat) (u : Value), k < b + 2 → wr.cell? ⟨k, j, none⟩ = some u → w3.cell? ⟨k, j, none⟩ = some u := fun k j u hk hc =>
    hg.cell (ha.cell hc (by simp)) (fun e => hne k hk e)
  have hfr : ∀ (k j : Nat), k < b + 2 → (wr.cell? ⟨k, j, none⟩).isSome = true → w3.frozen? ⟨k, j, none⟩ = wr.frozen? ⟨k, j, none⟩ := fun k j hk hc => by
    have hlt := World.block_lt_of_cell? wr ⟨k, j, none⟩ (Option.isSome_iff_exists.1 hc).choose_spec
    have e1 := ha.block k hlt (by simp)
    have e2 := hg.block k (Nat.lt_of_lt_of_le hlt ha.size) (fun e => hne k hk e)
    exact World.frozen?_of_block (a := ⟨k, j, none⟩) (e2.trans e1)
  have hsz : w3.heap.size ≥ b + 2 := by have h1 := h.size.2; have h2 := ha.size; have h3 := hg.size; omega
  have hk : ∀ (k j : Nat), k ≤ b → (wr.cell? ⟨k, j, none⟩).isSome = true → ((w3.setCell ⟨b + 1, 0, none⟩ v').cell? ⟨k, j, none⟩).isSome = true := fun k j hkb hc => by
    obtain ⟨u, hu⟩ := Option.isSome_iff_exists.1 hc
    rw [World.cell?_setCell_other _ _ _ _ (by intro e; injection e with e1; omega), hcell k j u (by omega) hu]; rfl
  have hown' : w3.ownsRow (b + 2) 3 1 v' (l ++ [z]).length (numCells (l ++ [z])) := by
    rw [List.length_append, numCells, List.map_append]; exact hown
  refine ⟨World.cell?_setCell_same' _ _ _ (by rw [hcell (b + 1) 0 _ (by omega) h.c0]; rfl), ?_, ?_, ?_, ?_, ⟨h.size.1, by simpa [World.setCell] using hsz⟩, ⟨hk b 0 (Nat.le_refl _) h.r0.1, ?_⟩, ⟨hk b 1 (Nat.le_refl _) h.r1.1, ?_⟩⟩
  · rw [World.cell?_setCell_other _ _ _ _ (by intro e; injection e with _ e1; omega)]; exact hcell (b + 1) 1 _ (by omega) h.c1
  · rw [World.frozen?_setCell, hfr (b + 1) 0 (by omega) (by rw [h.c0]; rfl)]; exact h.fr
  · exact hown'.kept (grown_set _ _ _ _) (own_ne hown' (by omega))
  · refine grown_own (grown_own (h.grown.trans ha) hg (fun k hk => ?_)) (grown_set _ _ _ _) (fun k hk => ?_)
    · have := (h.own.lt k hk).1; have := h.size.1; omega
    · cases hk; have := h.size.1; omega
  · rw [World.frozen?_setCell, hfr b 0 (by omega) h.r0.1]; exact h.r0.2
  · rw [World.frozen?_setCell, hfr b 1 (by omega) h.r1.1]; exact h.r1.2

end Go.Proofs.Ytbddpjofhddilaa
