/- Relations, states and rows of states in memory. -/
import Derived.Test.YtbddpjofhddilaaUU
namespace Go.Proofs.Ytbddpjofhddilaa
open Go.RowKit

/-- A row of integers that is read: where it is empty, nothing is known of its place. -/
def IntsW (w : World) (a : Option Addr) (c : Nat) (zs : List Int) : Prop :=
  zs.length ≤ c ∧ (zs = [] ∨ ∃ b o, a = some ⟨b, o, none⟩ ∧ ∀ (j : Nat) (z : Int), zs[j]? = some z → w.cell? ⟨b, o + j, none⟩ = some (.int .i64 z))
theorem Ints.weak {w : World} {a : Option Addr} {c : Nat} {zs : List Int} (h : Ints w a c zs) : IntsW w a c zs := by
  obtain ⟨hc, h | ⟨b, o, ha, _, hz⟩⟩ := h
  · exact ⟨hc, .inl h.1⟩
  · exact ⟨hc, .inr ⟨b, o, ha, hz⟩⟩
theorem IntsW.grown {w w' : World} {a : Option Addr} {c : Nat} {zs : List Int} (h : IntsW w a c zs) (hg : w.grownBy w' none) : IntsW w' a c zs := by
  obtain ⟨hc, h | ⟨b, o, ha, hz⟩⟩ := h
  · exact ⟨hc, .inl h⟩
  · exact ⟨hc, .inr ⟨b, o, ha, fun j z hj => hg.cell (hz j z hj) (by simp)⟩⟩
theorem IntsW.at {w : World} {a : Option Addr} {c : Nat} {zs : List Int} (h : IntsW w a c zs) {i : Nat} {z : Int} (hz : zs[i]? = some z) : ∃ b o, a = some ⟨b, o, none⟩ ∧ w.cell? ⟨b, o + i, none⟩ = some (.int .i64 z) := by
  obtain ⟨_, h | ⟨b, o, ha, hc⟩⟩ := h
  · rw [h] at hz; simp at hz
  · exact ⟨b, o, ha, hc i z hz⟩
theorem lies_lt {w : World} {a : Addr} {v : Value} (h : w.cell? a = some v) : a.block < w.heap.size := by
  unfold World.cell? at h
  split at h
  · rename_i hb; exact (Array.getElem?_eq_some_iff.1 hb).1
  · cases h
theorem IntsW.strict {w : World} {a : Option Addr} {c : Nat} {zs : List Int} (h : IntsW w a c zs) (hne : zs ≠ []) : Ints w a c zs := by
  obtain ⟨hc, h | ⟨b, o, ha, hz⟩⟩ := h
  · exact absurd h hne
  · refine ⟨hc, .inr ⟨b, o, ha, ?_, hz⟩⟩
    cases zs with
    | nil => exact absurd rfl hne
    | cons z l => exact lies_lt (hz 0 z rfl)
theorem ints_nil (w : World) : Ints w none 0 [] := ⟨Nat.le_refl _, .inl ⟨rfl, rfl, rfl⟩⟩
theorem intsW_nil (w : World) (a : Option Addr) (c : Nat) : IntsW w a c [] := ⟨Nat.zero_le _, .inl rfl⟩
/-- A relation: its arity, its tuples. -/
abbrev Rl := Int × List Int
def RelAt (w : World) (b o : Nat) (r : Rl) : Prop :=
  w.cell? ⟨b, o, none⟩ = some (.int .i64 r.1) ∧ ∃ a c, w.cell? ⟨b, o + 1, none⟩ = some (.slice a r.2.length c) ∧ IntsW w a c r.2
theorem RelAt.grown {w w' : World} {b o : Nat} {r : Rl} (h : RelAt w b o r) (hg : w.grownBy w' none) : RelAt w' b o r := by
  obtain ⟨h0, a, c, h1, hi⟩ := h
  exact ⟨hg.cell h0 (by simp), a, c, hg.cell h1 (by simp), hi.grown hg⟩
/-- A row of relations that is read. -/
def Rels (w : World) (a : Option Addr) (c : Nat) (l : List Rl) : Prop :=
  l.length ≤ c ∧ ∀ (j : Nat) (r : Rl), l[j]? = some r → ∃ b o, a = some ⟨b, o, none⟩ ∧ RelAt w b (o + j * 2) r
theorem Rels.grown {w w' : World} {a : Option Addr} {c : Nat} {l : List Rl} (h : Rels w a c l) (hg : w.grownBy w' none) : Rels w' a c l :=
  ⟨h.1, fun j x hj => by obtain ⟨b, o, ha, hc⟩ := h.2 j x hj; exact ⟨b, o, ha, hc.grown hg⟩⟩
theorem rels_nil (w : World) : Rels w none 0 [] := ⟨Nat.le_refl _, fun j z hj => by simp at hj⟩
/-- A row of states that is read. -/
def Sts (w : World) (a : Option Addr) (c : Nat) (L : List (List Rl)) : Prop :=
  L.length ≤ c ∧ ∀ (j : Nat) (l : List Rl), L[j]? = some l → ∃ b o, a = some ⟨b, o, none⟩ ∧ ∃ a' c', w.cell? ⟨b, o + j, none⟩ = some (.slice a' l.length c') ∧ Rels w a' c' l
theorem Sts.grown {w w' : World} {a : Option Addr} {c : Nat} {L : List (List Rl)} (h : Sts w a c L) (hg : w.grownBy w' none) : Sts w' a c L :=
  ⟨h.1, fun j x hj => by obtain ⟨b, o, ha, a', c', h0, hc⟩ := h.2 j x hj; exact ⟨b, o, ha, a', c', hg.cell h0 (by simp), hc.grown hg⟩⟩
theorem sts_nil (w : World) : Sts w none 0 [] := ⟨Nat.le_refl _, fun j z hj => by simp at hj⟩

/-- Lengths that fit. -/
def Len (l : List Rl) : Prop := (l.length : Int) ≤ 9223372036854775807 ∧ ∀ r ∈ l, (r.2.length : Int) ≤ 9223372036854775807
def Lens (L : List (List Rl)) : Prop := (L.length : Int) ≤ 9223372036854775807 ∧ ∀ l ∈ L, Len l

theorem list_ne {α : Type} {xs ys : List α} {i : Nat} {x y : α} (hx : xs[i]? = some x) (hy : ys[i]? = some y) (h : x ≠ y) : xs ≠ ys := by
  rintro rfl; rw [hx] at hy; cases hy; exact h rfl
theorem list_eq {α : Type} {xs ys : List α} {n : Nat} (hx : xs.length = n) (hy : ys.length = n) (h : ∀ j, j < n → xs[j]? = ys[j]?) : xs = ys := by
  apply List.ext_getElem?
  intro j
  by_cases hj : j < n
  · exact h j hj
  · rw [List.getElem?_eq_none (by omega), List.getElem?_eq_none (by omega)]
theorem agree_step {α : Type} {xs ys : List α} {i : Nat} (h : ∀ j, j < i → xs[j]? = ys[j]?) (hi : xs[i]? = ys[i]?) : ∀ j, j < i + 1 → xs[j]? = ys[j]? := by
  intro j hj
  by_cases hji : j < i
  · exact h j hji
  · have : j = i := by omega
    subst this; exact hi
end Go.Proofs.Ytbddpjofhddilaa
