/- What the law of overrides needs about the first columns' rows in memory. -/
import Derived.Test.YtkoigonbncpbaaaM9
import Derived.Test.YtkoigonbncpbaaaC1
namespace Go.Proofs.Ytkoigonbncpbaaa
open Go.RowKit Go.Shelf

/-- A relation of one column in two cells, its row in a span behind block p. -/
def FRow (W : World) (p : Nat) (fk fv : Value) (F : List Int) : Prop :=
  fk = .int .i64 1 ∧ ∃ a c, fv = .slice a F.length c ∧ ∃ lo hi, p < lo ∧ Span lo hi W (fun X => IntsW X a c F)
theorem FRow.off {W W' : World} {p : Nat} {fk fv : Value} {F : List Int} {r : Option Nat} (h : FRow W p fk fv F) (hg : W.grownBy W' r) (hr : ∀ x, r = some x → x ≤ p) : FRow W' p fk fv F := by
  obtain ⟨h1, a, c, h2, lo, hi, h3, h4⟩ := h
  exact ⟨h1, a, c, h2, lo, hi, h3, h4.off hg fun x e => .inl (by have := hr x e; omega)⟩
/-- The three firsts, the first j of them there. -/
def FsAt (W : World) (p j : Nat) (F0 F1 F2 : List Int) : Prop :=
  ∃ f0 f1 f2 f3 f4 f5, Six W p f0 f1 f2 f3 f4 f5 ∧ (0 < j → FRow W p f0 f1 F0) ∧ (1 < j → FRow W p f2 f3 F1) ∧ (2 < j → FRow W p f4 f5 F2)
theorem FsAt.grown {W W' : World} {p j : Nat} {F0 F1 F2 : List Int} (h : FsAt W p j F0 F1 F2) (hg : W.grownBy W' none) : FsAt W' p j F0 F1 F2 := by
  obtain ⟨f0, f1, f2, f3, f4, f5, h0, h1, h2, h3⟩ := h
  exact ⟨f0, f1, f2, f3, f4, f5, h0.off hg (fun x e => by cases e), fun q => (h1 q).off hg (fun x e => by cases e), fun q => (h2 q).off hg (fun x e => by cases e), fun q => (h3 q).off hg (fun x e => by cases e)⟩
theorem six_set0 {X : World} {g : Nat} {u0 u1 u2 u3 u4 u5 : Value} (h : Six X g u0 u1 u2 u3 u4 u5) (v0 v1 : Value) :
    Six ((X.setCell ⟨g, 0, none⟩ v0).setCell ⟨g, 1, none⟩ v1) g v0 v1 u2 u3 u4 u5 ∧ X.grownBy ((X.setCell ⟨g, 0, none⟩ v0).setCell ⟨g, 1, none⟩ v1) (some g) := by
  obtain ⟨⟨h0, h1, h2, h3, h4, h5⟩, hf⟩ := h
  refine ⟨⟨⟨?_, ?_, ?_, ?_, ?_, ?_⟩, fun o => by simp only [World.frozen?_setCell]; exact hf o⟩, (grown_set _ _ _ _).trans (grown_set _ _ _ _)⟩
  · rw [World.cell?_setCell_other _ _ _ _ (ne_off (by decide))]; exact World.cell?_setCell_same' _ _ _ (by rw [h0]; rfl)
  · exact World.cell?_setCell_same' _ _ _ (by rw [World.cell?_setCell_other _ _ _ _ (ne_off (by decide)), h1]; rfl)
  · rw [World.cell?_setCell_other _ _ _ _ (ne_off (by decide)), World.cell?_setCell_other _ _ _ _ (ne_off (by decide))]; exact h2
  · rw [World.cell?_setCell_other _ _ _ _ (ne_off (by decide)), World.cell?_setCell_other _ _ _ _ (ne_off (by decide))]; exact h3
  · rw [World.cell?_setCell_other _ _ _ _ (ne_off (by decide)), World.cell?_setCell_other _ _ _ _ (ne_off (by decide))]; exact h4
  · rw [World.cell?_setCell_other _ _ _ _ (ne_off (by decide)), World.cell?_setCell_other _ _ _ _ (ne_off (by decide))]; exact h5
theorem six_set1 {X : World} {g : Nat} {u0 u1 u2 u3 u4 u5 : Value} (h : Six X g u0 u1 u2 u3 u4 u5) (v0 v1 : Value) :
    Six ((X.setCell ⟨g, 2, none⟩ v0).setCell ⟨g, 3, none⟩ v1) g u0 u1 v0 v1 u4 u5 ∧ X.grownBy ((X.setCell ⟨g, 2, none⟩ v0).setCell ⟨g, 3, none⟩ v1) (some g) := by
  obtain ⟨⟨h0, h1, h2, h3, h4, h5⟩, hf⟩ := h
  refine ⟨⟨⟨?_, ?_, ?_, ?_, ?_, ?_⟩, fun o => by simp only [World.frozen?_setCell]; exact hf o⟩, (grown_set _ _ _ _).trans (grown_set _ _ _ _)⟩
  · rw [World.cell?_setCell_other _ _ _ _ (ne_off (by decide)), World.cell?_setCell_other _ _ _ _ (ne_off (by decide))]; exact h0
  · rw [World.cell?_setCell_other _ _ _ _ (ne_off (by decide)), World.cell?_setCell_other _ _ _ _ (ne_off (by decide))]; exact h1
  · rw [World.cell?_setCell_other _ _ _ _ (ne_off (by decide))]; exact World.cell?_setCell_same' _ _ _ (by rw [h2]; rfl)
  · exact World.cell?_setCell_same' _ _ _ (by rw [World.cell?_setCell_other _ _ _ _ (ne_off (by decide)), h3]; rfl)
  · rw [World.cell?_setCell_other _ _ _ _ (ne_off (by decide)), World.cell?_setCell_other _ _ _ _ (ne_off (by decide))]; exact h4
  · rw [World.cell?_setCell_other _ _ _ _ (ne_off (by decide)), World.cell?_setCell_other _ _ _ _ (ne_off (by decide))]; exact h5
theorem six_set2 {X : World} {g : Nat} {u0 u1 u2 u3 u4 u5 : Value} (h : Six X g u0 u1 u2 u3 u4 u5) (v0 v1 : Value) :
    Six ((X.setCell ⟨g, 4, none⟩ v0).setCell ⟨g, 5, none⟩ v1) g u0 u1 u2 u3 v0 v1 ∧ X.grownBy ((X.setCell ⟨g, 4, none⟩ v0).setCell ⟨g, 5, none⟩ v1) (some g) := by
  obtain ⟨⟨h0, h1, h2, h3, h4, h5⟩, hf⟩ := h
  refine ⟨⟨⟨?_, ?_, ?_, ?_, ?_, ?_⟩, fun o => by simp only [World.frozen?_setCell]; exact hf o⟩, (grown_set _ _ _ _).trans (grown_set _ _ _ _)⟩
  · rw [World.cell?_setCell_other _ _ _ _ (ne_off (by decide)), World.cell?_setCell_other _ _ _ _ (ne_off (by decide))]; exact h0
  · rw [World.cell?_setCell_other _ _ _ _ (ne_off (by decide)), World.cell?_setCell_other _ _ _ _ (ne_off (by decide))]; exact h1
  · rw [World.cell?_setCell_other _ _ _ _ (ne_off (by decide)), World.cell?_setCell_other _ _ _ _ (ne_off (by decide))]; exact h2
  · rw [World.cell?_setCell_other _ _ _ _ (ne_off (by decide)), World.cell?_setCell_other _ _ _ _ (ne_off (by decide))]; exact h3
  · rw [World.cell?_setCell_other _ _ _ _ (ne_off (by decide))]; exact World.cell?_setCell_same' _ _ _ (by rw [h4]; rfl)
  · exact World.cell?_setCell_same' _ _ _ (by rw [World.cell?_setCell_other _ _ _ _ (ne_off (by decide)), h5]; rfl)
theorem VR.first {n k p : Nat} {A : List Int} (h : VR n k A) (hk : 1 ≤ k) (hn : 1 ≤ n) (hp : n ^ (k - 1) = p) : VR n 1 (uniq (divL p A)) := by
  refine ⟨uniq_up _, fun z hz => ?_⟩
  obtain ⟨x, hx, rfl⟩ := List.mem_map.1 (mem_uniq.1 hz)
  obtain ⟨m, rfl, hm⟩ := h.nat hx
  have hp1 : 0 < p := by rw [← hp]; exact Nat.pow_pos (by omega)
  have hlt : m / p < n ^ 1 := by
    rw [Nat.pow_one]
    refine (Nat.div_lt_iff_lt_mul hp1).2 ?_
    rw [← hp, ← Nat.pow_succ', Nat.succ_eq_add_one, Nat.sub_add_cancel hk]
    exact hm
  exact ⟨by exact_mod_cast Int.natCast_nonneg (m / p), by exact_mod_cast hlt⟩
theorem VR.len125 {n k : Nat} {A : List Int} (h : VR n k A) (hn : n ≤ 5) (hk : k ≤ 3) : A.length ≤ 125 := by
  have h1 := up_len h.up h.lo (Int.natCast_nonneg _)
  have h2 : n ^ k ≤ 125 := Nat.le_trans (Nat.pow_le_pow_left hn k) (Nat.pow_le_pow_right (by omega) hk)
  omega
theorem ofV {rs F : List Int} {l : Nat} {ra : Option Addr} {rc : Nat} {w : World} (h : IntsW w ra rc rs) (hl : rs.length = l) (hb : l ≤ 10000) (hF : uniq rs = F) :
    Calls Try.prog 40 #[.int .i64 1, .slice ra l rc] w fun e w' => ∃ a c, e = .returned (.agg #[.int .i64 1, .slice a F.length c]) ∧ Span w.heap.size w'.heap.size w' (fun W => IntsW W a c F) ∧ w.grownBy w' none := by
  subst hl hF
  exact of_calls 1 rs ra rc w h hb
theorem divL_len (r : Nat) (ys : List Int) : (divL r ys).length = ys.length := by simp [divL]
end Go.Proofs.Ytkoigonbncpbaaa
