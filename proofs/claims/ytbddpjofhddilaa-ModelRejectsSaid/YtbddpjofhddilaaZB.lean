/- Rows of states and of relations that are copied and changed: where they lie. -/
import Derived.Test.YtbddpjofhddilaaZA
import Derived.Deep.Slices
import Derived.Laws.OwnMore
namespace Go.Proofs.Ytbddpjofhddilaa
open Go.RowKit

/-- The states of a row, with their own rows. -/
def rowOf (D : List Ds) : List Value := D.map fun d => .slice d.2.1 d.1.length d.2.2
theorem sts_rows {w : World} {b o c : Nat} {L : List (List Rl)} (h : Sts w (some ⟨b, o, none⟩) c L) :
    ∃ D : List Ds, D.map (·.1) = L ∧ (∀ d ∈ D, Rels w d.2.1 d.2.2 d.1) ∧ ∀ (j : Nat) (u : Value), (rowOf D)[j]? = some u → w.cell? ⟨b, o + j, none⟩ = some u := by
  have h1 : ∀ j, j < L.length → ∃ d : Ds, L[j]? = some d.1 ∧ Rels w d.2.1 d.2.2 d.1 ∧ w.cell? ⟨b, o + j, none⟩ = some (.slice d.2.1 d.1.length d.2.2) := by
    intro j hj
    obtain ⟨b', o', e, a', c', h0, hr⟩ := h.2 j L[j] (List.getElem?_eq_getElem hj)
    cases e
    exact ⟨(L[j], a', c'), List.getElem?_eq_getElem hj, hr, h0⟩
  obtain ⟨f, hf⟩ := Go.Deep.choose_lt h1
  have hlen : ((List.range L.length).map f).length = L.length := by simp
  refine ⟨(List.range L.length).map f, ?_, ?_, ?_⟩
  · apply List.ext_getElem?
    intro j
    by_cases hj : j < L.length
    · rw [List.map_map, List.getElem?_map, List.getElem?_range hj, (hf j hj).1]; rfl
    · rw [List.getElem?_eq_none (by simpa using hj), List.getElem?_eq_none (by omega)]
  · intro d hd
    obtain ⟨j, hj, rfl⟩ := List.mem_map.1 hd
    exact (hf j (List.mem_range.1 hj)).2.1
  · intro j u hu
    have hj : j < L.length := by have := (List.getElem?_eq_some_iff.1 hu).1; simpa [rowOf] using this
    rw [rowOf, List.getElem?_map, List.getElem?_map, List.getElem?_range hj] at hu
    simp only [Option.map_some, Option.some.injEq] at hu
    rw [(hf j hj).2.2, ← hu]
theorem sts_of_row {w : World} {B n : Nat} {v : Value} {D : List Ds} (h : w.ownsRow B 40 1 v n (rowOf D)) (hn : D.length = n) (hr : ∀ d ∈ D, Rels w d.2.1 d.2.2 d.1) : ∃ a c, v = .slice a n c ∧ Sts w a c (D.map (·.1)) := by
  have hc := @World.ownsRow.cells w B 40 1 v n _ h
  rcases h.2 with ⟨hv, h0⟩ | ⟨g, cap, cur, rfl, hb, hg, hnc, hcm, _⟩
  · have hl : D = [] := List.eq_nil_of_length_eq_zero (by omega)
    subst hl
    exact ⟨none, 0, by rw [hv, h0], Nat.le_refl _, fun j l hj => by simp at hj⟩
  · refine ⟨_, _, rfl, by rw [List.length_map, hn]; exact hnc, fun j l hj => ?_⟩
    rw [List.getElem?_map] at hj
    cases hd : D[j]? with
    | none => rw [hd] at hj; cases hj
    | some d =>
      rw [hd] at hj
      cases hj
      have := hc (g := g) rfl j (.slice d.2.1 d.1.length d.2.2) (by rw [rowOf, List.getElem?_map, hd]; rfl)
      rw [add_at] at this
      exact ⟨g, 0, rfl, d.2.1, d.2.2, by rw [Nat.zero_add]; exact this, hr d (List.mem_of_getElem? hd)⟩
theorem rowOf_set (d' : Ds) (D : List Ds) (i : Nat) : (rowOf D).set i (.slice d'.2.1 d'.1.length d'.2.2) = rowOf (D.set i d') := by
  rw [rowOf, rowOf, List.map_set]
/-- A state of an own row is replaced. -/
theorem sts_set {X : World} {B g cap k q : Nat} {D : List Ds} (hown : X.ownsRow B 40 1 (.slice (some ⟨g, 0, none⟩) k cap) k (rowOf D)) (hk : D.length = k) {d' : Ds} (hr : ∀ d ∈ D.set q d', Rels (X.setCell ⟨g, q, none⟩ (.slice d'.2.1 d'.1.length d'.2.2)) d.2.1 d.2.2 d.1) :
    Sts (X.setCell ⟨g, q, none⟩ (.slice d'.2.1 d'.1.length d'.2.2)) (some ⟨g, 0, none⟩) cap ((D.map (·.1)).set q d'.1) ∧ X.grownBy (X.setCell ⟨g, q, none⟩ (.slice d'.2.1 d'.1.length d'.2.2)) (some g) := by
  have h := hown.stored q (.slice d'.2.1 d'.1.length d'.2.2)
  rw [rowOf_set] at h
  obtain ⟨a, c, hv, hs⟩ := sts_of_row h.1 (by rw [List.length_set]; exact hk) hr
  injection hv with h1 _ h2
  subst h1 h2
  rw [List.map_set] at hs
  exact ⟨hs, h.2⟩
def relOf (D : List Dr) : List Value := D.flatMap relCells
theorem rels_rows {w : World} {b o c : Nat} {l : List Rl} (h : Rels w (some ⟨b, o, none⟩) c l) :
    ∃ D : List Dr, D.map (·.1) = l ∧ (∀ d ∈ D, IntsW w d.2.1 d.2.2 d.1.2) ∧ ∀ (j : Nat) (u : Value), (relOf D)[j]? = some u → w.cell? ⟨b, o + j, none⟩ = some u := by
  have h1 : ∀ j, j < l.length → ∃ d : Dr, l[j]? = some d.1 ∧ IntsW w d.2.1 d.2.2 d.1.2 ∧ w.cell? ⟨b, o + j * 2, none⟩ = some (.int .i64 d.1.1) ∧ w.cell? ⟨b, o + j * 2 + 1, none⟩ = some (.slice d.2.1 d.1.2.length d.2.2) := by
    intro j hj
    obtain ⟨b', o', e, h0, a', c', h1, hr⟩ := h.2 j l[j] (List.getElem?_eq_getElem hj)
    cases e
    exact ⟨(l[j], a', c'), List.getElem?_eq_getElem hj, hr, h0, h1⟩
  obtain ⟨f, hf⟩ := Go.Deep.choose_lt h1
  have hm : ((List.range l.length).map f).map (·.1) = l := by
    apply List.ext_getElem?
    intro j
    by_cases hj : j < l.length
    · rw [List.map_map, List.getElem?_map, List.getElem?_range hj, (hf j hj).1]; rfl
    · rw [List.getElem?_eq_none (by simpa using hj), List.getElem?_eq_none (by omega)]
  refine ⟨(List.range l.length).map f, hm, ?_, ?_⟩
  · intro d hd
    obtain ⟨j, hj, rfl⟩ := List.mem_map.1 hd
    exact (hf j (List.mem_range.1 hj)).2.1
  · intro j u hu
    have hjl : j < ((List.range l.length).map f).length * 2 := by
      have h2 := (List.getElem?_eq_some_iff.1 hu).1
      have h3 : ∀ D : List Dr, (relOf D).length = D.length * 2 := fun D => by
        induction D with
        | nil => rfl
        | cons d D ih => rw [relOf, List.flatMap_cons, List.length_append, ← relOf, ih]; simp [relCells]; omega
      rw [h3] at h2
      exact h2
    have hj2 : j / 2 < l.length := by simp at hjl; omega
    have hd : ((List.range l.length).map f)[j / 2]? = some (f (j / 2)) := by rw [List.getElem?_map, List.getElem?_range hj2]; rfl
    have ha := flat_at (k := 2) (cs := relCells) (fun _ => rfl) ((List.range l.length).map f) (j / 2) _ hd (j % 2) (Nat.mod_lt _ (by omega))
    have hjj : j / 2 * 2 + j % 2 = j := by omega
    rw [hjj] at ha
    have hu' : (relCells (f (j / 2)))[j % 2]? = some u := by rw [← ha]; exact hu
    have hfd := (hf _ hj2).2.2
    obtain ⟨d, hdd⟩ : ∃ d, f (j / 2) = d := ⟨_, rfl⟩
    rw [hdd] at hu' hfd
    rcases Nat.mod_two_eq_zero_or_one j with h0 | h0
    · rw [h0] at hu' hjj
      simp [relCells] at hu'
      rw [← hu', ← hjj, Nat.add_zero]
      exact hfd.1
    · rw [h0] at hu' hjj
      simp [relCells] at hu'
      rw [← hu', ← hjj, ← Nat.add_assoc]
      exact hfd.2
theorem rels_of_row {w : World} {B n : Nat} {v : Value} {D : List Dr} (h : w.ownsRow B 53 2 v n (relOf D)) (hn : D.length = n) (hr : ∀ d ∈ D, IntsW w d.2.1 d.2.2 d.1.2) : ∃ a c, v = .slice a n c ∧ Rels w a c (D.map (·.1)) := by
  have hc := @World.ownsRow.cells w B 53 2 v n _ h
  rcases h.2 with ⟨hv, h0⟩ | ⟨g, cap, cur, rfl, hb, hg, hnc, hcm, _⟩
  · have hl : D = [] := List.eq_nil_of_length_eq_zero (by omega)
    subst hl
    exact ⟨none, 0, by rw [hv, h0], Nat.le_refl _, fun j l hj => by simp at hj⟩
  · refine ⟨_, _, rfl, by rw [List.length_map, hn]; exact hnc, fun j l hj => ?_⟩
    rw [List.getElem?_map] at hj
    cases hd : D[j]? with
    | none => rw [hd] at hj; cases hj
    | some d =>
      rw [hd] at hj
      cases hj
      refine ⟨g, 0, rfl, ?_, d.2.1, d.2.2, ?_, hr d (List.mem_of_getElem? hd)⟩
      · have := hc (g := g) rfl (j * 2 + 0) (.int .i64 d.1.1) (by rw [relOf, flat_at (k := 2) (cs := relCells) (fun _ => rfl) D j d hd 0 (by omega)]; rfl)
        rw [add_at] at this
        rw [Nat.zero_add]; exact this
      · have := hc (g := g) rfl (j * 2 + 1) (.slice d.2.1 d.1.2.length d.2.2) (by rw [relOf, flat_at (k := 2) (cs := relCells) (fun _ => rfl) D j d hd 1 (by omega)]; rfl)
        rw [add_at] at this
        rw [Nat.zero_add]; exact this
theorem relOf_set (d' : Dr) : ∀ (D : List Dr) (i : Nat), i < D.length → ((relOf D).set (i * 2) (.int .i64 d'.1.1)).set (i * 2 + 1) (.slice d'.2.1 d'.1.2.length d'.2.2) = relOf (D.set i d')
  | [], i, h => by simp at h
  | d :: D, 0, _ => by simp [relOf, relCells]
  | d :: D, i + 1, h => by
    have ih := relOf_set d' D i (by simpa using h)
    have e : (i + 1) * 2 = i * 2 + 1 + 1 := by omega
    have e1 : (i + 1) * 2 + 1 = (i * 2 + 1) + 1 + 1 := by omega
    unfold relOf at ih ⊢
    rw [e1, e, List.set_cons_succ, List.flatMap_cons, List.flatMap_cons, ← ih]
    simp only [relCells, List.cons_append, List.nil_append, List.set_cons_succ]
/-- A relation of an own row is replaced. -/
theorem rels_set {X : World} {B g cap k i : Nat} {D : List Dr} (hown : X.ownsRow B 53 2 (.slice (some ⟨g, 0, none⟩) k cap) k (relOf D)) (hk : D.length = k) (hi : i < k) {d' : Dr} :
    ((X.setCell ⟨g, i * 2, none⟩ (.int .i64 d'.1.1)).setCell ⟨g, i * 2 + 1, none⟩ (.slice d'.2.1 d'.1.2.length d'.2.2)).ownsRow B 53 2 (.slice (some ⟨g, 0, none⟩) k cap) k (relOf (D.set i d')) ∧
    X.grownBy ((X.setCell ⟨g, i * 2, none⟩ (.int .i64 d'.1.1)).setCell ⟨g, i * 2 + 1, none⟩ (.slice d'.2.1 d'.1.2.length d'.2.2)) (some g) := by
  have h0 := hown.stored (i * 2) (.int .i64 d'.1.1)
  have h1 := h0.1.stored (i * 2 + 1) (.slice d'.2.1 d'.1.2.length d'.2.2)
  have h2 := h1.1
  rw [relOf_set d' D i (by omega)] at h2
  exact ⟨h2, h0.2.trans h1.2⟩
theorem own_some {w : World} {B e k n : Nat} {v : Value} {xs : List Value} (h : w.ownsRow B e k v n xs) (hn : n ≠ 0) : ∃ g cap, v = .slice (some ⟨g, 0, none⟩) n cap ∧ B ≤ g ∧ g < w.heap.size ∧ n ≤ cap := by
  have hl := h.lt
  rcases h.2 with ⟨_, h0⟩ | ⟨g, cap, cur, rfl, _, _, hnc, _, _⟩
  · exact absurd h0 hn
  · have := hl g rfl
    exact ⟨g, cap, rfl, this.1, this.2, hnc⟩
/-- The states from the second on; the relations from the second on. -/
theorem sts_drop {w : World} {a : Option Addr} {c k : Nat} {L : List (List Rl)} (h : Sts w a c L) (hk : L.length = k) (h1 : 1 ≤ k) :
    ∃ a' c', (∀ w, (Instr.slice 31 (.slice a k c) (some (.int .i64 1)) none none).run Try.prog w = .ok (.slice a' (k - 1) c') w) ∧ Sts w a' c' (L.drop 1) := by
  obtain ⟨l, hl⟩ : ∃ l, L[0]? = some l := ⟨_, List.getElem?_eq_getElem (by omega)⟩
  obtain ⟨b, o, rfl, _⟩ := h.2 0 l hl
  have hkc : k ≤ c := by rw [← hk]; exact h.1
  have a3 : (1 : Int) ≤ (k : Int) := by omega
  by_cases hc : c = 1
  · obtain rfl : k = 1 := by omega
    subst hc
    refine ⟨some ⟨b, o, none⟩, 0, fun w => by go_simp, by rw [List.length_drop, hk]; exact Nat.le_refl _, fun j y hj => ?_⟩
    rw [List.drop_of_length_le (by omega)] at hj
    simp at hj
  · refine ⟨some ⟨b, o + 1, none⟩, c - 1, fun w => ?_, by rw [List.length_drop, hk]; omega, fun j y hj => ?_⟩
    · have a2 : ¬ (c = 1) := hc
      have a4 : 1 ≤ k := h1
      go_simp
    · rw [List.getElem?_drop] at hj
      obtain ⟨b', o', e, a', c', h0, hr⟩ := h.2 (1 + j) y hj
      cases e
      exact ⟨b, o + 1, rfl, a', c', by rw [Nat.add_assoc]; exact h0, hr⟩
theorem rels_drop {w : World} {a : Option Addr} {c k : Nat} {l : List Rl} (h : Rels w a c l) (hk : l.length = k) (h1 : 1 ≤ k) :
    ∃ a' c', (∀ w, (Instr.slice 40 (.slice a k c) (some (.int .i64 1)) none none).run Try.prog w = .ok (.slice a' (k - 1) c') w) ∧ Rels w a' c' (l.drop 1) := by
  obtain ⟨r, hr⟩ : ∃ l', l[0]? = some l' := ⟨_, List.getElem?_eq_getElem (by omega)⟩
  obtain ⟨b, o, rfl, _⟩ := h.2 0 r hr
  have hkc : k ≤ c := by rw [← hk]; exact h.1
  have a3 : (1 : Int) ≤ (k : Int) := by omega
  by_cases hc : c = 1
  · obtain rfl : k = 1 := by omega
    subst hc
    refine ⟨some ⟨b, o, none⟩, 0, fun w => by go_simp, by rw [List.length_drop, hk]; exact Nat.le_refl _, fun j y hj => ?_⟩
    rw [List.drop_of_length_le (by omega)] at hj
    simp at hj
  · refine ⟨some ⟨b, o + 2, none⟩, c - 1, fun w => ?_, by rw [List.length_drop, hk]; omega, fun j y hj => ?_⟩
    · have a2 : ¬ (c = 1) := hc
      have a4 : 1 ≤ k := h1
      go_simp
    · rw [List.getElem?_drop] at hj
      obtain ⟨b', o', e, h0⟩ := h.2 (1 + j) y hj
      cases e
      exact ⟨b, o + 2, rfl, by rw [show o + 2 + j * 2 = o + (1 + j) * 2 by omega]; exact h0⟩
theorem four_setZ {w : World} {b : Nat} {x0 x1 x2 x3 : Value} (y0 y1 y2 y3 : Value) (h0 : w.cell? ⟨b, 0, none⟩ = some x0) (h1 : w.cell? ⟨b, 1, none⟩ = some x1) (h2 : w.cell? ⟨b, 2, none⟩ = some x2) (h3 : w.cell? ⟨b, 3, none⟩ = some x3) :
    ((((w.setCell ⟨b, 0, none⟩ y0).setCell ⟨b, 1, none⟩ y1).setCell ⟨b, 2, none⟩ y2).setCell ⟨b, 3, none⟩ y3).cell? ⟨b, 0, none⟩ = some y0 ∧
    ((((w.setCell ⟨b, 0, none⟩ y0).setCell ⟨b, 1, none⟩ y1).setCell ⟨b, 2, none⟩ y2).setCell ⟨b, 3, none⟩ y3).cell? ⟨b, 1, none⟩ = some y1 ∧
    ((((w.setCell ⟨b, 0, none⟩ y0).setCell ⟨b, 1, none⟩ y1).setCell ⟨b, 2, none⟩ y2).setCell ⟨b, 3, none⟩ y3).cell? ⟨b, 2, none⟩ = some y2 ∧
    ((((w.setCell ⟨b, 0, none⟩ y0).setCell ⟨b, 1, none⟩ y1).setCell ⟨b, 2, none⟩ y2).setCell ⟨b, 3, none⟩ y3).cell? ⟨b, 3, none⟩ = some y3 ∧
    w.grownBy ((((w.setCell ⟨b, 0, none⟩ y0).setCell ⟨b, 1, none⟩ y1).setCell ⟨b, 2, none⟩ y2).setCell ⟨b, 3, none⟩ y3) (some b) := by
  have ne : ∀ {i j : Nat}, i ≠ j → (⟨b, i, none⟩ : Addr) ≠ ⟨b, j, none⟩ := fun h e => by injection e with _ e; exact h e
  refine ⟨?_, ?_, ?_, ?_, ?_⟩
  · rw [World.cell?_setCell_other _ _ _ _ (ne (by decide)), World.cell?_setCell_other _ _ _ _ (ne (by decide)), World.cell?_setCell_other _ _ _ _ (ne (by decide))]
    exact World.cell?_setCell_same _ _ _ h0
  · rw [World.cell?_setCell_other _ _ _ _ (ne (by decide)), World.cell?_setCell_other _ _ _ _ (ne (by decide))]
    exact World.cell?_setCell_same _ _ _ (by rw [World.cell?_setCell_other _ _ _ _ (ne (by decide))]; exact h1)
  · rw [World.cell?_setCell_other _ _ _ _ (ne (by decide))]
    exact World.cell?_setCell_same _ _ _ (by rw [World.cell?_setCell_other _ _ _ _ (ne (by decide)), World.cell?_setCell_other _ _ _ _ (ne (by decide))]; exact h2)
  · exact World.cell?_setCell_same _ _ _ (by rw [World.cell?_setCell_other _ _ _ _ (ne (by decide)), World.cell?_setCell_other _ _ _ _ (ne (by decide)), World.cell?_setCell_other _ _ _ _ (ne (by decide))]; exact h3)
  · exact (((grown_set _ b 0 y0).trans (grown_set _ b 1 y1)).trans (grown_set _ b 2 y2)).trans (grown_set _ b 3 y3)
/-- Four cells of a block, none of them frozen. -/
def Held4 (X : World) (g : Nat) (v0 v1 v2 v3 : Value) : Prop := (X.cell? ⟨g, 0, none⟩ = some v0 ∧ X.cell? ⟨g, 1, none⟩ = some v1 ∧ X.cell? ⟨g, 2, none⟩ = some v2 ∧ X.cell? ⟨g, 3, none⟩ = some v3) ∧ ∀ o, X.frozen? ⟨g, o, none⟩ = false
theorem Held4.off {X X' : World} {g : Nat} {v0 v1 v2 v3 : Value} {r : Option Nat} (h : Held4 X g v0 v1 v2 v3) (hg : X.grownBy X' r) (hr : ∀ x, r = some x → x ≠ g) : Held4 X' g v0 v1 v2 v3 := by
  have hne : some g ≠ r := fun e => hr g e.symm rfl
  have hlt : g < X.heap.size := lies_lt h.1.1
  exact ⟨⟨hg.cell h.1.1 hne, hg.cell h.1.2.1 hne, hg.cell h.1.2.2.1 hne, hg.cell h.1.2.2.2 hne⟩, fun o => by rw [World.frozen?_of_block (hg.block g hlt hne)]; exact h.2 o⟩
theorem Held4.newZ (W : World) : Held4 (W.alloc (.cells #[.slice none 0 0, .int .i64 0, .slice none 0 0, .int .i64 0] 33)) W.heap.size (.slice none 0 0) (.int .i64 0) (.slice none 0 0) (.int .i64 0) := ⟨⟨by go_simp, by go_simp, by go_simp, by go_simp⟩, fun o => by go_simp⟩
theorem Held4.put {X : World} {g : Nat} {u0 u1 u2 u3 : Value} (h : Held4 X g u0 u1 u2 u3) (v0 v1 v2 v3 : Value) : Held4 ((((X.setCell ⟨g, 0, none⟩ v0).setCell ⟨g, 1, none⟩ v1).setCell ⟨g, 2, none⟩ v2).setCell ⟨g, 3, none⟩ v3) g v0 v1 v2 v3 ∧
    X.grownBy ((((X.setCell ⟨g, 0, none⟩ v0).setCell ⟨g, 1, none⟩ v1).setCell ⟨g, 2, none⟩ v2).setCell ⟨g, 3, none⟩ v3) (some g) := by
  obtain ⟨⟨h0, h1, h2, h3⟩, hf⟩ := h
  obtain ⟨a0, a1, a2, a3, hg⟩ := four_setZ v0 v1 v2 v3 h0 h1 h2 h3
  exact ⟨⟨⟨a0, a1, a2, a3⟩, fun o => by rw [World.frozen?_setCell, World.frozen?_setCell, World.frozen?_setCell, World.frozen?_setCell]; exact hf o⟩, hg⟩
theorem Held4.lt {X : World} {g : Nat} {u0 u1 u2 u3 : Value} (h : Held4 X g u0 u1 u2 u3) : g < X.heap.size := lies_lt h.1.1
theorem ne_off {g i j : Nat} (h : i ≠ j) : (⟨g, i, none⟩ : Addr) ≠ ⟨g, j, none⟩ := fun e => by injection e with _ e; exact h e
theorem Held4.set2' {X : World} {g : Nat} {v0 v1 v2 v3 : Value} (h : Held4 X g v0 v1 v2 v3) (u : Value) : Held4 (X.setCell ⟨g, 2, none⟩ u) g v0 v1 u v3 :=
  ⟨⟨by rw [World.cell?_setCell_other _ _ _ _ (ne_off (by decide))]; exact h.1.1, by rw [World.cell?_setCell_other _ _ _ _ (ne_off (by decide))]; exact h.1.2.1, World.cell?_setCell_same _ _ _ h.1.2.2.1, by rw [World.cell?_setCell_other _ _ _ _ (ne_off (by decide))]; exact h.1.2.2.2⟩, fun o => by rw [World.frozen?_setCell]; exact h.2 o⟩
theorem Held4.set3' {X : World} {g : Nat} {v0 v1 v2 v3 : Value} (h : Held4 X g v0 v1 v2 v3) (u : Value) : Held4 (X.setCell ⟨g, 3, none⟩ u) g v0 v1 v2 u :=
  ⟨⟨by rw [World.cell?_setCell_other _ _ _ _ (ne_off (by decide))]; exact h.1.1, by rw [World.cell?_setCell_other _ _ _ _ (ne_off (by decide))]; exact h.1.2.1, by rw [World.cell?_setCell_other _ _ _ _ (ne_off (by decide))]; exact h.1.2.2.1, World.cell?_setCell_same _ _ _ h.1.2.2.2⟩, fun o => by rw [World.frozen?_setCell]; exact h.2 o⟩
end Go.Proofs.Ytbddpjofhddilaa
