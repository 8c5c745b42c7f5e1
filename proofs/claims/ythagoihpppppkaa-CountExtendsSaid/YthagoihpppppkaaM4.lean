/- The search for a gate, whether there is an index, one is made, or none. A growing circuit whose index may be ahead of its row. -/
import Derived.Test.YthagoihpppppkaaM3
namespace Go.Proofs.Ythagoihpppppkaa
open Go.RowKit Go.Maps

theorem Grw.grow {p : Nat} {w : World} {owned : Bool} {va : Option Addr} {vc : Nat} {gs : List Gt} {vis : Int} (h : Grw p w owned va vc gs none vis) : Grow (p + 1) p w owned va vc gs vis :=
  ⟨h.c0, h.c1, h.c2, h.c3, h.fr, ⟨Nat.lt_succ_self _, lies_lt h.c0⟩, h.row⟩
theorem Grow.grw {p : Nat} {w : World} {owned : Bool} {va : Option Addr} {vc : Nat} {gs : List Gt} {vis : Int} (h : Grow (p + 1) p w owned va vc gs vis) : Grw p w owned va vc gs none vis :=
  ⟨h.c0, h.c1, h.c2, h.c3, h.fr, h.row, fun b e => by cases e⟩
theorem gfind_calls (gs : List Gt) (x : Gt) (fm p : Nat) (owned : Bool) (va : Option Addr) (vc : Nat) (mb : Option Nat) (vis : Int) (w : World) (h : Grw p w owned va vc gs mb vis) (hl : gs.length ≤ 1000) (hv : 0 ≤ vis)
    (hx : WfG x) (hwf : ∀ g ∈ gs, WfG g) (hone : ∀ (i j : Nat) (g : Gt), gs[i]? = some g → gs[j]? = some g → i = j) (hfrom : ∀ i : Nat, gs[i]? = some x → fm ≤ i) :
    Calls Try.prog 64 #[.pointer (some ⟨p, 0, none⟩), gv x, .int .i64 (fm : Int)] w fun e w' => ∃ mb' vis', e = .returned (.int .i64 (locI x gs)) ∧ Grw p w' owned va vc gs mb' vis' ∧ (vis ≤ vis' ∧ vis' ≤ vis + (gs.length : Int)) ∧ Off (fun k => k = p) w w' ∧ ∀ k, k < w.heap.size → mb' = some k → mb = some k := by
  cases mb with
  | some b =>
    refine (find_ix gs x fm p b owned va vc vis w h hx hone).mono ?_
    rintro e w' ⟨rfl, hg⟩
    exact ⟨some b, vis, rfl, h.grown hg, ⟨Int.le_refl _, by omega⟩, Off.of hg (fun k e => by cases e), fun k _ e => e⟩
  | none =>
    by_cases hc : 8 * (gs.length : Int) < vis
    · refine (find_make gs x fm p owned va vc vis w h hl hc hx hwf hone).mono ?_
      rintro e w' ⟨rfl, b, hb, hg, ho⟩
      exact ⟨some b, vis, rfl, hg, ⟨Int.le_refl _, by omega⟩, ho, fun k hk e => by injection e with e; omega⟩
    · refine (find_calls gs x fm (p + 1) p owned va vc vis w h.grow hl ⟨hv, by omega⟩ hone hfrom).mono ?_
      rintro e w' ⟨vis', rfl, hg, hv', hf⟩
      exact ⟨none, vis', rfl, hg.grw, hv', Off.of hf (fun k e => by cases e; rfl), fun k _ e => by cases e⟩
/-- A growing circuit whose index holds the gates of is. -/
structure Pre (p : Nat) (w : World) (owned : Bool) (va : Option Addr) (vc : Nat) (gs : List Gt) (mb : Option Nat) (is : List Gt) (vis : Int) : Prop where
  core : Core p w owned va vc gs vis
  c2 : w.cell? ⟨p, 2, none⟩ = some (.map mb)
  ix : ∀ b, mb = some b → p < b ∧ MapG w b is
theorem Grw.pre {p : Nat} {w : World} {owned : Bool} {va : Option Addr} {vc : Nat} {gs : List Gt} {mb : Option Nat} {vis : Int} (h : Grw p w owned va vc gs mb vis) : Pre p w owned va vc gs mb gs vis := ⟨h.core, h.c2, h.ix⟩
theorem Pre.grw {p : Nat} {w : World} {owned : Bool} {va : Option Addr} {vc : Nat} {gs : List Gt} {mb : Option Nat} {vis : Int} (h : Pre p w owned va vc gs mb gs vis) : Grw p w owned va vc gs mb vis := ⟨h.core.c0, h.core.c1, h.c2, h.core.c3, h.core.fr, h.core.row, h.ix⟩
theorem Pre.bare {p : Nat} {w : World} {owned : Bool} {va : Option Addr} {vc : Nat} {gs is : List Gt} {vis : Int} (h : Grw p w owned va vc gs none vis) : Pre p w owned va vc gs none is vis := ⟨h.core, h.c2, fun b e => by cases e⟩
theorem Pre.far {p : Nat} {w w' : World} {owned : Bool} {va : Option Addr} {vc : Nat} {gs is : List Gt} {mb : Option Nat} {vis : Int} {r : Option Nat} (h : Pre p w owned va vc gs mb is vis) (hg : w.grownBy w' r) (hr : ∀ x, r = some x → p < x ∧ ¬ mine p owned va mb x) : Pre p w' owned va vc gs mb is vis :=
  ⟨h.core.far hg (fun x e => ⟨(hr x e).1, fun c => (hr x e).2 (.inr (.inl c))⟩), hg.cell h.c2 (fun e => by have := (hr p e.symm).1; omega), fun b e => ⟨(h.ix b e).1, (h.ix b e).2.kept hg (fun c => (hr b c.symm).2 (.inr (.inr e)))⟩⟩
theorem Pre.grown {p : Nat} {w w' : World} {owned : Bool} {va : Option Addr} {vc : Nat} {gs is : List Gt} {mb : Option Nat} {vis : Int} (h : Pre p w owned va vc gs mb is vis) (hg : w.grownBy w' none) : Pre p w' owned va vc gs mb is vis := h.far hg (fun x e => by cases e)
theorem Off.own {M : Nat → Prop} {w0 w w' : World} {r : Option Nat} (h : Off M w0 w) (hg : w.grownBy w' r) (hr : ∀ k, r = some k → M k ∨ w0.heap.size ≤ k) : Off M w0 w' :=
  h.trans (Off.of (M := fun k => r = some k) hg (fun k e => e)) (fun k hk e => (hr k e).resolve_right (by omega))
/-- The row of a growing circuit is replaced: what stands then. -/
theorem Pre.put {p : Nat} {w w6 : World} {va a : Option Addr} {vc c : Nat} {gs hs is : List Gt} {mb : Option Nat} {vis : Int} {owned : Bool} {r : Option Nat} {m : Nat} (hm : hs.length = m) (h : Pre p w owned va vc gs mb is vis) (hg : w.grownBy w6 r) (hr : some p ≠ r) (hri : ∀ b, mb = some b → some b ≠ r)
    (hown : w6.ownsRow (p + 1) 69 3 (.slice a m c) m (gateCells hs)) :
    Pre p ((w6.setCell ⟨p, 0, none⟩ (.slice a m c)).setCell ⟨p, 1, none⟩ (.bool true)) true a c hs mb is vis ∧ (owned = true → Pre p (w6.setCell ⟨p, 0, none⟩ (.slice a m c)) true a c hs mb is vis) ∧
    w6.cell? ⟨p, 0, none⟩ = some (.slice va gs.length vc) ∧ w6.frozen? ⟨p, 0, none⟩ = false ∧ (w6.setCell ⟨p, 0, none⟩ (.slice a m c)).cell? ⟨p, 1, none⟩ = some (.bool owned) ∧ (w6.setCell ⟨p, 0, none⟩ (.slice a m c)).frozen? ⟨p, 1, none⟩ = false := by
  subst hm
  have e0 := hg.cell h.core.c0 hr
  have e1 := hg.cell h.core.c1 hr
  have e2 := hg.cell h.c2 hr
  have e3 := hg.cell h.core.c3 hr
  have hf : ∀ o, w6.frozen? ⟨p, o, none⟩ = false := fun o => (World.frozen?_of_block (a := ⟨p, o, none⟩) (hg.block p (lies_lt h.core.c0) hr)).trans (h.core.fr o)
  have hi : ∀ b, mb = some b → p < b ∧ MapG w6 b is := fun b e => ⟨(h.ix b e).1, (h.ix b e).2.kept hg (hri b e)⟩
  have hset : ∀ (U : World) (k : Nat) (v : Value), (∀ b, mb = some b → p < b ∧ MapG U b is) → ∀ b, mb = some b → p < b ∧ MapG (U.setCell ⟨p, k, none⟩ v) b is := fun U k v hU b e => ⟨(hU b e).1, (hU b e).2.kept (grown_set U p k v) (fun c => by injection c with c; have := (hU b e).1; omega)⟩
  have own7 : (w6.setCell ⟨p, 0, none⟩ (.slice a hs.length c)).ownsRow (p + 1) 69 3 (.slice a hs.length c) hs.length (gateCells hs) := hown.kept (grown_set _ _ _ _) (own_ne hown (by omega))
  have own8 : ((w6.setCell ⟨p, 0, none⟩ (.slice a hs.length c)).setCell ⟨p, 1, none⟩ (.bool true)).ownsRow (p + 1) 69 3 (.slice a hs.length c) hs.length (gateCells hs) := own7.kept (grown_set _ _ _ _) (own_ne own7 (by omega))
  have a0 : (w6.setCell ⟨p, 0, none⟩ (.slice a hs.length c)).cell? ⟨p, 0, none⟩ = some (.slice a hs.length c) := World.cell?_setCell_same _ _ _ e0
  have a1 : (w6.setCell ⟨p, 0, none⟩ (.slice a hs.length c)).cell? ⟨p, 1, none⟩ = some (.bool owned) := by rw [World.cell?_setCell_other _ _ _ _ (ne_at (by decide))]; exact e1
  have a2 : (w6.setCell ⟨p, 0, none⟩ (.slice a hs.length c)).cell? ⟨p, 2, none⟩ = some (.map mb) := by rw [World.cell?_setCell_other _ _ _ _ (ne_at (by decide))]; exact e2
  have a3 : (w6.setCell ⟨p, 0, none⟩ (.slice a hs.length c)).cell? ⟨p, 3, none⟩ = some (.int .i64 vis) := by rw [World.cell?_setCell_other _ _ _ _ (ne_at (by decide))]; exact e3
  refine ⟨⟨⟨?_, World.cell?_setCell_same _ _ _ a1, ?_, fun o => by rw [World.frozen?_setCell, World.frozen?_setCell]; exact hf o, by unfold GRow; simp only [if_true]; exact own8⟩, ?_, hset _ _ _ (hset _ _ _ hi)⟩,
    fun ho => ⟨⟨a0, by rw [a1, ho], a3, fun o => by rw [World.frozen?_setCell]; exact hf o, by unfold GRow; simp only [if_true]; exact own7⟩, a2, hset _ _ _ hi⟩, e0, hf 0, a1, by rw [World.frozen?_setCell]; exact hf 1⟩
  · rw [World.cell?_setCell_other _ _ _ _ (ne_at (by decide))]; exact a0
  · rw [World.cell?_setCell_other _ _ _ _ (ne_at (by decide))]; exact a3
  · rw [World.cell?_setCell_other _ _ _ _ (ne_at (by decide))]; exact a2
end Go.Proofs.Ythagoihpppppkaa
