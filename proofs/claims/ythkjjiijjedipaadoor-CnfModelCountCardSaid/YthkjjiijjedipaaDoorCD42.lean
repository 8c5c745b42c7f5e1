/- Texts of the proof: U2. -/
import Derived.Test.YthkjjiijjedipaaDoorCD41
import Derived.Test.YthkjjiijjedipaaDoorCD21
namespace Go.Proofs.YthkjjiijjedipaaDoor
open Go.RowKit
set_option maxRecDepth 100000
abbrev litW (W : World) (m : List (List Int)) : World := (rowsW W m).alloc (.cells (rowsV W.heap.size 0 m).toArray 28)
theorem same_lit {v v' : Int} {l m : List (List Int)} {a : Option Addr} {c : Nat} {W : World} {q : Bool} (e : decide (v = v' ∧ l = m) = q) (h : ClsW W a c l) (hl : l.length ≤ 60000) (hl2 : ∀ z ∈ l, z.length ≤ 100000) :
    Calls Tryd.prog 23 #[cnfV v a l.length c, cnfV v' (some ⟨W.heap.size + m.length, 0, none⟩) m.length m.length] (litW W m) fun x w' => x = .returned (.bool q) ∧ W.grownBy w' none := by
  obtain ⟨h1, h2⟩ := form_says m W
  refine (same_calls v v' l m a _ c m.length _ (h.grown h1) h2 hl hl2).mono ?_
  rintro x w' ⟨rfl, hg⟩
  exact ⟨by rw [e], World.grownBy.trans h1 hg⟩
theorem valid_lit {v : Int} {m : List (List Int)} {W : World} {q : Bool} (e : litsOk v m = q) (hl : m.length ≤ 60000) (hl2 : ∀ z ∈ m, z.length ≤ 100000) (hv : 0 ≤ v ∧ v ≤ 20000) :
    Calls Tryd.prog 14 #[cnfV v (some ⟨W.heap.size + m.length, 0, none⟩) m.length m.length] (litW W m) fun x w' => x = .returned (.bool q) ∧ W.grownBy w' none := by
  obtain ⟨h1, h2⟩ := form_says m W
  refine (valid14_calls v m _ m.length _ h2 hl hl2 hv).mono ?_
  rintro x w' ⟨rfl, hg⟩
  exact ⟨by rw [e], World.grownBy.trans h1 hg⟩
theorem simp_lit {v : Int} {m k : List (List Int)} {W : World} (e : simpP m = k) (hl : m.length ≤ 1000) (hl2 : ∀ z ∈ m, z.length ≤ 1000) (hb : ∀ z ∈ m, ∀ x ∈ z, Nine x) (htab : Tab W) :
    Calls Tryd.prog 22 #[cnfV v (some ⟨W.heap.size + m.length, 0, none⟩) m.length m.length] (litW W m) fun x w' => ∃ a' c', x = .returned (cnfV v a' k.length c') ∧ ClsW w' a' c' k ∧ W.grownBy w' none := by
  obtain ⟨h1, h2⟩ := form_says m W
  refine (simplify_calls v m _ m.length _ h2 hl hl2 hb (htab.grown h1)).mono ?_
  rintro x w' ⟨a', c', rfl, hc, hg⟩
  rw [e] at hc ⊢
  exact ⟨a', c', rfl, hc, World.grownBy.trans h1 hg⟩
abbrev litB (W : World) (z : List Bool) : World := W.alloc (.cells (z.map Value.bool).toArray 4)
theorem sat_lit {v : Int} {l : List (List Int)} {z : List Bool} {a : Option Addr} {c : Nat} {W : World} {q : Bool} (e : satP z l = q) (h : ClsW W a c l) (hl : l.length ≤ 60000) (hl2 : ∀ z ∈ l, z.length ≤ 100000) (hz : z.length ≤ 100000) (hb : ∀ z ∈ l, ∀ x ∈ z, -9223372036854775807 ≤ x ∧ x ≤ 9223372036854775807) :
    Calls Tryd.prog 15 #[cnfV v a l.length c, .slice (some ⟨W.heap.size, 0, none⟩) z.length z.length] (litB W z) fun x w' => x = .returned (.bool q) ∧ W.grownBy w' none := by
  have h1 := World.grownBy_alloc W (.cells (z.map Value.bool).toArray 4) none
  refine (satisfies_calls v l z a _ c z.length _ (h.grown h1) (bools_lit W z) hl hl2 hz hb).mono ?_
  rintro x w' ⟨rfl, hg⟩
  exact ⟨by rw [e], World.grownBy.trans h1 hg⟩
theorem ext_lit {gs : List Gt} {r : Int} {m : Nat} {z X : List Bool} {W : World} {a : Option Addr} {c : Nat} (e : extP gs r m z = X) (h : GatesW W a c gs) (hG : Good gs) (hl : gs.length ≤ 1000) (hz : z.length ≤ 1000) (hr : Ok gs r) (hm : m ≤ 100) :
    Calls Tryd.prog 13 #[.agg #[.slice a gs.length c], .int .i64 r, .int .i64 (m : Int), .slice (some ⟨W.heap.size, 0, none⟩) z.length z.length] (litB W z) fun x w' => ∃ a' c', x = .returned (.slice a' X.length c') ∧ BoolsW w' a' c' X ∧ W.grownBy w' none := by
  have h1 := World.grownBy_alloc W (.cells (z.map Value.bool).toArray 4) none
  refine (ext_calls e rfl a c _ z.length _ (h.grown h1) hG (bools_lit W z) hl hz hr hm).mono ?_
  rintro x w' ⟨a', c', rfl, hb, hg⟩
  exact ⟨a', c', rfl, hb, World.grownBy.trans h1 hg⟩
theorem sameB_lit {xs z : List Bool} {q : Bool} {W : World} {a : Option Addr} {c : Nat} (e : decide (xs = z) = q) (h : BoolsW W a c xs) (hl : xs.length ≤ 100000) :
    Calls Tryd.prog 17 #[.slice a xs.length c, .slice (some ⟨W.heap.size, 0, none⟩) z.length z.length] (litB W z) fun x w' => x = .returned (.bool q) ∧ W.grownBy w' none := by
  have h1 := World.grownBy_alloc W (.cells (z.map Value.bool).toArray 4) none
  refine (sameBools_calls xs z a _ c z.length _ (h.grown h1) (bools_lit W z) hl).mono ?_
  rintro x w' ⟨rfl, k, rfl⟩
  exact ⟨by rw [e], World.grownBy.trans h1 (grown_drewN _ _ _)⟩
/-- A formula in a box. -/
def CF (w : World) (p : Nat) (v : Int) (a : Option Addr) (n c : Nat) (l : List (List Int)) : Prop := w.cell? ⟨p, 0, none⟩ = some (.int .i64 v) ∧ w.cell? ⟨p, 1, none⟩ = some (.slice a n c) ∧ ClsW w a c l
theorem CF.grown {w w' : World} {p : Nat} {v : Int} {a : Option Addr} {n c : Nat} {l : List (List Int)} (h : CF w p v a n c l) (hg : w.grownBy w' none) : CF w' p v a n c l :=
  ⟨hg.cell h.1 (by simp), hg.cell h.2.1 (by simp), h.2.2.grown hg⟩
theorem boxC {w0 W : World} {g : List Gt} {a : Option Addr} {n c : Nat} (hn : g.length = n) (h : GatesW W a c g) (hg : w0.grownBy W none) : ∃ p V X, W.heap.size = p ∧ W.alloc (.cells #[.slice none 0 0] 27) = V ∧ V.cell? ⟨p, 0, none⟩ = some (.slice none 0 0) ∧ V.frozen? ⟨p, 0, none⟩ = false ∧
    V.setCell ⟨p, 0, none⟩ (.slice a n c) = X ∧ X.cell? ⟨p, 0, none⟩ = some (.slice a n c) ∧ CB X p a c g ∧ w0.grownBy X none := by
  subst hn
  have hz := BoxZ.new W
  have hga := World.grownBy_alloc W (.cells #[.slice none 0 0] 27) none
  have hcb := CB.put (h.grown hga) hz.1 hz.2
  exact ⟨_, _, _, rfl, rfl, hz.1, hz.2, rfl, hcb.1, hcb, World.grownBy.trans hg (grown_own hga (grown_set _ _ _ _) (fun x e => by cases e; exact Nat.le_refl _))⟩
theorem boxF {w0 W : World} {v : Int} {l : List (List Int)} {a : Option Addr} {n c : Nat} (h : ClsW W a c l) (hg : w0.grownBy W none) : ∃ p V X, W.heap.size = p ∧ W.alloc (.cells #[.int .i64 0, .slice none 0 0] 35) = V ∧ V.cell? ⟨p, 0, none⟩ = some (.int .i64 0) ∧ V.cell? ⟨p, 1, none⟩ = some (.slice none 0 0) ∧ V.frozen? ⟨p, 0, none⟩ = false ∧ V.frozen? ⟨p, 1, none⟩ = false ∧
    (V.setCell ⟨p, 0, none⟩ (.int .i64 v)).setCell ⟨p, 1, none⟩ (.slice a n c) = X ∧ X.cell? ⟨p, 0, none⟩ = some (.int .i64 v) ∧ X.cell? ⟨p, 1, none⟩ = some (.slice a n c) ∧ ClsW X a c l ∧ w0.grownBy X none := by
  have e2 := one_cells W (.int .i64 0) (.slice none 0 0) 35
  have hga := World.grownBy_alloc W (.cells #[.int .i64 0, .slice none 0 0] 35) none
  have hs := sets2 e2.2.1 e2.2.2.1 (.int .i64 v) (.slice a n c)
  have hgX := grown_own hga ((grown_set _ W.heap.size 0 (.int .i64 v)).trans (grown_set _ W.heap.size 1 (.slice a n c))) (fun x e => by cases e; exact Nat.le_refl _)
  exact ⟨_, _, _, rfl, rfl, e2.2.1, e2.2.2.1, e2.2.2.2.1, e2.2.2.2.2, rfl, hs.1, hs.2, h.grown hgX, World.grownBy.trans hg hgX⟩
end Go.Proofs.YthkjjiijjedipaaDoor
