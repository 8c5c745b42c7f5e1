/- A model whose states are being laid. -/
import Derived.Test.YtbddpjofhddilaaNSA
import Derived.Laws.AppendOwn
import Derived.Deep.RegionWith
namespace Go.Proofs.Ytbddpjofhddilaa
open Go.RowKit

theorem cell_one_at (w : World) (x : Value) (t : TypeId) : ∀ j u, [x][j]? = some u → (w.alloc (.cells #[x] t)).cell? ((⟨w.heap.size, 0, none⟩ : Addr).add j) = some u := by
  intro j u hu
  rw [add_at, World.cell?_alloc_new]
  match j, hu with
  | 0, hu => simpa using hu
/-- The append of one state's row, where the order of a region is drawn. -/
theorem ready_append {ops : Array Oper} {o : Oper} {a : Act} {Q : Exit → Act → World → Prop} {K' : Act → World → Prop} {w : World} (hgd : o.guard = none) (s x : Operand)
    (ho : o.op = .call { callee := .builtin .append, args := #[s, x], argTypes := #[31, 31] })
    (base : Nat) (v : Value) (n : Nat) (xs : List Value) (hs : a.eval s = v) (hown : w.ownsRow base 40 1 v n xs)
    (ad : Addr) (u0 : Value) (hx : a.eval x = .slice (some ad) 1 1) (hnews : ∀ j u, [u0][j]? = some u → w.cell? (ad.add j) = some u) (h1 : u0.oneCell' = true)
    (h63 : n ≤ 1000) (hbase : base ≤ w.heap.size)
    (h : ∀ v' w', w'.ownsRow base 40 1 v' (n + 1) (xs ++ [u0]) → w.grownBy w' v.ownBlock → (v'.ownBlock = v.ownBlock ∨ v'.ownBlock = some w.heap.size) → K' (a.put o.dst v') w') :
    if Region.wanted o (yielded ops a.tmps) = true then Oper.wp Try.prog o a w K' Q else K' (a.put o.dst undef) w := by
  obtain ⟨i0, hi0, hz0, hz1, hz2⟩ := info_parts info40
  obtain ⟨v', w', hr, h2, h3, h4, h5⟩ := run_append_own_at (P := Try.prog) w base 31 o.type 40 i0 (.slice none 0 0) 1 24 Try.underlying31 hi0 hz0 hz1 hz2 rfl (by decide) v n xs hown ad 1 1 [u0] rfl hnews (fun u hu => by simp at hu; subst hu; exact h1) (by unfold maxLen; omega) (by omega) hbase
  have hw : Region.wanted o (yielded ops a.tmps) = true := by simp only [Region.wanted, hgd]
  rw [if_pos hw]
  unfold Oper.wp execOp
  simp only [ho, resolve, invoke, builtin, Sem.run_bind, Sem.run_pure, Result.andThen_ok, List.map_toArray, List.map_cons, List.map_nil, hs, hx, hr]
  exact h v' w' h2 h3 h5
structure MadeM (w : World) (g : Nat) (u0 u1 u3 lv : Value) (D : List Ds) : Prop where
  c0 : w.cell? ⟨g, 0, none⟩ = some u0
  c1 : w.cell? ⟨g, 1, none⟩ = some u1
  c2 : w.cell? ⟨g, 2, none⟩ = some lv
  c3 : w.cell? ⟨g, 3, none⟩ = some u3
  fr : w.frozen? ⟨g, 2, none⟩ = false
  out : OutS w (g + 1) lv D
variable {w w' w3 : World} {g : Nat} {u0 u1 u3 lv v' : Value} {D : List Ds} {d : Ds} {o : Obj}
theorem MadeM.start (w : World) (u0 u1 u3 : Value) : MadeM (w.alloc (.cells #[u0, u1, .slice none 0 0, u3] 33)) w.heap.size u0 u1 u3 (.slice none 0 0) [] :=
  ⟨by go_simp, by go_simp, by go_simp, by go_simp, by go_simp, Out.start _ _ _⟩
theorem MadeM.lt (h : MadeM w g u0 u1 u3 lv D) : g < w.heap.size := lies_lt h.c0
theorem MadeM.off {r : Option Nat} (h : MadeM w g u0 u1 u3 lv D) (hg : w.grownBy w' r) (hr : ∀ x, r = some x → x < g) : MadeM w' g u0 u1 u3 lv D := by
  have hne : some g ≠ r := by intro e; have := hr _ e.symm; omega
  exact ⟨hg.cell h.c0 hne, hg.cell h.c1 hne, hg.cell h.c2 hne, hg.cell h.c3 hne, by rw [World.frozen?_of_block (hg.block g h.lt hne)]; exact h.fr, h.out.quiet hg (fun x e => by have := hr x e; omega)⟩
/-- Behind the append, before the store. -/
theorem MadeM.at_ (h : MadeM w g u0 u1 u3 lv D) (hg : (w.alloc o).grownBy w3 lv.ownBlock) :
    w3.cell? ⟨g, 0, none⟩ = some u0 ∧ w3.cell? ⟨g, 1, none⟩ = some u1 ∧ w3.cell? ⟨g, 2, none⟩ = some lv ∧ w3.cell? ⟨g, 3, none⟩ = some u3 ∧ w3.frozen? ⟨g, 2, none⟩ = false ∧ g < w3.heap.size := by
  have ga := World.grownBy_alloc w o none
  have hlt' : g < (w.alloc o).heap.size := Nat.lt_of_lt_of_le h.lt ga.size
  have hne : some g ≠ lv.ownBlock := by
    intro e
    have := (h.out.own.lt g e.symm).1
    omega
  refine ⟨hg.cell (ga.cell h.c0 (by simp)) hne, hg.cell (ga.cell h.c1 (by simp)) hne, hg.cell (ga.cell h.c2 (by simp)) hne, hg.cell (ga.cell h.c3 (by simp)) hne, ?_, Nat.lt_of_lt_of_le hlt' hg.size⟩
  rw [World.frozen?_of_block (hg.block g hlt' hne), World.frozen?_of_block (ga.block g h.lt (by simp))]; exact h.fr
/-- Behind the store. -/
theorem MadeM.step {lo hi : Nat} (h : MadeM w g u0 u1 u3 lv D) (hd : Span lo hi w (stP d)) (hB : g + 1 ≤ lo) (hx : ∀ x, lv.ownBlock = some x → x < lo ∨ hi ≤ x)
    (hown : w3.ownsRow (g + 1) 40 1 v' (D.length + 1) (D.flatMap stCells ++ stCells d)) (hg : (w.alloc o).grownBy w3 lv.ownBlock) (hat : v'.ownBlock = lv.ownBlock ∨ v'.ownBlock = some (w.alloc o).heap.size) :
    MadeM (w3.setCell ⟨g, 2, none⟩ v') g u0 u1 u3 v' (D ++ [d]) := by
  obtain ⟨h0, h1, h2, h3, hf, hlt⟩ := h.at_ hg
  refine ⟨?_, ?_, World.cell?_setCell_same _ _ _ h2, ?_, by rw [World.frozen?_setCell]; exact hf, ?_⟩
  · rw [World.cell?_setCell_other _ _ _ _ (by intro e; injection e with _ e; cases e)]; exact h0
  · rw [World.cell?_setCell_other _ _ _ _ (by intro e; injection e with _ e; cases e)]; exact h1
  · rw [World.cell?_setCell_other _ _ _ _ (by intro e; injection e with _ e; cases e)]; exact h3
  · exact (Out.push h.out hd hB hx hown hg hat).quiet (grown_set w3 g 2 v') (fun x e => by cases e; omega)
theorem grown_made {wr : World} {r : Option Nat} (h : w.grownBy wr r) (hg : (wr.alloc o).grownBy w3 lv.ownBlock) (hb : ∀ x, lv.ownBlock = some x → w.heap.size ≤ x) (hgb : w.heap.size ≤ g) :
    w.grownBy (w3.setCell ⟨g, 2, none⟩ v') r := by
  have ga := World.grownBy_alloc wr o none
  have hs := grown_set w3 g 2 v'
  refine ⟨hs.os.trans (hg.os.trans (ga.os.trans h.os)), hs.tape.trans (hg.tape.trans (ga.tape.trans h.tape)), hs.output.trans (hg.output.trans (ga.output.trans h.output)), Nat.le_trans h.size (Nat.le_trans ga.size (Nat.le_trans hg.size hs.size)), fun k hk hr => ?_⟩
  have k1 := Nat.lt_of_lt_of_le hk h.size
  have k2 := Nat.lt_of_lt_of_le k1 ga.size
  have k3 := Nat.lt_of_lt_of_le k2 hg.size
  rw [hs.block k k3 (by intro e; injection e with e; omega), hg.block k k2 (by intro e; have := hb k e.symm; omega), ga.block k k1 (by simp), h.block k hk hr]
/-- The model that is laid: its rows, in the span of its blocks. -/
theorem MadeM.sts (h : MadeM w g u0 u1 u3 lv D) : ∃ a c, lv = .slice a (D.map (·.1)).length c ∧ Span (g + 1) w.heap.size w (fun W => Sts W a c (D.map (·.1))) := OutS.sts h.out
theorem four_sets {b : Nat} {x0 x1 x2 x3 : Value} (y0 y1 y2 y3 : Value) (h0 : w.cell? ⟨b, 0, none⟩ = some x0) (h1 : w.cell? ⟨b, 1, none⟩ = some x1) (h2 : w.cell? ⟨b, 2, none⟩ = some x2) (h3 : w.cell? ⟨b, 3, none⟩ = some x3) :
    ((((w.setCell ⟨b, 0, none⟩ y0).setCell ⟨b, 1, none⟩ y1).setCell ⟨b, 2, none⟩ y2).setCell ⟨b, 3, none⟩ y3).cell? ⟨b, 0, none⟩ = some y0 ∧
    ((((w.setCell ⟨b, 0, none⟩ y0).setCell ⟨b, 1, none⟩ y1).setCell ⟨b, 2, none⟩ y2).setCell ⟨b, 3, none⟩ y3).cell? ⟨b, 1, none⟩ = some y1 ∧
    ((((w.setCell ⟨b, 0, none⟩ y0).setCell ⟨b, 1, none⟩ y1).setCell ⟨b, 2, none⟩ y2).setCell ⟨b, 3, none⟩ y3).cell? ⟨b, 2, none⟩ = some y2 ∧
    ((((w.setCell ⟨b, 0, none⟩ y0).setCell ⟨b, 1, none⟩ y1).setCell ⟨b, 2, none⟩ y2).setCell ⟨b, 3, none⟩ y3).cell? ⟨b, 3, none⟩ = some y3 ∧
    w.grownBy ((((w.setCell ⟨b, 0, none⟩ y0).setCell ⟨b, 1, none⟩ y1).setCell ⟨b, 2, none⟩ y2).setCell ⟨b, 3, none⟩ y3) (some b) := by
  have ne : ∀ {i j : Nat}, i ≠ j → (⟨b, i, none⟩ : Addr) ≠ ⟨b, j, none⟩ := fun h e => by injection e with _ e; exact h e
  refine ⟨?_, ?_, ?_, ?_, ?_⟩
  · rw [World.cell?_setCell_other _ _ _ _ (ne (by decide)), World.cell?_setCell_other _ _ _ _ (ne (by decide)), World.cell?_setCell_other _ _ _ _ (ne (by decide))]
    exact World.cell?_setCell_same _ _ _ h0
  · rw [World.cell?_setCell_other _ _ _ _ (ne (by decide)), World.cell?_setCell_other _ _ _ _ (ne (by decide))]
    exact World.cell?_setCell_same _ _ _ (by rw [World.cell?_setCell_other _ _ _ _ (ne (by decide))]; exact h1)
  · rw [World.cell?_setCell_other _ _ _ _ (ne (by decide))]
    exact World.cell?_setCell_same _ _ _ (by rw [World.cell?_setCell_other _ _ _ _ (ne (by decide)), World.cell?_setCell_other _ _ _ _ (ne (by decide))]; exact h2)
  · exact World.cell?_setCell_same _ _ _ (by rw [World.cell?_setCell_other _ _ _ _ (ne (by decide)), World.cell?_setCell_other _ _ _ _ (ne (by decide)), World.cell?_setCell_other _ _ _ _ (ne (by decide))]; exact h3)
  · exact (((grown_set _ b 0 y0).trans (grown_set _ b 1 y1)).trans (grown_set _ b 2 y2)).trans (grown_set _ b 3 y3)
theorem Span.both {lo hi : Nat} {w : World} {P Q : World → Prop} (h : Span lo hi w P) (k : Span lo hi w Q) : Span lo hi w (fun W => P W ∧ Q W) := ⟨h.1, fun W hW => ⟨h.2 W hW, k.2 W hW⟩⟩
end Go.Proofs.Ytbddpjofhddilaa
