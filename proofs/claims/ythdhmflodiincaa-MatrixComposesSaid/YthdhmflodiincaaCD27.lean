/- Texts of the proof: SC0. -/
import Derived.Test.YthdhmflodiincaaCD26
import Derived.Test.YthdhmflodiincaaCD15
set_option maxRecDepth 100000
set_option maxHeartbeats 8000000
namespace Go.Proofs.Ythdhmflodiincaa
open Go.RowKit

def Ty3 (w : World) (b : Nat) : Prop := ∃ cur fr, w.heap[b]? = some (.cells cur 3 fr)
theorem Ty3.lt {w : World} {b : Nat} (h : Ty3 w b) : b < w.heap.size := by
 obtain ⟨_, _, h⟩ := h
 exact (Array.getElem?_eq_some_iff.1 h).1
theorem Ty3.grown {w w' : World} {b : Nat} {r : Option Nat} (h : Ty3 w b) (hg : w.grownBy w' r) (hr : some b ≠ r) : Ty3 w' b := by
 obtain ⟨c, f, h⟩ := h
 exact ⟨c, f, (hg.block b (Array.getElem?_eq_some_iff.1 h).1 hr).trans h⟩
theorem Ty3.set {w : World} {b : Nat} (h : Ty3 w b) (o : Nat) (v : Value) : Ty3 (w.setCell ⟨b, o, none⟩ v) b := by
 obtain ⟨c, f, h⟩ := h
 refine ⟨c.setIfInBounds o v, f, ?_⟩
 unfold World.setCell
 simp [Array.getElem?_modify, h]
theorem GatesW.set3 {w : World} {a : Option Addr} {c br : Nat} {g : List Gt} (h : GatesW w a c g) (ht : Ty3 w br) (o : Nat) (v : Value) : GatesW (w.setCell ⟨br, o, none⟩ v) a c g := by
 obtain ⟨hc, h | ⟨b, o', ha, hty, hz⟩⟩ := h
 · exact ⟨hc, .inl h⟩
 ·
  have hne : b ≠ br := fun e => by
   obtain ⟨_, _, h1⟩ := hty
   obtain ⟨_, _, h2⟩ := ht
   rw [e, h2] at h1
   cases h1
  have hx : ∀ {q : Nat} {v' : Value}, w.cell? ⟨b, q, none⟩ = some v' → (w.setCell ⟨br, o, none⟩ v).cell? ⟨b, q, none⟩ = some v' := fun h3 => (World.cell?_setCell_other _ _ _ _ (fun e => hne (by injection e with e1; exact e1.symm))).trans h3
  exact ⟨hc, .inr ⟨b, o', ha, hty.grown (grown_set w br o v) (fun e => hne (by injection e)), fun j z hj => ⟨hx (hz j z hj).1, hx (hz j z hj).2.1, hx (hz j z hj).2.2⟩⟩⟩
structure TA (w : World) (b n : Nat) (t : Int → Int) : Prop where
 ty : Ty3 w b
 cells : ∀ j, j < n → w.cell? ⟨b, j, none⟩ = some (.int .i64 (t (j : Int)))
 fr : ∀ o, w.frozen? ⟨b, o, none⟩ = false
theorem TA.grown {w w' : World} {b n : Nat} {t : Int → Int} (h : TA w b n t) (hg : w.grownBy w' none) : TA w' b n t :=
 ⟨h.ty.grown hg (by simp), fun j hj => hg.cell (h.cells j hj) (by simp), fun o => (grown_frozen hg h.ty.lt o).trans (h.fr o)⟩
theorem TA.set {w : World} {b n : Nat} {t : Int → Int} (h : TA w b n t) {j : Nat} (hj : j < n) (z : Int) : TA (w.setCell ⟨b, j, none⟩ (.int .i64 z)) b n (fun k => if k = (j : Int) then z else t k) := by
 refine ⟨h.ty.set _ _, fun q hq => ?_, fun o => by rw [World.frozen?_setCell]; exact h.fr o⟩
 by_cases e : q = j
 ·
  subst e
  rw [if_pos rfl]
  exact World.cell?_setCell_same _ _ _ (h.cells q hq)
 ·
  rw [if_neg (by omega)]
  exact (World.cell?_setCell_other _ _ _ _ (fun e2 => e (by injection e2 with _ e3; exact e3.symm))).trans (h.cells q hq)
theorem TA.put {w : World} {b n k o : Nat} {t : Int → Int} (h : TA w b n t) (hne : k ≠ b) (v : Value) : TA (w.setCell ⟨k, o, none⟩ v) b n t :=
 ⟨h.ty.grown (grown_set w k o v) (fun e => hne (by injection e with e; exact e.symm)), fun j hj => (World.cell?_setCell_other _ _ _ _ (fun e => hne (by injection e))).trans (h.cells j hj), fun o' => by rw [World.frozen?_setCell]; exact h.fr o'⟩
theorem TA.laid {w : World} {b n k : Nat} {t : Int → Int} (h : TA w b n t) (hne : k ≠ b) (u v : Value) : TA (laidX w k u v) b n t := (h.put hne u).put hne v
theorem own_ta {w : World} {B n c : Nat} {a : Option Addr} (h : w.ownsRow B 3 1 (.slice a n c) n (intCells (List.replicate n 1))) (hn : 0 < n) : ∃ b, a = some ⟨b, 0, none⟩ ∧ TA w b n (fun _ => 1) ∧ B ≤ b ∧ n ≤ c := by
 have hc := @World.ownsRow.cells w B 3 1 (.slice a n c) n _ h
 rcases h.2 with ⟨_, h0⟩ | ⟨g, cap, cur, e, hb, hg, hnc, hcm, _⟩
 · omega
 ·
  injection e with e1 _ e3
  subst e1 e3
  refine ⟨g, rfl, ⟨⟨_, _, hg⟩, fun j hj => ?_, fun o => ?_⟩, hb, hnc⟩
  ·
   have := hc (g := g) rfl j (.int .i64 1) (by rw [intCells, List.getElem?_map, List.getElem?_replicate, if_pos hj]; rfl)
   rw [add_at] at this
   exact this
  ·
   unfold World.frozen?
   simp [hg]
structure RJ (w : World) (b0 b1 b2 b3 b4 br : Nat) (ka kb : Int) (aa ab : Option Addr) (na ca nb cb tot : Nat) (g : List Gt) (t : Int → Int) (W : World) : Prop where
 gw : w.grownBy W none
 c : ∃ ac cc, CF W b0 ac g.length cc ∧ GatesW W ac cc g
 x : MF W b1 ka aa na ca
 y : MF W b2 kb ab nb cb
 r : CF W b3 none 0 0
 s : MF W b4 0 none 0 0
 m : TA W br tot t
section
variable {w W W' : World} {b0 b1 b2 b3 b4 br : Nat} {ka kb : Int} {aa ab : Option Addr} {na ca nb cb tot : Nat} {g : List Gt} {t : Int → Int}
theorem RJ.grown (h : RJ w b0 b1 b2 b3 b4 br ka kb aa ab na ca nb cb tot g t W) (hg : W.grownBy W' none) : RJ w b0 b1 b2 b3 b4 br ka kb aa ab na ca nb cb tot g t W' := by
 obtain ⟨ac, cc, h1, h2⟩ := h.c
 exact ⟨gT h.gw hg, ⟨ac, cc, h1.grown hg, h2.grown hg⟩, h.x.grown hg, h.y.grown hg, h.r.grown hg, h.s.grown hg, h.m.grown hg⟩
theorem RJ.setC (h : RJ w b0 b1 b2 b3 b4 br ka kb aa ab na ca nb cb tot g t W) (hb : w.heap.size ≤ b0 ∧ b0 ≠ b3 ∧ b0 ≠ br) {g' : List Gt} {a : Option Addr} {c : Nat} (hr : GatesW W a c g') : RJ w b0 b1 b2 b3 b4 br ka kb aa ab na ca nb cb tot g' t (W.setCell ⟨b0, 0, none⟩ (.slice a g'.length c)) := by
 obtain ⟨ac, cc, h1, h2⟩ := h.c
 exact ⟨CF.grows h.gw hb.1 _, ⟨a, c, h1.put _ _ _, h1.gates _ hr⟩, h1.mf _ h.x, h1.mf _ h.y, h1.cf _ h.r hb.2.1, h1.mf _ h.s, h.m.put hb.2.2 _⟩
theorem MF.far {b k o : Nat} {ar : Int} {a : Option Addr} {n c : Nat} (h : MF w b ar a n c) (hne : k ≠ b) (v : Value) : MF (w.setCell ⟨k, o, none⟩ v) b ar a n c :=
 ⟨(World.cell?_setCell_other _ _ _ _ (fun e => hne (by injection e))).trans h.1, (World.cell?_setCell_other _ _ _ _ (fun e => hne (by injection e))).trans h.2.1, by rw [World.frozen?_setCell]; exact h.2.2.1, by rw [World.frozen?_setCell]; exact h.2.2.2⟩
theorem CF.far {b k o : Nat} {a : Option Addr} {n c : Nat} (h : CF w b a n c) (hne : k ≠ b) (v : Value) : CF (w.setCell ⟨k, o, none⟩ v) b a n c :=
 ⟨(World.cell?_setCell_other _ _ _ _ (fun e => hne (by injection e))).trans h.1, by rw [World.frozen?_setCell]; exact h.2⟩
theorem RJ.setT (h : RJ w b0 b1 b2 b3 b4 br ka kb aa ab na ca nb cb tot g t W) (hb : w.heap.size ≤ br ∧ b0 < br ∧ b1 < br ∧ b2 < br ∧ b3 < br ∧ b4 < br) {j : Nat} (hj : j < tot) (z : Int) : RJ w b0 b1 b2 b3 b4 br ka kb aa ab na ca nb cb tot g (fun k => if k = (j : Int) then z else t k) (W.setCell ⟨br, j, none⟩ (.int .i64 z)) := by
 obtain ⟨ac, cc, h1, h2⟩ := h.c
 exact ⟨grown_own h.gw (grown_set W br j _) (fun k e => by cases e; exact hb.1), ⟨ac, cc, h1.far (by omega) _, h2.set3 h.m.ty _ _⟩, h.x.far (by omega) _, h.y.far (by omega) _, h.r.far (by omega) _, h.s.far (by omega) _, h.m.set hj z⟩
end
theorem boxes5j (w : World) (xa : Option Addr) (g : List Gt) (xc : Nat) (ka kb : Int) (aa ab : Option Addr) (na ca nb cb : Nat) (h : GatesW w xa xc g) :
  ∃ W b0 b1 b2 b3 b4, ((((w.alloc (.cells #[.slice xa g.length xc] 30)).alloc (.cells #[.int .i64 ka, .slice aa na ca] 26)).alloc (.cells #[.int .i64 kb, .slice ab nb cb] 26)).alloc (.cells #[.slice none 0 0] 30)).alloc (.cells #[.int .i64 0, .slice none 0 0] 26) = W ∧
   (w.heap.size = b0 ∧ w.heap.size + 1 = b1 ∧ w.heap.size + 1 + 1 = b2 ∧ w.heap.size + 1 + 1 + 1 = b3 ∧ w.heap.size + 1 + 1 + 1 + 1 = b4 ∧ W.heap.size = b4 + 1) ∧ w.grownBy W none ∧ (∃ ac cc, CF W b0 ac g.length cc ∧ GatesW W ac cc g) ∧ MF W b1 ka aa na ca ∧ MF W b2 kb ab nb cb ∧ CF W b3 none 0 0 ∧ MF W b4 0 none 0 0 :=
 ⟨_, _, _, _, _, _, rfl, ⟨rfl, rfl, rfl, rfl, rfl, by simp⟩, (((((gAl w _ none).trans (gAl _ _ none)).trans (gAl _ _ none)).trans (gAl _ _ none)).trans (gAl _ _ none)),
  ⟨xa, xc, ⟨by go_simp, by go_simp⟩, ((((h.grown (gAl w _ none)).grown (gAl _ _ none)).grown (gAl _ _ none)).grown (gAl _ _ none)).grown (gAl _ _ none)⟩,
  ⟨by go_simp, by go_simp, by go_simp, by go_simp⟩, ⟨by go_simp, by go_simp, by go_simp, by go_simp⟩, ⟨by go_simp, by go_simp⟩, ⟨by go_simp, by go_simp, by go_simp, by go_simp⟩⟩
theorem ofTabL_succ (t : Int → Int) (i : Nat) : ofTabL t (ranksTo (i + 1)) = keptM (ofTabL t (ranksTo i)) (i : Int) (t (i : Int)) := by
 unfold ofTabL ranksTo keptM
 rw [List.range_succ, List.map_append, List.filter_append, List.map_append, List.map_singleton]
 by_cases h : t (i : Int) = 1
 ·
  rw [if_pos h]
  simp [h]
 ·
  rw [if_neg h]
  simp [h]
theorem ofTabL_len (t : Int → Int) (i : Nat) : (ofTabL t (ranksTo i)).length ≤ i := by
 unfold ofTabL ranksTo
 rw [List.length_map]
 exact Nat.le_trans (List.length_filter_le _ _) (by simp)
end Go.Proofs.Ythdhmflodiincaa
