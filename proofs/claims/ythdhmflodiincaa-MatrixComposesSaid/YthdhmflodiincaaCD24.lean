/- Texts of the proof: UA UD UE UH0 UP UL0 UO UQ UR. -/
import Derived.Test.YthdhmflodiincaaCD19
import Derived.Test.YthdhmflodiincaaCD17
import Derived.Test.YthdhmflodiincaaCD18
import Derived.Test.YthdhmflodiincaaCD08
import Derived.Test.YthdhmflodiincaaCD09
import Derived.Test.YthdhmflodiincaaCD00
import Derived.Deep.DeepCutAuto
import Derived.Laws.EntriesVeiled
import Derived.Test.YthdhmflodiincaaCD12
import Derived.Test.YthdhmflodiincaaCD16
import Derived.Test.YthdhmflodiincaaCD15
import Derived.Test.YthdhmflodiincaaCD01
import Derived.Test.YthdhmflodiincaaCD13
import Derived.Maps.OwnSet
import Derived.Maps.OwnIn
import Derived.Shelf.SlIterI.Nil
import Derived.Shelf.SortM.Plain
import Derived.Shelf.SortM.SortNone
import Derived.Ground.GgzProg
import Derived.Ground.SlgmProg
set_option maxRecDepth 100000
set_option maxHeartbeats 8000000
namespace Go.Proofs.Ythdhmflodiincaa
open Lib (hid)
open Go.RowKit

def CF (w : World) (b : Nat) (a : Option Addr) (n c : Nat) : Prop := w.cell? ⟨b, 0, none⟩ = some (.slice a n c) ∧ w.frozen? ⟨b, 0, none⟩ = false
def MF (w : World) (b : Nat) (ar : Int) (a : Option Addr) (n c : Nat) : Prop := w.cell? ⟨b, 0, none⟩ = some (.int .i64 ar) ∧ w.cell? ⟨b, 1, none⟩ = some (.slice a n c) ∧ w.frozen? ⟨b, 0, none⟩ = false ∧ w.frozen? ⟨b, 1, none⟩ = false
section
variable {w w' : World} {b b' : Nat} {a a' : Option Addr} {n c n' c' : Nat} {ar : Int} {g : List Gt} {m : List Cl}
theorem CF.grown (h : CF w b a n c) (hg : w.grownBy w' none) : CF w' b a n c := ⟨hg.cell h.1 (by simp), (grown_frozen hg (lies_lt h.1) 0).trans h.2⟩
theorem MF.grown (h : MF w b ar a n c) (hg : w.grownBy w' none) : MF w' b ar a n c := ⟨hg.cell h.1 (by simp), hg.cell h.2.1 (by simp), (grown_frozen hg (lies_lt h.1) 0).trans h.2.2.1, (grown_frozen hg (lies_lt h.1) 1).trans h.2.2.2⟩
theorem CF.new (w : World) (a : Option Addr) (n c : Nat) : CF (w.alloc (.cells #[.slice a n c] 30)) w.heap.size a n c := (one_cell w _ 30).2
theorem MF.new (w : World) (ar : Int) (a : Option Addr) (n c : Nat) : MF (w.alloc (.cells #[.int .i64 ar, .slice a n c] 26)) w.heap.size ar a n c := ⟨by go_simp, by go_simp, by go_simp, by go_simp⟩
theorem CF.neI (h : CF w b a n c) {A : Addr} {x : Int} (hA : w.cell? A = some (.int .i64 x)) : (⟨b, 0, none⟩ : Addr) ≠ A := fun e => by rw [← e, h.1] at hA; cases hA
theorem CF.put (h : CF w b a n c) (a' : Option Addr) (n' c' : Nat) : CF (w.setCell ⟨b, 0, none⟩ (.slice a' n' c')) b a' n' c' := ⟨World.cell?_setCell_same _ _ _ h.1, by rw [World.frozen?_setCell]; exact h.2⟩
theorem CF.cf (_h : CF w b a n c) (v : Value) (h' : CF w b' a' n' c') (hne : b ≠ b') : CF (w.setCell ⟨b, 0, none⟩ v) b' a' n' c' :=
 ⟨(World.cell?_setCell_other _ _ _ _ (fun e => hne (by injection e))).trans h'.1, by rw [World.frozen?_setCell]; exact h'.2⟩
theorem CF.mf (h : CF w b a n c) (v : Value) (h' : MF w b' ar a' n' c') : MF (w.setCell ⟨b, 0, none⟩ v) b' ar a' n' c' :=
 ⟨(World.cell?_setCell_other _ _ _ _ (h.neI h'.1)).trans h'.1, (World.cell?_setCell_other _ _ _ _ (fun e => by injection e with _ e2; cases e2)).trans h'.2.1, by rw [World.frozen?_setCell]; exact h'.2.2.1, by rw [World.frozen?_setCell]; exact h'.2.2.2⟩
theorem CF.gates (h : CF w b a n c) (v : Value) (h' : GatesW w a' c' g) : GatesW (w.setCell ⟨b, 0, none⟩ v) a' c' g := h'.set h.1 v
theorem CF.cells (h : CF w b a n c) (v : Value) (h' : CellsW w a' c' m) : CellsW (w.setCell ⟨b, 0, none⟩ v) a' c' m := by
 obtain ⟨hc, h' | ⟨k, o, ha, hh⟩⟩ := h'
 · exact ⟨hc, .inl h'⟩
 · exact ⟨hc, .inr ⟨k, o, ha, fun j z hj => ⟨(World.cell?_setCell_other _ _ _ _ (h.neI (hh j z hj).1)).trans (hh j z hj).1, (World.cell?_setCell_other _ _ _ _ (h.neI (hh j z hj).2)).trans (hh j z hj).2⟩⟩⟩
theorem CF.grows {w0 : World} (hg : w0.grownBy w none) (hb : w0.heap.size ≤ b) (v : Value) : w0.grownBy (w.setCell ⟨b, 0, none⟩ v) none := grown_own hg (grown_set w b 0 v) (fun k e => by cases e; exact hb)
theorem MF.pair (h : MF w b ar a n c) (u v : Value) {k o : Nat} {x y : Int} (hx : w.cell? ⟨k, o, none⟩ = some (.int .i64 x)) (hy : w.cell? ⟨k, o + 1, none⟩ = some (.int .i64 y)) : (laidX w b u v).cell? ⟨k, o, none⟩ = some (.int .i64 x) ∧ (laidX w b u v).cell? ⟨k, o + 1, none⟩ = some (.int .i64 y) := by
 have n1 : ∀ {A : Addr} {z : Int}, w.cell? A = some (.int .i64 z) → (⟨b, 1, none⟩ : Addr) ≠ A := fun hA e => by rw [← e, h.2.1] at hA; cases hA
 have n0 : (⟨b, 0, none⟩ : Addr) ≠ ⟨k, o, none⟩ := fun e => by
  injection e with e1 e2
  subst e1; subst e2
  exact n1 hy rfl
 have n2 : (⟨b, 0, none⟩ : Addr) ≠ ⟨k, o + 1, none⟩ := fun e => by
  injection e with e1 e2
  omega
 exact ⟨(laidX_other n0 (n1 hx)).trans hx, (laidX_other n2 (n1 hy)).trans hy⟩
theorem MF.cells (h : MF w b ar a n c) (u v : Value) (h' : CellsW w a' c' m) : CellsW (laidX w b u v) a' c' m := by
 obtain ⟨hc, h' | ⟨k, o, ha, hh⟩⟩ := h'
 · exact ⟨hc, .inl h'⟩
 · exact ⟨hc, .inr ⟨k, o, ha, fun j z hj => h.pair u v (hh j z hj).1 (hh j z hj).2⟩⟩
theorem MF.gates (h : MF w b ar a n c) (u v : Value) (h' : GatesW w a' c' g) : GatesW (laidX w b u v) a' c' g := by
 obtain ⟨hc, h' | ⟨k, o, ha, ht, hh⟩⟩ := h'
 · exact ⟨hc, .inl h'⟩
 · exact ⟨hc, .inr ⟨k, o, ha, (ht.setAt b 0 u).setAt b 1 v, fun j z hj => ⟨(h.pair u v (hh j z hj).1 (hh j z hj).2.1).1, (h.pair u v (hh j z hj).1 (hh j z hj).2.1).2, (h.pair u v (hh j z hj).2.1 (hh j z hj).2.2).2⟩⟩⟩
theorem MF.cf (h : MF w b ar a n c) (u v : Value) (h' : CF w b' a' n' c') : CF (laidX w b u v) b' a' n' c' := by
 have n0 : (⟨b, 0, none⟩ : Addr) ≠ ⟨b', 0, none⟩ := fun e => by have h1 := h'.1; rw [← e, h.1] at h1; cases h1
 have n1 : (⟨b, 1, none⟩ : Addr) ≠ ⟨b', 0, none⟩ := fun e => by injection e with e1 e2; omega
 refine ⟨(laidX_other n0 n1).trans h'.1, ?_⟩
 unfold laidX
 rw [World.frozen?_setCell, World.frozen?_setCell]; exact h'.2
theorem MF.mf {ar' : Int} (_h : MF w b ar a n c) (u v : Value) (h' : MF w b' ar' a' n' c') (hne : b ≠ b') : MF (laidX w b u v) b' ar' a' n' c' := by
 have ne : ∀ i j : Nat, (⟨b, i, none⟩ : Addr) ≠ ⟨b', j, none⟩ := fun i j e => hne (by injection e)
 refine ⟨(laidX_other (ne 0 0) (ne 1 0)).trans h'.1, (laidX_other (ne 0 1) (ne 1 1)).trans h'.2.1, ?_, ?_⟩
 · unfold laidX; rw [World.frozen?_setCell, World.frozen?_setCell]; exact h'.2.2.1
 · unfold laidX; rw [World.frozen?_setCell, World.frozen?_setCell]; exact h'.2.2.2
theorem MF.put (h : MF w b ar a n c) (ar' : Int) (a' : Option Addr) (n' c' : Nat) : MF (laidX w b (.int .i64 ar') (.slice a' n' c')) b ar' a' n' c' := by
 refine ⟨?_, ?_, ?_, ?_⟩
 ·
  unfold laidX
  rw [World.cell?_setCell_other _ _ _ _ (by simp)]
  exact World.cell?_setCell_same _ _ _ h.1
 ·
  unfold laidX
  exact World.cell?_setCell_same _ _ _ ((World.cell?_setCell_other _ _ _ _ (by simp)).trans h.2.1)
 · unfold laidX; rw [World.frozen?_setCell, World.frozen?_setCell]; exact h.2.2.1
 · unfold laidX; rw [World.frozen?_setCell, World.frozen?_setCell]; exact h.2.2.2
theorem MF.grows {w0 : World} (hg : w0.grownBy w none) (hb : w0.heap.size ≤ b) (u v : Value) : w0.grownBy (laidX w b u v) none := XZ.grows hg hb u v
end
end Go.Proofs.Ythdhmflodiincaa
namespace Go.Proofs.Ythdhmflodiincaa
open Lib (hid)
open Go.RowKit Go.Maps

def TF (w : World) (b : Nat) (r : Nat) (fv : Value) : Prop := w.cell? ⟨b, 0, none⟩ = some (.int .i64 (r : Int)) ∧ w.cell? ⟨b, 1, none⟩ = some fv
theorem TF.grown {w w' : World} {b r : Nat} {fv : Value} (h : TF w b r fv) (hg : w.grownBy w' none) : TF w' b r fv := ⟨hg.cell h.1 (by simp), hg.cell h.2 (by simp)⟩
section
variable {Q : Exit → Act → World → Prop} {V W : World} {b0 b1 b2 b3 b4 nm : Nat} {m : List Cl} {ma : Option Addr} {mc : Nat} {L : Array Bool} {t : Nat → Value}
end

def NF (w : World) (b : Nat) (n : Nat) : Prop := w.cell? ⟨b, 0, none⟩ = some (.int .i64 (n : Int))
theorem NF.grown {w w' : World} {b n : Nat} (h : NF w b n) (hg : w.grownBy w' none) : NF w' b n := hg.cell h (by simp)

section
variable {w w' : World} {b p k : Nat} {T : Int → Bool} {t : Int → Int} {a : Option Addr} {n c : Nat} {ar : Int} {g : List Gt} {m : List Cl}
theorem MapT.ne (h : MapT w b k T t) {A : Addr} {v : Value} (hA : w.cell? A = some v) (hs : A.spot = none) : A.block ≠ b := fun e => by
 obtain ⟨x, o, s⟩ := A
 simp only at hs e
 subst hs; subst e
 exact h.not_cells hA
theorem MapT.cell (h : MapT w b k T t) (hg : w.grownBy w' (some b)) {x o : Nat} {v : Value} (hA : w.cell? ⟨x, o, none⟩ = some v) : w'.cell? ⟨x, o, none⟩ = some v :=
 hg.cell hA (fun e => h.ne hA rfl (by injection e))
theorem MapT.fr (h : MapT w b k T t) (hg : w.grownBy w' (some b)) {x o o' : Nat} {v : Value} (hA : w.cell? ⟨x, o, none⟩ = some v) : w'.frozen? ⟨x, o', none⟩ = w.frozen? ⟨x, o', none⟩ :=
 World.frozen?_of_block (a := ⟨x, o', none⟩) (hg.block x (lies_lt hA) (fun e => h.ne hA rfl (by injection e)))
theorem MapT.cf (h : MapT w b k T t) (hg : w.grownBy w' (some b)) (h' : CF w p a n c) : CF w' p a n c := ⟨h.cell hg h'.1, (h.fr hg h'.1).trans h'.2⟩
theorem MapT.mf (h : MapT w b k T t) (hg : w.grownBy w' (some b)) (h' : MF w p ar a n c) : MF w' p ar a n c := ⟨h.cell hg h'.1, h.cell hg h'.2.1, (h.fr hg h'.1).trans h'.2.2.1, (h.fr hg h'.1).trans h'.2.2.2⟩
theorem MapT.cells (h : MapT w b k T t) (hg : w.grownBy w' (some b)) (h' : CellsW w a c m) : CellsW w' a c m := by
 obtain ⟨hc, h' | ⟨x, o, ha, hh⟩⟩ := h'
 · exact ⟨hc, .inl h'⟩
 · exact ⟨hc, .inr ⟨x, o, ha, fun j z hj => ⟨h.cell hg (hh j z hj).1, h.cell hg (hh j z hj).2⟩⟩⟩
theorem MapT.gates (h : MapT w b k T t) (hg : w.grownBy w' (some b)) (h' : GatesW w a c g) : GatesW w' a c g := by
 obtain ⟨hc, h' | ⟨x, o, ha, ht, hh⟩⟩ := h'
 · exact ⟨hc, .inl h'⟩
 ·
  cases g with
  | nil => exact ⟨hc, .inl rfl⟩
  | cons z l =>
   have h0 := (hh 0 z rfl).1
   exact ⟨hc, .inr ⟨x, o, ha, ht.grown hg (fun e => h.ne h0 rfl (by injection e)), fun j z hj => ⟨h.cell hg (hh j z hj).1, h.cell hg (hh j z hj).2.1, h.cell hg (hh j z hj).2.2⟩⟩⟩
theorem MapT.grown (h : MapT w b k T t) (hg : w.grownBy w' none) : MapT w' b k T t := h.kept hg (by simp)
end

def turnM (n : Nat) (l : List Cl) : List Cl := l.map fun c => (c.1 % (n : Int) * n + c.1 / n, c.2)
theorem turnM_take {n : Nat} {l : List Cl} {i : Nat} {c : Cl} (h : l[i]? = some c) : turnM n (l.take (i + 1)) = turnM n (l.take i) ++ [(c.1 % (n : Int) * n + c.1 / n, c.2)] := by
 unfold turnM
 rw [List.take_add_one, h]
 simp
def RowT (w : World) (B : Nat) (v : Value) (n : Nat) (l : List Cl) : Prop := w.ownsRow B 71 2 v n (clCells l)
theorem RowT.grown {w w' : World} {B n : Nat} {v : Value} {l : List Cl} (h : RowT w B v n l) (hg : w.grownBy w' none) : RowT w' B v n l := World.ownsRow.kept h hg (by cases v.ownBlock <;> simp)
theorem RowT.set {w : World} {B n : Nat} {v : Value} {l : List Cl} (h : RowT w B v n l) (p o : Nat) (u : Value) (hp : p < B) : RowT (w.setCell ⟨p, o, none⟩ u) B v n l :=
 World.ownsRow.kept h (grown_set w p o u) (.inr fun e => by have := World.ownsRow.lt h p e; omega)
theorem MF.kept {w w' : World} {b n c : Nat} {ar : Int} {a : Option Addr} {r : Option Nat} (h : MF w b ar a n c) (hg : w.grownBy w' r) (hr : r ≠ some b) : MF w' b ar a n c := by
 have ne : some b ≠ r := fun e => hr e.symm
 exact ⟨hg.cell h.1 ne, hg.cell h.2.1 ne, (World.frozen?_of_block (a := ⟨b, 0, none⟩) (hg.block b (lies_lt h.1) ne)).trans h.2.2.1, (World.frozen?_of_block (a := ⟨b, 1, none⟩) (hg.block b (lies_lt h.1) ne)).trans h.2.2.2⟩
theorem TF.kept {w w' : World} {b x : Nat} {fv : Value} {r : Option Nat} (h : TF w b x fv) (hg : w.grownBy w' r) (hr : r ≠ some b) : TF w' b x fv := ⟨hg.cell h.1 (fun e => hr e.symm), hg.cell h.2 (fun e => hr e.symm)⟩
theorem MF.put1 {w : World} {b n c n' c' : Nat} {ar : Int} {a a' : Option Addr} (h : MF w b ar a n c) : MF (w.setCell ⟨b, 1, none⟩ (.slice a' n' c')) b ar a' n' c' :=
 ⟨(World.cell?_setCell_other _ _ _ _ (fun e => by injection e with _ e; cases e)).trans h.1, World.cell?_setCell_same _ _ _ h.2.1, by rw [World.frozen?_setCell]; exact h.2.2.1, by rw [World.frozen?_setCell]; exact h.2.2.2⟩
theorem resU44 (tmps : Array Value) (w : World) (b : Nat) (a : Option Addr) (n d : Nat) (x : Value) (ht : tmps.getD 4 undef = .pointer (some ⟨b, 0, none⟩)) (h0 : w.cell? ⟨b, 0, none⟩ = some x) (h1 : w.cell? ⟨b, 1, none⟩ = some (.slice a n d)) :
  (results Try.f44 tmps).run Try.prog w = .ok (.agg #[x, .slice a n d]) w := by
 have ht' : tmps[4]?.getD undef = .pointer (some ⟨b, 0, none⟩) := by simpa using ht
 simp [results, ht', go_sem, h0, h1, Result.andThen]
theorem boxesM (w : World) (ar : Int) (ma : Option Addr) (nm mc : Nat) :
  ∃ W b0 b1, (w.alloc (.cells #[.int .i64 ar, .slice ma nm mc] 26)).alloc (.cells #[.int .i64 0, .slice none 0 0] 26) = W ∧ w.grownBy W none ∧ W.heap.size = w.heap.size + 2 ∧ (w.heap.size = b0 ∧ w.heap.size + 1 = b1) ∧ MF W b0 ar ma nm mc ∧ MF W b1 0 none 0 0 :=
 ⟨_, _, _, rfl, (gAl w _ none).trans (gAl _ _ none), by simp, ⟨rfl, rfl⟩, ⟨by go_simp, by go_simp, by go_simp, by go_simp⟩, ⟨by go_simp, by go_simp, by go_simp, by go_simp⟩⟩
theorem mturn_calls (w : World) (n : Nat) (ar : Int) (m : List Cl) (ma : Option Addr) (mc nm : Nat) (hnm : m.length = nm) (hm : CellsW w ma mc m) (hn1 : 1 ≤ n) (hn4 : n ≤ 4) (hl : nm ≤ 1000) (hr : ∀ c ∈ m, 0 ≤ c.1 ∧ c.1 ≤ 10000) :
  Calls Try.prog 44 #[.int .i64 (n : Int), .agg #[.int .i64 ar, .slice ma nm mc]] w fun e w' => ∃ b d l', e = .returned (.agg #[.int .i64 ar, .slice b nm d]) ∧ l'.Perm (turnM n m) ∧ SortedCl l' ∧ CellsW w' b d l' ∧ w.grownBy w' none := by
 obtain ⟨i0, hi0, hz0, hz1, hz2⟩ := info_parts infoCl
 obtain ⟨W, b0, b1, hW, hg, hsz, ⟨hb0, hb1⟩, k0, k1⟩ := boxesM w ar ma nm mc
 have HG := hid hg
 have H0 := hid k0
 have H1 := hid k1
 have HN := hid (show w.heap.size ≤ b0 ∧ b0 < b1 ∧ b1 < W.heap.size from by omega)
 have HM := hid hm
 have HNL := hid (show m.length = nm ∧ nm ≤ 1000 ∧ 1 ≤ n ∧ n ≤ 4 from ⟨hnm, hl, hn1, hn4⟩)
 have HRR := hid hr
 have HB := hid (And.intro hb1 hb0)
 clear hg k0 k1 hsz hm hb0 hb1 hnm hn1 hn4 hl hr
 go_enter Try.func44, Try.ntmps44
 go_upto_region 1 with fail
 rw [HB.out.1, HB.out.2]
 clear hW HB
 have q0 := H0.out.1
 have r0 := H0.out.2.1
 go_upto_region 2 with fail
 clear q0 r0
 have gw := gAl W (.cells #[.int .i64 ar, .slice none 0 0] 26) none
 have hb := MF.new W ar none 0 0
 obtain ⟨V1, hV⟩ : ∃ z, World.alloc W (.cells #[.int .i64 ar, .slice none 0 0] 26) = z := ⟨_, rfl⟩
 have hz : V1.heap.size = W.heap.size + 1 := by rw [← hV]; simp
 rw [hV] at gw hb ⊢
 clear hV
 obtain ⟨b2, hbb⟩ : ∃ z, W.heap.size = z := ⟨_, rfl⟩
 rw [hbb] at hb ⊢
 have HS1 := hid (show W.heap.size = b2 ∧ V1.heap.size = b2 + 1 from by omega)
 clear hz hbb
 replace H0 := hid (H0.out.grown gw)
 replace H1 := hid (H1.out.grown gw)
 replace HG := hid (gT HG.out gw)
 have HS2 := hid (World.grownBy.size gw)
 clear gw
 have H2 := hid hb
 clear hb
 have q0 := H0.out.1
 have r0 := H0.out.2.1
 go_wp2_with fail
 clear q0 r0
 obtain ⟨B, hB⟩ : ∃ z, V1.heap.size = z := ⟨_, rfl⟩
 have HSA := hid (show w.heap.size ≤ b0 ∧ b0 < b1 ∧ b1 < b2 ∧ b2 < B from (by have := HN.out; have := HS1.out; have := HS2.out; omega))
 have HBB := hid hB
 clear hB
 go_loopg [14] nm (fun gk s14 wr => ∃ (i : Nat) (va : Option Addr) (vc : Nat), s14 = .int .i64 (i : Int) ∧ gk = nm - i ∧ i ≤ nm ∧ w.grownBy wr none ∧ B ≤ wr.heap.size ∧ MF wr b1 0 none 0 0 ∧ MF wr b2 ar va i vc ∧ RowT wr B (.slice va i vc) i (turnM n (m.take i)))
 case atStart => exact ⟨0, none, 0, rfl, rfl, Nat.zero_le _, HG.out, by rw [HBB.out]; exact Nat.le_refl _, H1.out, H2.out, World.ownsRow_nil _ _ _ _⟩
 case round =>
  clear H0 H1 H2 HG
  obtain ⟨i, va, vc, rfl, hgi, hi, hg, hBw, h1, h2, hrow⟩ := hrel
  have HG := hid hg
  have H1 := hid h1
  have H2 := hid h2
  have HW := hid hrow
  have HBW := hid hBw
  have HI := hid hgi
  clear hg h1 h2 hrow hBw hgi
  by_cases hin : i < nm
  ·
   have f1 : decide (i < nm) = true := decide_eq_true hin
   have f2 : decide ((i : Int) < (nm : Int)) = true := decide_eq_true (by omega)
   have hj0 : (0 : Int) ≤ (i : Int) := by omega
   have hj1 : (i : Int) < (nm : Int) := by omega
   have hk1 : IntKind.i64.wrap ((i : Int) + 1) = ((i + 1 : Nat) : Int) := by rw [IntWalk.i64_in _ (by have := HNL.out; omega)]; omega
   obtain ⟨⟨k, r⟩, hx⟩ : ∃ r, m[i]? = some r := ⟨_, List.getElem?_eq_getElem (by rw [HNL.out.1]; exact hin)⟩
   obtain ⟨bx, ox, hbx, x0, x1⟩ := (HM.out.grown HG.out).at hx
   subst hbx
   have hxr := HRR.out _ (List.mem_of_getElem? hx)
   simp only at hxr x0 x1
   obtain ⟨x, rfl⟩ : ∃ x : Nat, k = (x : Int) := ⟨k.toNat, by omega⟩
   obtain ⟨p, hp⟩ : ∃ r, x % n = r := ⟨_, rfl⟩
   obtain ⟨q, hq⟩ : ∃ q, x / n = q := ⟨_, rfl⟩
   have hT := turnM_take (n := n) hx
   have hn1 := HNL.out.2.2.1
   have hri : (x : Int) % (n : Int) = (p : Int) := by omega
   have hqi : (x : Int) / (n : Int) = (q : Int) := by rw [← hq]; rfl
   have hrn : p < n := by rw [← hp]; exact Nat.mod_lt _ (by omega)
   have hqx : q ≤ 10000 := by rw [← hq]; exact Nat.le_trans (Nat.div_le_self _ _) (by omega)
   have hrq : p * n ≤ 16 := Nat.mul_le_mul (show p ≤ 4 by have := HNL.out; omega) HNL.out.2.2.2
   simp only at hT
   rw [hri, hqi] at hT
   obtain ⟨P, hP⟩ : ∃ P, p * n = P := ⟨_, rfl⟩
   obtain ⟨V, hV⟩ : ∃ V, P + q = V := ⟨_, rfl⟩
   have hPi : (p : Int) * (n : Int) = (P : Int) := by rw [← hP]; simp
   have HT := hid (show turnM n (m.take (i + 1)) = turnM n (m.take i) ++ [((V : Int), r)] by rw [hT, hPi, ← hV]; simp)
   rw [hP] at hrq
   have hmod : (x : Int).tmod (n : Int) = (p : Int) := by rw [← hri, Int.tmod_eq_emod_of_nonneg (by omega)]
   have hwq : IntKind.i64.wrap (q : Int) = (q : Int) := IntWalk.i64_in _ (by omega)
   have hwP : IntKind.i64.wrap ((p : Int) * (n : Int)) = (P : Int) := by rw [hPi]; exact IntWalk.i64_in _ (by omega)
   have hwV : IntKind.i64.wrap ((P : Int) + (q : Int)) = (V : Int) := by rw [IntWalk.i64_in _ (by omega)]; omega
   have hnn : n ≠ 0 := by omega
   have hn0 : ((n : Int) == 0) = false := by simp; omega
   have hn00 : (n : Int) ≠ 0 := by omega
   have hnB : decide ((0 : Int) < (n : Int)) = true := by simp; omega
   have hnC : decide (0 < n) = true := by simp; omega
   clear hT hp hq hx hxr hP hV hPi hri
   go_upto_region 5 with fail
   clear x0 x1
   have HWR := hid (show ∀ j, (Value.slice va i vc).ownBlock = some j → B ≤ j ∧ j < wr.heap.size from fun j hj => World.ownsRow.lt (show wr.ownsRow B 71 2 (.slice va i vc) i (clCells (turnM n (m.take i))) from HW.out) j hj)
   have gw := gAl wr (.cells #[.int .i64 (x : Int), .int .i64 r] 71) none
   have hc5 := one_cells wr (.int .i64 (x : Int)) (.int .i64 r) 71
   obtain ⟨U, hU⟩ : ∃ z, World.alloc wr (.cells #[.int .i64 (x : Int), .int .i64 r] 71) = z := ⟨_, rfl⟩
   rw [hU] at gw hc5 ⊢
   clear hU
   obtain ⟨bz, hbz⟩ : ∃ z, wr.heap.size = z := ⟨_, rfl⟩
   rw [hbz] at hc5 HWR ⊢
   have HBZ := hid hbz
   clear hbz
   replace H1 := hid (H1.out.grown gw)
   replace H2 := hid (H2.out.grown gw)
   replace HW := hid (HW.out.grown gw)
   replace HG := hid (gT HG.out gw)
   have HS51 := hid (World.grownBy.size gw)
   clear gw
   have y0 := hc5.2.1
   have y1 := hc5.2.2.1
   have HY := hid (And.intro y0 y1)
   clear hc5
   go_upto_region 6 with fail
   have HWL := hid (show ∀ j, (Value.slice va i vc).ownBlock = some j → B ≤ j ∧ j < bz from fun j hj => by have := World.ownsRow.lt (show U.ownsRow B 71 2 (.slice va i vc) i (clCells (turnM n (m.take i))) from HW.out) j hj; have h2 := HWR.out j hj; omega)
   have HZ := hid (show TF U bz x (.int .i64 r) from HY.out)
   obtain ⟨Lk, hLk⟩ : ∃ z, turnM n (m.take i) = z := ⟨_, rfl⟩
   rw [hLk] at HW HT
   clear hLk y0 y1
   have HS := hid (fun (Wh : World) (h : TF Wh bz x (.int .i64 r)) => (h : (fun Wh : World => Wh.cell? ⟨bz, 0, none⟩ = some (.int .i64 (x : Int)) ∧ Wh.cell? ⟨bz, 1, none⟩ = some (.int .i64 r)) Wh))
   obtain ⟨wd, hwd⟩ : ∃ z, U.drew = z := ⟨_, rfl⟩
   have gw : U.grownBy wd none := by rw [← hwd]; exact ⟨rfl, rfl, rfl, Nat.le_refl _, fun _ _ _ => rfl⟩
   replace H1 := hid (H1.out.grown gw)
   replace H2 := hid (H2.out.grown gw)
   replace HW := hid (HW.out.grown gw)
   replace HZ := hid (HZ.out.grown gw)
   replace HG := hid (gT HG.out gw)
   have HS52 := hid (World.grownBy.size gw)
   clear gw
   have hdr : TF U.drew bz x (.int .i64 r) := by rw [hwd]; exact HZ.out
   refine wp_region_held_drew (S := (fun Wh : World => Wh.cell? ⟨bz, 0, none⟩ = some (.int .i64 (x : Int)) ∧ Wh.cell? ⟨bz, 1, none⟩ = some (.int .i64 r))) (by kernel_rfl) (HS.out _ hdr) (fun hH => ?_)
   rw [hwd] at hH ⊢
   clear hwd
   refine wpAnyH_take (i := 0) (oi := { dst := some 20, op := Op.fieldAddr 26 (Operand.tmp 5) 1, type := 0, pos := "matrix.go:142", after := #[], guard := none }) (v := ?_) rfl (by kernel_rfl) (by kernel_rfl) (by kernel_rfl) (fun _ _ _ h => h) (Or.inl ⟨by rfl, ?_⟩) (by assumption) ?_
   rotate_left 1
   · (intro W h; (try dsimp only at h); go_simp <;> with_reducible rfl)
   try simp only [Act.put, sA, sB, sC]
   refine wpAnyH_take (i := 2) (oi := { dst := some 22, op := Op.fieldAddr 71 (Operand.tmp 7) 0, type := 0, pos := "matrix.go:142", after := #[], guard := none }) (v := ?_) rfl (by kernel_rfl) (by kernel_rfl) (by kernel_rfl) (fun _ _ _ h => h) (Or.inl ⟨by rfl, ?_⟩) (by assumption) ?_
   rotate_left 1
   · (intro W h; (try dsimp only at h); go_simp <;> with_reducible rfl)
   try simp only [Act.put, sA, sB, sC]
   refine wpAnyH_take (i := 3) (oi := { dst := some 23, op := Op.load 3 (Operand.tmp 22), type := 3, pos := "matrix.go:142", after := #[{ on := 2, ground := Ground.data }], guard := none }) (v := ?_) rfl (by kernel_rfl) (by kernel_rfl) (by kernel_rfl) (fun _ _ _ h => h) (Or.inl ⟨by rfl, ?_⟩) (by assumption) ?_
   rotate_left 1
   · (intro W h; (try dsimp only at h); go_simp <;> with_reducible rfl)
   try simp only [Act.put, sA, sB, sC]
   refine wpAnyH_take (i := 4) (oi := { dst := some 24, op := Op.move (Operand.tmp 0), type := 3, pos := "matrix.go:142", after := #[], guard := none }) (v := ?_) rfl (by kernel_rfl) (by kernel_rfl) (by kernel_rfl) (fun _ _ _ h => h) (Or.inl ⟨by rfl, ?_⟩) (by assumption) ?_
   rotate_left 1
   · (intro W h; (try dsimp only at h); go_simp <;> with_reducible rfl)
   try simp only [Act.put, sA, sB, sC]
   refine wpAnyH_take (i := 5) (oi := { dst := some 25, op := Op.binOp BinOp.rem 3 (Operand.tmp 23) (Operand.tmp 24) 3, type := 3, pos := "matrix.go:142", after := #[{ on := 3, ground := Ground.data }, { on := 4, ground := Ground.data }], guard := none }) (v := ?_) rfl (by kernel_rfl) (by kernel_rfl) (by kernel_rfl) (fun _ _ _ h => h) (Or.inl ⟨by rfl, ?_⟩) (by assumption) ?_
   rotate_left 1
   · (intro W h; (try dsimp only at h); go_simp <;> with_reducible rfl)
   try simp only [Act.put, sA, sB, sC]
   refine wpAnyH_take (i := 6) (oi := { dst := some 26, op := Op.move (Operand.tmp 0), type := 3, pos := "matrix.go:142", after := #[], guard := none }) (v := ?_) rfl (by kernel_rfl) (by kernel_rfl) (by kernel_rfl) (fun _ _ _ h => h) (Or.inl ⟨by rfl, ?_⟩) (by assumption) ?_
   rotate_left 1
   · (intro W h; (try dsimp only at h); go_simp <;> with_reducible rfl)
   try simp only [Act.put, sA, sB, sC]
   refine wpAnyH_take (i := 7) (oi := { dst := some 27, op := Op.binOp BinOp.mul 3 (Operand.tmp 25) (Operand.tmp 26) 3, type := 3, pos := "matrix.go:142", after := #[{ on := 5, ground := Ground.data }, { on := 6, ground := Ground.data }], guard := none }) (v := ?_) rfl (by kernel_rfl) (by kernel_rfl) (by kernel_rfl) (fun _ _ _ h => h) (Or.inl ⟨by rfl, ?_⟩) (by assumption) ?_
   rotate_left 1
   · (intro W h; (try dsimp only at h); go_simp <;> with_reducible rfl)
   try simp only [Act.put, sA, sB, sC]
   refine wpAnyH_take (i := 8) (oi := { dst := some 28, op := Op.fieldAddr 71 (Operand.tmp 7) 0, type := 0, pos := "matrix.go:142", after := #[], guard := none }) (v := ?_) rfl (by kernel_rfl) (by kernel_rfl) (by kernel_rfl) (fun _ _ _ h => h) (Or.inl ⟨by rfl, ?_⟩) (by assumption) ?_
   rotate_left 1
   · (intro W h; (try dsimp only at h); go_simp <;> with_reducible rfl)
   try simp only [Act.put, sA, sB, sC]
   refine wpAnyH_take (i := 9) (oi := { dst := some 29, op := Op.load 3 (Operand.tmp 28), type := 3, pos := "matrix.go:142", after := #[{ on := 8, ground := Ground.data }], guard := none }) (v := ?_) rfl (by kernel_rfl) (by kernel_rfl) (by kernel_rfl) (fun _ _ _ h => h) (Or.inl ⟨by rfl, ?_⟩) (by assumption) ?_
   rotate_left 1
   · (intro W h; (try dsimp only at h); go_simp <;> with_reducible rfl)
   try simp only [Act.put, sA, sB, sC]
   refine wpAnyH_take (i := 10) (oi := { dst := some 30, op := Op.move (Operand.tmp 0), type := 3, pos := "matrix.go:142", after := #[], guard := none }) (v := ?_) rfl (by kernel_rfl) (by kernel_rfl) (by kernel_rfl) (fun _ _ _ h => h) (Or.inl ⟨by rfl, ?_⟩) (by assumption) ?_
   rotate_left 1
   · (intro W h; (try dsimp only at h); go_simp <;> with_reducible rfl)
   try simp only [Act.put, sA, sB, sC]
   refine wpAnyH_take (i := 11) (oi := { dst := some 31, op := Op.binOp BinOp.quo 3 (Operand.tmp 29) (Operand.tmp 30) 3, type := 3, pos := "matrix.go:142", after := #[{ on := 9, ground := Ground.data }, { on := 10, ground := Ground.data }], guard := none }) (v := ?_) rfl (by kernel_rfl) (by kernel_rfl) (by kernel_rfl) (fun _ _ _ h => h) (Or.inl ⟨by rfl, ?_⟩) (by assumption) ?_
   rotate_left 1
   · (intro W h; (try dsimp only at h); go_simp <;> with_reducible rfl)
   try simp only [Act.put, sA, sB, sC]
   refine wpAnyH_take (i := 12) (oi := { dst := some 32, op := Op.binOp BinOp.add 3 (Operand.tmp 27) (Operand.tmp 31) 3, type := 3, pos := "matrix.go:142", after := #[{ on := 7, ground := Ground.data }, { on := 11, ground := Ground.data }], guard := none }) (v := ?_) rfl (by kernel_rfl) (by kernel_rfl) (by kernel_rfl) (fun _ _ _ h => h) (Or.inl ⟨by rfl, ?_⟩) (by assumption) ?_
   rotate_left 1
   · (intro W h; (try dsimp only at h); go_simp <;> with_reducible rfl)
   try simp only [Act.put, sA, sB, sC]
   refine wpAnyH_take (i := 13) (oi := { dst := some 33, op := Op.fieldAddr 71 (Operand.tmp 7) 1, type := 0, pos := "matrix.go:142", after := #[], guard := none }) (v := ?_) rfl (by kernel_rfl) (by kernel_rfl) (by kernel_rfl) (fun _ _ _ h => h) (Or.inl ⟨by rfl, ?_⟩) (by assumption) ?_
   rotate_left 1
   · (intro W h; (try dsimp only at h); go_simp <;> with_reducible rfl)
   try simp only [Act.put, sA, sB, sC]
   refine wpAnyH_take (i := 14) (oi := { dst := some 34, op := Op.load 3 (Operand.tmp 33), type := 3, pos := "matrix.go:142", after := #[{ on := 13, ground := Ground.data }], guard := none }) (v := ?_) rfl (by kernel_rfl) (by kernel_rfl) (by kernel_rfl) (fun _ _ _ h => h) (Or.inl ⟨by rfl, ?_⟩) (by assumption) ?_
   rotate_left 1
   · (intro W h; (try dsimp only at h); go_simp <;> with_reducible rfl)
   try simp only [Act.put, sA, sB, sC]
   refine wpAnyH_take (i := 15) (oi := { dst := some 35, op := Op.build 71 #[(0, Operand.tmp 32), (1, Operand.tmp 34)], type := 71, pos := "matrix.go:142", after := #[{ on := 12, ground := Ground.data }, { on := 14, ground := Ground.data }], guard := none }) (v := ?_) rfl (by kernel_rfl) (by kernel_rfl) (by kernel_rfl) (fun _ _ _ h => h) (Or.inl ⟨by rfl, ?_⟩) (by assumption) ?_
   rotate_left 1
   · (intro W h; (try dsimp only at h); go_simp <;> with_reducible rfl)
   try simp only [Act.put, sA, sB, sC]
   refine wpAnyH_ready (rs := [1, 16]) (by kernel_rfl) (by simp) ?_
   refine (AllReadyH.cons (o := { dst := some 21, op := Op.load 24 (Operand.tmp 20), type := 24, pos := "matrix.go:142", after := #[{ on := 0, ground := Ground.data }], guard := none }) rfl (fun K hK => ?_) (AllReadyH.cons (o := { dst := some 36, op := Op.buildSlice 24 1 #[(0, Operand.tmp 35)], type := 24, pos := "matrix.go:142", after := #[{ on := 15, ground := Ground.data }], guard := none }) rfl (fun K hK => ?_) AllReadyH.nil))
   ·
    rw [if_pos (by rfl)]
    have q2 := H2.out.2.1
    go_simp
    clear q2
    refine hK.out _ _ (HS.out _ HZ.out) (fun hH => ?_)
    clear hK K
    try simp only [Act.put, sA, sB, sC]
    refine wpAnyH_ready (rs := [16]) (by kernel_rfl) (by simp) ?_
    refine (AllReadyH.cons (o := { dst := some 36, op := Op.buildSlice 24 1 #[(0, Operand.tmp 35)], type := 24, pos := "matrix.go:142", after := #[{ on := 15, ground := Ground.data }], guard := none }) rfl (fun K hK => ?_) AllReadyH.nil)
    rw [if_pos (by rfl)]
    go_simp
    have hnA := cells_new_at wd ((V : Int), r)
    have gw := gAl wd (.cells #[.int .i64 (V : Int), .int .i64 r] 71) none
    obtain ⟨U2, hU2⟩ : ∃ z, World.alloc wd (.cells #[.int .i64 (V : Int), .int .i64 r] 71) = z := ⟨_, rfl⟩
    simp only at hnA
    rw [hU2] at gw hnA ⊢
    clear hU2
    replace H1 := hid (H1.out.grown gw)
    replace H2 := hid (H2.out.grown gw)
    replace HW := hid (HW.out.grown gw)
    replace HZ := hid (HZ.out.grown gw)
    replace HG := hid (gT HG.out gw)
    have HS53 := hid (World.grownBy.size gw)
    clear gw
    refine hK.out _ _ (HS.out _ HZ.out) (fun hH => ?_)
    clear hK K
    try simp only [Act.put, sA, sB, sC]
    refine wpAnyH_ready (rs := [17]) (by kernel_rfl) (by simp) ?_
    refine (AllReadyH.cons (o := { dst := some 37, op := Op.call { callee := Callee.builtin Builtin.append, args := #[Operand.tmp 21, Operand.tmp 36], argTypes := #[24, 24] }, type := 24, pos := "matrix.go:142", after := #[{ on := 1, ground := Ground.data }, { on := 16, ground := Ground.data }], guard := none }) rfl (fun K hK => ?_) AllReadyH.nil)
    refine ready_append_g 24 71 (.tmp 21) (.tmp 36) rfl rfl Try.underlying24 hi0 hz0 hz1 hz2 rfl (by decide) (by omega) B _ i (clCells Lk) rfl (show U2.ownsRow B 71 2 (.slice va i vc) i (clCells Lk) from HW.out) ⟨wd.heap.size, 0, none⟩ [.int .i64 (V : Int), .int .i64 r] rfl rfl hnA (fun u hu => by simp at hu; rcases hu with rfl | rfl <;> rfl) (by have := HNL.out; omega) (by have := HSA.out; have := HBW.out; have := HS51.out; have := HS52.out; have := HS53.out; omega) (fun v' w6 hown' hgrow6 hat6 => ?_)
    obtain ⟨rgA, rcA, rfl⟩ := own_shape hown'
    have nw1 := H1.out.kept hgrow6 (fun e => by have := HWL.out _ e; have := HSA.out; omega)
    have nw2 := H2.out.kept hgrow6 (fun e => by have := HWL.out _ e; have := HSA.out; omega)
    have nwZ := HZ.out.kept hgrow6 (fun e => by have := HWL.out _ e; omega)
    have nG := grown_own HG.out hgrow6 (fun k e => by have := HWL.out _ e; have := HSA.out; omega)
    have nW : RowT w6 B (.slice rgA (i + 1) rcA) (i + 1) (turnM n (m.take (i + 1))) := by rw [HT.out]; unfold RowT; rw [clCells_app]; exact hown'
    replace H1 := hid nw1
    replace H2 := hid nw2
    replace HZ := hid nwZ
    replace HG := hid nG
    replace HW := hid nW
    have HS60 := hid (World.grownBy.size hgrow6)
    clear nw1 nw2 nwZ nG nW hown' hgrow6 hat6 hnA
    refine hK.out _ _ (HS.out _ HZ.out) (fun hH => ?_)
    clear hK K
    try simp only [Act.put, sA, sB, sC]
    refine wpAnyH_take (i := 18) (oi := { dst := some 38, op := Op.fieldAddr 26 (Operand.tmp 5) 1, type := 0, pos := "matrix.go:142", after := #[{ on := 0, ground := Ground.phase }, { on := 1, ground := Ground.phase }, { on := 2, ground := Ground.phase }, { on := 3, ground := Ground.phase }, { on := 4, ground := Ground.phase }, { on := 5, ground := Ground.phase }, { on := 6, ground := Ground.phase }, { on := 7, ground := Ground.phase }, { on := 8, ground := Ground.phase }, { on := 9, ground := Ground.phase }, { on := 10, ground := Ground.phase }, { on := 11, ground := Ground.phase }, { on := 12, ground := Ground.phase }, { on := 13, ground := Ground.phase }, { on := 14, ground := Ground.phase }, { on := 15, ground := Ground.phase }, { on := 16, ground := Ground.phase }, { on := 17, ground := Ground.phase }], guard := none }) (v := ?_) rfl (by kernel_rfl) (by kernel_rfl) (by kernel_rfl) (fun _ _ _ h => h) (Or.inl ⟨by rfl, ?_⟩) (by assumption) ?_
    rotate_left 1
    · (intro W h; (try dsimp only at h); go_simp <;> with_reducible rfl)
    try simp only [Act.put, sA, sB, sC]
    refine wpAnyH_ready (rs := [19]) (by kernel_rfl) (by simp) ?_
    refine (AllReadyH.cons (o := { dst := none, op := Op.store 24 (Operand.tmp 38) (Operand.tmp 37), type := 0, pos := "matrix.go:142", after := #[{ on := 18, ground := Ground.data }, { on := 17, ground := Ground.data }, { on := 17, ground := Ground.chain }, { on := 0, ground := Ground.phase }, { on := 1, ground := Ground.phase }, { on := 2, ground := Ground.phase }, { on := 3, ground := Ground.phase }, { on := 4, ground := Ground.phase }, { on := 5, ground := Ground.phase }, { on := 6, ground := Ground.phase }, { on := 7, ground := Ground.phase }, { on := 8, ground := Ground.phase }, { on := 9, ground := Ground.phase }, { on := 10, ground := Ground.phase }, { on := 11, ground := Ground.phase }, { on := 12, ground := Ground.phase }, { on := 13, ground := Ground.phase }, { on := 14, ground := Ground.phase }, { on := 15, ground := Ground.phase }, { on := 16, ground := Ground.phase }, { on := 17, ground := Ground.phase }], guard := none }) rfl (fun K hK => ?_) AllReadyH.nil)
    rw [if_pos (by rfl)]
    have q2 := H2.out.2.1
    have q3 := H2.out.2.2.2
    go_simp
    clear q2 q3
    have nw1 := H1.out.kept (grown_set w6 b2 1 (.slice rgA (i + 1) rcA)) (fun e => by injection e with e; have := HSA.out; omega)
    have nw2 := H2.out.put1 (a' := rgA) (n' := i + 1) (c' := rcA)
    have nwZ := HZ.out.kept (grown_set w6 b2 1 (.slice rgA (i + 1) rcA)) (fun e => by injection e with e; have := HSA.out; have := HBZ.out; have := HBW.out; omega)
    have nG := grown_own HG.out (grown_set w6 b2 1 (.slice rgA (i + 1) rcA)) (fun k e => by cases e; have := HSA.out; omega)
    have nW := HW.out.set b2 1 (.slice rgA (i + 1) rcA) (by have := HSA.out; omega)
    have nS : (w6.setCell ⟨b2, 1, none⟩ (.slice rgA (i + 1) rcA)).heap.size = w6.heap.size := by simp
    obtain ⟨w7, h7⟩ : ∃ z, w6.setCell ⟨b2, 1, none⟩ (.slice rgA (i + 1) rcA) = z := ⟨_, rfl⟩
    rw [h7] at nw1 nw2 nwZ nG nW nS ⊢
    clear h7
    replace H1 := hid nw1
    replace H2 := hid nw2
    replace HZ := hid nwZ
    replace HG := hid nG
    replace HW := hid nW
    have HS61 := hid nS
    clear nw1 nw2 nwZ nG nW nS
    refine hK.out _ _ (HS.out _ HZ.out) (fun hH => ?_)
    clear hK K
    try simp only [Act.put, sA, sB, sC]
    refine wpAnyH_done (by kernel_rfl) ?_ _
    have hEND := hdr
    clear hH
    clear hwq hwP hwV hmod
    go_wp2_with fail
    go_roundg (nm - (i + 1))
    case measure => rw [HI.out]; omega
    case rel => exact ⟨i + 1, rgA, rcA, rfl, rfl, by omega, HG.out, (by have := HSA.out; have := HBW.out; have := HS51.out; have := HS52.out; have := HS53.out; have := HS60.out; have := HS61.out; omega), H1.out, H2.out, HW.out⟩
   ·
    rw [if_pos (by rfl)]
    go_simp
    have hnA := cells_new_at wd ((V : Int), r)
    have gw := gAl wd (.cells #[.int .i64 (V : Int), .int .i64 r] 71) none
    obtain ⟨U2, hU2⟩ : ∃ z, World.alloc wd (.cells #[.int .i64 (V : Int), .int .i64 r] 71) = z := ⟨_, rfl⟩
    simp only at hnA
    rw [hU2] at gw hnA ⊢
    clear hU2
    replace H1 := hid (H1.out.grown gw)
    replace H2 := hid (H2.out.grown gw)
    replace HW := hid (HW.out.grown gw)
    replace HZ := hid (HZ.out.grown gw)
    replace HG := hid (gT HG.out gw)
    have HS53 := hid (World.grownBy.size gw)
    clear gw
    refine hK.out _ _ (HS.out _ HZ.out) (fun hH => ?_)
    clear hK K
    try simp only [Act.put, sA, sB, sC]
    refine wpAnyH_ready (rs := [1]) (by kernel_rfl) (by simp) ?_
    refine (AllReadyH.cons (o := { dst := some 21, op := Op.load 24 (Operand.tmp 20), type := 24, pos := "matrix.go:142", after := #[{ on := 0, ground := Ground.data }], guard := none }) rfl (fun K hK => ?_) AllReadyH.nil)
    rw [if_pos (by rfl)]
    have q2 := H2.out.2.1
    go_simp
    clear q2
    refine hK.out _ _ (HS.out _ HZ.out) (fun hH => ?_)
    clear hK K
    try simp only [Act.put, sA, sB, sC]
    refine wpAnyH_ready (rs := [17]) (by kernel_rfl) (by simp) ?_
    refine (AllReadyH.cons (o := { dst := some 37, op := Op.call { callee := Callee.builtin Builtin.append, args := #[Operand.tmp 21, Operand.tmp 36], argTypes := #[24, 24] }, type := 24, pos := "matrix.go:142", after := #[{ on := 1, ground := Ground.data }, { on := 16, ground := Ground.data }], guard := none }) rfl (fun K hK => ?_) AllReadyH.nil)
    refine ready_append_g 24 71 (.tmp 21) (.tmp 36) rfl rfl Try.underlying24 hi0 hz0 hz1 hz2 rfl (by decide) (by omega) B _ i (clCells Lk) rfl (show U2.ownsRow B 71 2 (.slice va i vc) i (clCells Lk) from HW.out) ⟨wd.heap.size, 0, none⟩ [.int .i64 (V : Int), .int .i64 r] rfl rfl hnA (fun u hu => by simp at hu; rcases hu with rfl | rfl <;> rfl) (by have := HNL.out; omega) (by have := HSA.out; have := HBW.out; have := HS51.out; have := HS52.out; have := HS53.out; omega) (fun v' w6 hown' hgrow6 hat6 => ?_)
    obtain ⟨rgA, rcA, rfl⟩ := own_shape hown'
    have nw1 := H1.out.kept hgrow6 (fun e => by have := HWL.out _ e; have := HSA.out; omega)
    have nw2 := H2.out.kept hgrow6 (fun e => by have := HWL.out _ e; have := HSA.out; omega)
    have nwZ := HZ.out.kept hgrow6 (fun e => by have := HWL.out _ e; omega)
    have nG := grown_own HG.out hgrow6 (fun k e => by have := HWL.out _ e; have := HSA.out; omega)
    have nW : RowT w6 B (.slice rgA (i + 1) rcA) (i + 1) (turnM n (m.take (i + 1))) := by rw [HT.out]; unfold RowT; rw [clCells_app]; exact hown'
    replace H1 := hid nw1
    replace H2 := hid nw2
    replace HZ := hid nwZ
    replace HG := hid nG
    replace HW := hid nW
    have HS60 := hid (World.grownBy.size hgrow6)
    clear nw1 nw2 nwZ nG nW hown' hgrow6 hat6 hnA
    refine hK.out _ _ (HS.out _ HZ.out) (fun hH => ?_)
    clear hK K
    try simp only [Act.put, sA, sB, sC]
    refine wpAnyH_take (i := 18) (oi := { dst := some 38, op := Op.fieldAddr 26 (Operand.tmp 5) 1, type := 0, pos := "matrix.go:142", after := #[{ on := 0, ground := Ground.phase }, { on := 1, ground := Ground.phase }, { on := 2, ground := Ground.phase }, { on := 3, ground := Ground.phase }, { on := 4, ground := Ground.phase }, { on := 5, ground := Ground.phase }, { on := 6, ground := Ground.phase }, { on := 7, ground := Ground.phase }, { on := 8, ground := Ground.phase }, { on := 9, ground := Ground.phase }, { on := 10, ground := Ground.phase }, { on := 11, ground := Ground.phase }, { on := 12, ground := Ground.phase }, { on := 13, ground := Ground.phase }, { on := 14, ground := Ground.phase }, { on := 15, ground := Ground.phase }, { on := 16, ground := Ground.phase }, { on := 17, ground := Ground.phase }], guard := none }) (v := ?_) rfl (by kernel_rfl) (by kernel_rfl) (by kernel_rfl) (fun _ _ _ h => h) (Or.inl ⟨by rfl, ?_⟩) (by assumption) ?_
    rotate_left 1
    · (intro W h; (try dsimp only at h); go_simp <;> with_reducible rfl)
    try simp only [Act.put, sA, sB, sC]
    refine wpAnyH_ready (rs := [19]) (by kernel_rfl) (by simp) ?_
    refine (AllReadyH.cons (o := { dst := none, op := Op.store 24 (Operand.tmp 38) (Operand.tmp 37), type := 0, pos := "matrix.go:142", after := #[{ on := 18, ground := Ground.data }, { on := 17, ground := Ground.data }, { on := 17, ground := Ground.chain }, { on := 0, ground := Ground.phase }, { on := 1, ground := Ground.phase }, { on := 2, ground := Ground.phase }, { on := 3, ground := Ground.phase }, { on := 4, ground := Ground.phase }, { on := 5, ground := Ground.phase }, { on := 6, ground := Ground.phase }, { on := 7, ground := Ground.phase }, { on := 8, ground := Ground.phase }, { on := 9, ground := Ground.phase }, { on := 10, ground := Ground.phase }, { on := 11, ground := Ground.phase }, { on := 12, ground := Ground.phase }, { on := 13, ground := Ground.phase }, { on := 14, ground := Ground.phase }, { on := 15, ground := Ground.phase }, { on := 16, ground := Ground.phase }, { on := 17, ground := Ground.phase }], guard := none }) rfl (fun K hK => ?_) AllReadyH.nil)
    rw [if_pos (by rfl)]
    have q2 := H2.out.2.1
    have q3 := H2.out.2.2.2
    go_simp
    clear q2 q3
    have nw1 := H1.out.kept (grown_set w6 b2 1 (.slice rgA (i + 1) rcA)) (fun e => by injection e with e; have := HSA.out; omega)
    have nw2 := H2.out.put1 (a' := rgA) (n' := i + 1) (c' := rcA)
    have nwZ := HZ.out.kept (grown_set w6 b2 1 (.slice rgA (i + 1) rcA)) (fun e => by injection e with e; have := HSA.out; have := HBZ.out; have := HBW.out; omega)
    have nG := grown_own HG.out (grown_set w6 b2 1 (.slice rgA (i + 1) rcA)) (fun k e => by cases e; have := HSA.out; omega)
    have nW := HW.out.set b2 1 (.slice rgA (i + 1) rcA) (by have := HSA.out; omega)
    have nS : (w6.setCell ⟨b2, 1, none⟩ (.slice rgA (i + 1) rcA)).heap.size = w6.heap.size := by simp
    obtain ⟨w7, h7⟩ : ∃ z, w6.setCell ⟨b2, 1, none⟩ (.slice rgA (i + 1) rcA) = z := ⟨_, rfl⟩
    rw [h7] at nw1 nw2 nwZ nG nW nS ⊢
    clear h7
    replace H1 := hid nw1
    replace H2 := hid nw2
    replace HZ := hid nwZ
    replace HG := hid nG
    replace HW := hid nW
    have HS61 := hid nS
    clear nw1 nw2 nwZ nG nW nS
    refine hK.out _ _ (HS.out _ HZ.out) (fun hH => ?_)
    clear hK K
    try simp only [Act.put, sA, sB, sC]
    refine wpAnyH_done (by kernel_rfl) ?_ _
    have hEND := hdr
    clear hH
    clear hwq hwP hwV hmod
    go_wp2_with fail
    go_roundg (nm - (i + 1))
    case measure => rw [HI.out]; omega
    case rel => exact ⟨i + 1, rgA, rcA, rfl, rfl, by omega, HG.out, (by have := HSA.out; have := HBW.out; have := HS51.out; have := HS52.out; have := HS53.out; have := HS60.out; have := HS61.out; omega), H1.out, H2.out, HW.out⟩
  ·
   have f1 : decide (i < nm) = false := decide_eq_false hin
   have f2 : decide ((i : Int) < (nm : Int)) = false := decide_eq_false (by omega)
   obtain rfl : i = nm := by omega
   have HSO := hid (fun (h : wr.ownsRow B 71 2 (.slice va i vc) i (clCells (turnM n (m.take i)))) => msort_calls B (turnM n (m.take i)) va i vc wr h (by rw [turnM, List.length_map, List.length_take, HNL.out.1]; omega) HNL.out.2.1)
   have q2 := H2.out.2.1
   have q3 := H2.out.1
   go_wp2_with fail
   clear q2 q3 f1 f2
   refine (HSO.out HW.out).mono ?_
   rintro e w6 ⟨rfl, l', hperm, hsort, hown, hgrow⟩
   have hlen : l'.length = i := by rw [hperm.length_eq, turnM, List.length_map, List.length_take, HNL.out.1]; omega
   have hWL := fun j hj => World.ownsRow.lt (show wr.ownsRow B 71 2 (.slice va i vc) i (clCells (turnM n (m.take i))) from HW.out) j hj
   have nw1 := H1.out.kept hgrow (fun e => by have := hWL _ e; have := HSA.out; omega)
   have nw2 := H2.out.kept hgrow (fun e => by have := hWL _ e; have := HSA.out; omega)
   have nG := grown_own HG.out hgrow (fun k e => by have := hWL _ e; have := HSA.out; omega)
   have HCW := hid (show CellsW w6 va vc l' from by
    have h := hown
    have e8 : i = l'.length := hlen.symm
    rw [show (Value.slice va i vc) = .slice va l'.length vc from by rw [← e8], show w6.ownsRow B 71 2 (.slice va l'.length vc) i (clCells l') = w6.ownsRow B 71 2 (.slice va l'.length vc) l'.length (clCells l') from by rw [← e8]] at h
    obtain ⟨a9, c9, e9, hs9⟩ := cells_span h
    cases e9
    exact hs9.here)
   have HPS := hid (show l'.Perm (turnM n m) ∧ SortedCl l' from ⟨by have h := hperm; rw [show m.take i = m from by rw [← HNL.out.1, List.take_length]] at h; exact h, hsort⟩)
   replace H1 := hid nw1
   replace H2 := hid nw2
   replace HG := hid nG
   have HS80 := hid (World.grownBy.size hgrow)
   clear nw1 nw2 nG hown hgrow hperm hsort hlen hWL HSO HW
   have q1 := H1.out.1
   have r1 := H1.out.2.1
   have f1 := H1.out.2.2.1
   have e1 := H1.out.2.2.2
   have q2 := H2.out.1
   have r2 := H2.out.2.1
   have hne1 : ¬ b1 = b2 := (by have := HSA.out; have := HBW.out; have := HS80.out; omega)
   have hne2 : ¬ b2 = b1 := (by have := HSA.out; have := HBW.out; have := HS80.out; omega)
   go_wp2_with fail
   clear q1 r1 f1 e1 q2 r2 hne1 hne2
   have nw1 := H1.out.put ar va i vc
   have nw2 := H1.out.mf (.int .i64 ar) (.slice va i vc) H2.out (by have := HSA.out; have := HBW.out; have := HS80.out; omega)
   have nwCW := H1.out.cells (.int .i64 ar) (.slice va i vc) HCW.out
   have nG := MF.grows HG.out (by have := HSA.out; have := HBW.out; have := HS80.out; omega) (.int .i64 ar) (.slice va i vc) (b := b1)
   have nS : (World.setCell (World.setCell w6 ⟨b1, 0, none⟩ (.int .i64 ar)) ⟨b1, 1, none⟩ (.slice va i vc)).heap.size = w6.heap.size := by simp
   unfold laidX at nw1 nw2 nwCW nG
   obtain ⟨V81, hV⟩ : ∃ z, World.setCell (World.setCell w6 ⟨b1, 0, none⟩ (.int .i64 ar)) ⟨b1, 1, none⟩ (.slice va i vc) = z := ⟨_, rfl⟩
   rw [hV] at nw1 nw2 nwCW nG nS ⊢
   clear hV
   replace H1 := hid nw1
   replace H2 := hid nw2
   replace HCW := hid nwCW
   replace HG := hid nG
   have HS81 := hid nS
   clear nG nS nw1 nw2 nwCW
   refine bodyPost_ret (resU44 _ _ b1 va i vc _ rfl H1.out.1 H1.out.2.1) rfl ?_
   exact ⟨va, vc, l', rfl, HPS.out.1, HPS.out.2, HCW.out, HG.out⟩

def SetM (w : World) (b : Nat) (S : List Int) : Prop :=
 w.ownsMap (H := Unit) Try.prog 3 (plainElem Try.prog 4) b S.length (Maps.setOf (.lit (.bool true)) (S.map (Lit.int .i64))) ∧ ∀ x ∈ S, (Lit.int .i64 x).wf = true

theorem SetM.grown {w w' : World} {b : Nat} {S : List Int} {r : Option Nat} (h : SetM w b S) (hg : w.grownBy w' r) (hr : some b ≠ r) : SetM w' b S := ⟨h.1.kept hg hr, h.2⟩
theorem SetM.lt {w : World} {b : Nat} {S : List Int} (h : SetM w b S) : b < w.heap.size := h.1.lt
theorem SetM.new (w : World) : SetM (w.alloc (.map #[] 0)) w.heap.size [] := ⟨World.ownsMap_made w _ _ _, fun x hx => by cases hx⟩
theorem isKey_ints (S : List Int) : ∀ x ∈ S.map (Lit.int .i64), Go.WideAt.IsKeyLit x := fun x hx => by
 obtain ⟨y, _, rfl⟩ := List.mem_map.1 hx
 trivial

theorem atKey_setOf (u z : DataW Unit) (k : Int) : ∀ S : List Int, (Maps.setOf u (S.map (Lit.int .i64))).atKey (.int .i64 k) z = if k ∈ S then u else z := by
 intro S
 rw [← List.reverse_reverse S]
 generalize S.reverse = R
 induction R with
 | nil => simp [Maps.setOf, DataW.atKey]
 | cons x R ih =>
  rw [List.reverse_cons, List.map_append, List.map_singleton, Maps.setOf_snoc]
  by_cases hx : k = x
  ·
   subst hx
   rw [Maps.atKey_put_same ((Maps.tidy_setOf u _ (isKey_ints _)).isMap) (by trivial : Go.WideAt.IsKeyLit (.int .i64 k))]
   simp
  ·
   rw [Maps.atKey_put_other (by simpa using hx), ih]
   simp [hx]

theorem plainElem_bool_inv {v : Value} {z : DataW Unit × List MemPlace} (h : plainElem Try.prog 4 v = some z) : ∃ b, v = .bool b ∧ z = (.lit (.bool b), []) := by
 unfold plainElem at h
 rw [Try.underlying4] at h
 cases v <;> simp at h
 exact ⟨_, rfl, h.symm⟩

theorem zero4 (w : World) : (zeroValue 4).run Try.prog w = .ok (.bool false) w := by kernel_rfl

theorem SetM.look {w : World} {b : Nat} {S : List Int} (h : SetM w b S) {k : Int} (hk : (Lit.int .i64 k).wf = true) : (Instr.lookup 107 (.map (some b)) (.int .i64 k) false).run Try.prog w = .ok (.bool (decide (k ∈ S))) w := by
 obtain ⟨v, ps, hr, hv⟩ := h.1.lookup (Maps.int_keyed Try.underlying3) Try.underlying107 (zero4 w) (plainElem_bool Try.underlying4 false) (Maps.keyOf_int_mk Try.underlying3 hk)
 rw [atKey_setOf] at hv
 obtain ⟨x, rfl, hx⟩ := plainElem_bool_inv hv
 rw [hr]
 by_cases hm : k ∈ S
 ·
  rw [if_pos hm] at hx
  simp at hx
  simp [hm, hx.1]
 ·
  rw [if_neg hm] at hx
  simp at hx
  simp [hm, hx.1]

theorem SetM.store {w : World} {b : Nat} {S : List Int} (h : SetM w b S) (hl : S.length ≤ 1000000) {k : Int} (hk : (Lit.int .i64 k).wf = true) :
  ∃ w', (Instr.mapUpdate 107 (.map (some b)) (.int .i64 k) (.bool true)).run Try.prog w = .ok () w' ∧ SetM w' b (S ++ [k]) ∧ w.grownBy w' (some b) := by
 obtain ⟨w', hr, ho, ht⟩ := h.1.store (Maps.int_keyed Try.underlying3) Try.underlying107 (by unfold maxLen; omega) (Maps.keyOf_int_mk Try.underlying3 hk) (plainElem_bool Try.underlying4 true)
 refine ⟨w', hr, ⟨?_, ?_⟩, ht.grown⟩
 ·
  rw [List.map_append, List.map_singleton, Maps.setOf_snoc, List.length_append]
  exact ho
 ·
  intro x hx
  rcases List.mem_append.1 hx with hx | hx
  · exact h.2 x hx
  · rw [List.mem_singleton.1 hx]; exact hk

end Go.Proofs.Ythdhmflodiincaa
namespace Go.Proofs.Ythdhmflodiincaa
open Lib (hid)

theorem pair_of {q z p : Nat} (hq : 0 < q) (h : z < p * q) : ∃ u v, u < p ∧ v < q ∧ z = u * q + v :=
 ⟨z / q, z % q, Nat.div_lt_of_lt_mul (by rw [Nat.mul_comm]; exact h), Nat.mod_lt _ hq, by rw [Nat.mul_comm]; exact (Nat.div_add_mod z q).symm⟩
theorem pair_div {q u v : Nat} (hv : v < q) : (u * q + v) / q = u := by rw [Nat.mul_comm, Nat.mul_add_div (by omega), Nat.div_eq_of_lt hv, Nat.add_zero]
theorem pair_mod {q u v : Nat} (hv : v < q) : (u * q + v) % q = v := by rw [Nat.mul_comm, Nat.mul_add_mod, Nat.mod_eq_of_lt hv]
theorem pair_inj {q u v u' v' : Nat} (hv : v < q) (hv' : v' < q) (h : u * q + v = u' * q + v') : u = u' ∧ v = v' := by
 have h1 := congrArg (· / q) h
 have h2 := congrArg (· % q) h
 simp only [pair_div hv, pair_div hv', pair_mod hv, pair_mod hv'] at h1 h2
 exact ⟨h1, h2⟩

theorem turn_pair {n x y : Nat} (hy : y < n) : ((x * n + y : Nat) : Int) % (n : Int) * n + ((x * n + y : Nat) : Int) / n = ((y * n + x : Nat) : Int) := by
 have h1 : (x * n + y) % n = y := pair_mod hy
 have h2 : (x * n + y) / n = x := pair_div hy
 have h : (((x * n + y) % n * n + (x * n + y) / n : Nat) : Int) = ((y * n + x : Nat) : Int) := by rw [h1, h2]
 rw [← h]
 simp

theorem turnM_rank {n : Nat} {g : List Gt} {A : List Cl} (hs : Sq n g A) : ∀ c ∈ turnM n A, ∃ x y, x < n ∧ y < n ∧ c.1 = ((y * n + x : Nat) : Int) ∧ (((x * n + y : Nat) : Int), c.2) ∈ A := fun c hc => by
 unfold turnM at hc
 obtain ⟨d, hd, rfl⟩ := List.mem_map.1 hc
 obtain ⟨h0, h1⟩ := hs.2 d hd
 obtain ⟨k, hk⟩ : ∃ k : Nat, d.1 = (k : Int) := ⟨d.1.toNat, by omega⟩
 have hk2 : k < n * n := by rw [hk] at h1; exact_mod_cast h1
 obtain ⟨x, y, hx, hy, e⟩ := pair_of (by rcases Nat.eq_zero_or_pos n with rfl | h; omega; exact h) hk2
 refine ⟨x, y, hx, hy, ?_, ?_⟩
 ·
  show d.1 % (n : Int) * n + d.1 / n = _
  rw [hk, e, turn_pair hy]
 ·
  rw [← e, ← hk]
  exact hd
theorem sq_pair {n : Nat} {g : List Gt} {A : List Cl} (hs : Sq n g A) : ∀ c ∈ A, ∃ x y, x < n ∧ y < n ∧ c.1 = ((x * n + y : Nat) : Int) := fun c hc => by
 obtain ⟨h0, h1⟩ := hs.2 c hc
 obtain ⟨k, hk⟩ : ∃ k : Nat, c.1 = (k : Int) := ⟨c.1.toNat, by omega⟩
 have hk2 : k < n * n := by rw [hk] at h1; exact_mod_cast h1
 obtain ⟨x, y, hx, hy, e⟩ := pair_of (by rcases Nat.eq_zero_or_pos n with rfl | h; omega; exact h) hk2
 exact ⟨x, y, hx, hy, by rw [hk, e]⟩
theorem turnM_up {n : Nat} {g : List Gt} {A l : List Cl} (hs : Sq n g A) (hp : l.Perm (turnM n A)) (hl : SortedCl l) : UpM l := by
 have hnd : (l.map (·.1)).Nodup := by
  refine (hp.map (·.1)).symm.nodup ?_
  unfold turnM
  rw [List.map_map]
  refine List.pairwise_map.2 ?_
  have hA : A.Pairwise fun a b => a.1 < b.1 := List.pairwise_map.1 hs.1.1
  refine hA.imp_of_mem fun {a b} ha hb hab e => ?_
  obtain ⟨x, y, hx, hy, ea⟩ := sq_pair hs a ha
  obtain ⟨u, v, hu, hv, eb⟩ := sq_pair hs b hb
  simp only [Function.comp_apply] at e
  rw [ea, eb, turn_pair hy, turn_pair hv] at e
  obtain ⟨rfl, rfl⟩ := pair_inj hx hu (by omega : y * n + x = v * n + u)
  omega
 unfold UpM
 refine List.pairwise_map.2 ((hl.and (List.pairwise_map.1 hnd)).imp fun {a b} h => ?_)
 have h1 := h.1
 have h2 := h.2
 omega
end Go.Proofs.Ythdhmflodiincaa
