/- Texts of the proof: N0 J0 B1. -/
import Derived.Test.YtihaheinkpmnnaaGreatCA05
import Derived.Laws.MakeOwn
import Derived.Laws.OwnMore
import Derived.RangeFuncNested
import Derived.RangeFuncLeaves
import Derived.RangeFuncBound
import Derived.Shelf.Abstract
import Derived.Shelf.RegionOpen
import Derived.Sort.LoopGhostIn
import Derived.TacticsInMore
import Derived.LoopNIn
import Derived.LoopIn
import Derived.OwnWalkIn
import Derived.RegionIn
import Derived.Test.YtihaheinkpmnnaaGreatCA04
namespace Go.Proofs.YtihaheinkpmnnaaGreat
set_option maxRecDepth 200000
open Go.RowKit
theorem info67 : (Tryz.prog.info? 126).map (fun i => (i.zero, i.size, i.bytes)) = some (some (.int .i8 0), 1, 1) := by kernel_rfl
theorem mk25 (w : World) (n : Nat) (hn : n ≤ 1000000) : (Instr.makeSlice 34 (.int .i64 (n : Int)) (.int .i64 (n : Int))).run Tryz.prog w = .ok (.slice (some ⟨w.heap.size, 0, none⟩) n n) (w.alloc (.cells (madeCells #[.int .i64 0] n) 3)) := by
  obtain ⟨i0, hi0, hz0, hz1, hz2⟩ := info_parts info3
  have hr := run_make (P := Tryz.prog) w 34 3 i0 (.int .i64 0) Tryz.underlying34 hi0 hz0 .i64 .i64 n n (by omega) (Int.le_refl _) (by rw [hz2]; omega) (by omega)
  simp only [Int.toNat_natCast, hz1, Nat.mul_one] at hr
  exact hr
theorem mk52 (w : World) (n : Nat) (hn : n ≤ 1000000) : (Instr.makeSlice 110 (.int .i64 (n : Int)) (.int .i64 (n : Int))).run Tryz.prog w = .ok (.slice (some ⟨w.heap.size, 0, none⟩) n n) (w.alloc (.cells (madeCells #[.int .i8 0] n) 126)) := by
  obtain ⟨i0, hi0, hz0, hz1, hz2⟩ := info_parts info67
  have hr := run_make (P := Tryz.prog) w 110 126 i0 (.int .i8 0) Tryz.underlying110 hi0 hz0 .i64 .i64 n n (by omega) (Int.le_refl _) (by rw [hz2]; omega) (by omega)
  simp only [Int.toNat_natCast, hz1, Nat.mul_one] at hr
  exact hr
theorem made_zero (v : Value) (n : Nat) : madeCells #[v] n = (List.replicate n v).toArray := by
  apply Array.ext'
  rw [toList_madeCells_one]
theorem made_own (w : World) (B n : Nat) (v : Value) (e : TypeId) (hB : B ≤ w.heap.size) (hn : n ≤ 1000000) : (w.alloc (.cells (madeCells #[v] n) e)).ownsRow B e 1 (.slice (some ⟨w.heap.size, 0, none⟩) n n) n (List.replicate n v) := by
  have := World.ownsRow_lit w (e := e) (base := B) (size := 1) (madeCells #[v] n) n hB (by unfold maxLen; omega) (by rw [made_zero]; simp)
  rw [toList_madeCells_one] at this
  exact this
def nilRw : Rw := ⟨none, 0, []⟩
theorem pw_init {K : PK} {w : World} (hp : w.heap[K.p]? = some (.cells (pcells K.V K.ca K.cn K.cc (some ⟨K.vb, 0, none⟩) (K.V + 1) 0 (-1) (fun _ => nilRw)) 113 (0, 0)))
    (hv : w.heap[K.vb]? = some (.cells (madeCells #[.int .i8 0] (K.V + 1)) 126 (0, 0))) (h1 : K.B ≤ K.p) (h2 : K.B ≤ K.vb) (h3 : K.vb ≠ K.p) (h4 : K.V ≤ 1000) : PW K w (List.replicate (K.V + 1) 0) 0 (-1) (fun _ => nilRw) := by
  refine ⟨hp, h1, fun i _ => ⟨rfl, .inl ⟨rfl, rfl⟩⟩, fun i j _ _ _ b hb => (by cases hb), fun i _ => (by intro e; cases e), fun i _ => (by intro e; cases e), h2, h3, ?_, by simp⟩
  refine ⟨by simp, .inr ⟨K.vb, K.V + 1, _, rfl, h2, hv, Nat.le_refl _, by unfold maxLen; omega, by rw [made_zero]; simp, ?_⟩⟩
  rw [made_zero, Nat.mul_one]
  simp
/-- The propagator in the making: its box, and that of its address. -/
structure NS (W1 : World) (DS : List Nat) (K : PK) (tb : Nat) (vs : List Int) (R : Nat → Rw) (w : World) : Prop where
  pw : PW K w vs 0 (-1) R
  tb0 : w.cell? ⟨tb, 0, none⟩ = some (.pointer (some ⟨K.p, 0, none⟩))
  tbm : ¬ PM K R tb
  tbl : W1.heap.size ≤ tb
  B : K.B = W1.heap.size
  grown : W1.grownBy w none
  ds : ∀ D ∈ DS, w.heap[D]? = some (.deferred (some []))
theorem NS.keep {W1 : World} {DS : List Nat} {K : PK} {tb : Nat} {vs : List Int} {R : Nat → Rw} {w w' : World} (h : NS W1 DS K tb vs R w) (hg : w.grownBy w' none) : NS W1 DS K tb vs R w' :=
  ⟨h.pw.grown hg, hg.cell h.tb0 (by simp), h.tbm, h.tbl, h.B, h.grown.trans hg, fun D hD => (hg.block D (Array.getElem?_eq_some_iff.1 (h.ds D hD)).1 (by simp)).trans (h.ds D hD)⟩
/-- A row of it is laid anew. -/
theorem NS.lay {W1 : World} {DS : List Nat} {K : PK} {tb : Nat} {vs : List Int} {R : Nat → Rw} {w : World} (h : NS W1 DS K tb vs R w) {i : Nat} (hi : i < 7) (hn : (R i).blk = none) {g n : Nat} (hg : w.heap[g]? = some (.cells (madeCells #[.int .i64 0] n) 3 (0, 0)))
    (hgB : K.B ≤ g) (hm : ¬ PM K R g) (hgt : g ≠ tb) (hn1 : n ≤ 100000) : NS W1 DS K tb vs (upd R i ⟨some ⟨g, 0, none⟩, n, List.replicate n 0⟩) (w.setCell ⟨K.p, fld i, none⟩ (.slice (some ⟨g, 0, none⟩) n n)) := by
  have hgl := (Array.getElem?_eq_some_iff.1 hg).1
  have hgp : g ≠ K.p := fun e => hm (.inl e)
  have hv : (⟨some ⟨g, 0, none⟩, n, List.replicate n 0⟩ : Rw).val = .slice (some ⟨g, 0, none⟩) n n := by simp [Rw.val]
  have hrow : ∀ w' : World, w'.heap[g]? = w.heap[g]? → IRow K.B w' (some ⟨g, 0, none⟩) n (List.replicate n 0) := fun w' hw => by
    refine ⟨by simp, .inr ⟨g, n, _, by simp, hgB, hw.trans hg, by simp, by unfold maxLen; omega, by rw [made_zero]; simp, ?_⟩⟩
    rw [made_zero]; simp [intCells]
  have hoff : Off (fun k => k = K.p) w (w.setCell ⟨K.p, fld i, none⟩ (.slice (some ⟨g, 0, none⟩) n n)) := Off.of (grown_set _ _ _ _) (fun k e => (Option.some.inj e).symm)
  have hpm : ∀ k, PM K (upd R i ⟨some ⟨g, 0, none⟩, n, List.replicate n 0⟩) k → PM K R k ∨ k = g := by
    rintro k (rfl | rfl | ⟨j, hj, e⟩)
    · exact .inl (.inl rfl)
    · exact .inl (.inr (.inl rfl))
    · by_cases hji : j = i
      · subst hji; rw [upd_same] at e; unfold Rw.blk at e; rw [hv] at e; right; exact (Option.some.inj e).symm
      · rw [upd_other hji] at e; exact .inl (.inr (.inr ⟨j, hj, e⟩))
  have hfar : ∀ b, PM K R b → (⟨some ⟨g, 0, none⟩, n, List.replicate n 0⟩ : Rw).blk ≠ some b := fun b hb e => by
    unfold Rw.blk at e; rw [hv] at e; have e2 := Option.some.inj e; simp only at e2; subst e2; exact hm hb
  have h := h
  refine ⟨⟨?_, h.pw.low, fun k hk => ?_, fun a b ha hb hab c hc => ?_, fun k hk => ?_, fun k hk => ?_, h.pw.vlow, h.pw.vne, ?_, h.pw.vlen⟩, ?_, fun hh => ?_, h.tbl, h.B, ?_, fun D hD => (Below.heap_setCell _ _ _ _ (fun e => by have h1 := h.ds D hD; have h2 := h.pw.blk; simp only at e; rw [e, h2] at h1; cases h1)).trans (h.ds D hD)⟩
  · rw [set_blk h.pw.blk, ← hv, pcells_upd hi]
  · by_cases e : k = i
    · subst e; rw [upd_same]; simp only; exact hrow _ (Below.heap_setCell _ _ _ _ hgp)
    · rw [upd_other e]; exact irow_off (h.pw.rows k hk) (grown_set _ _ _ _) rfl (fun b hb e2 => by cases e2; exact h.pw.offp k hk hb)
  · by_cases e1 : a = i
    · subst e1; rw [upd_same] at hc; rw [upd_other (fun e => hab e.symm)]
      intro hc2
      exact hfar c (.inr (.inr ⟨b, hb, hc2⟩)) hc
    · rw [upd_other e1] at hc
      by_cases e2 : b = i
      · subst e2; rw [upd_same]; exact hfar c (.inr (.inr ⟨a, ha, hc⟩))
      · rw [upd_other e2]; exact h.pw.apart a b ha hb hab c hc
  · by_cases e : k = i
    · subst e; rw [upd_same]; exact hfar _ (.inl rfl)
    · rw [upd_other e]; exact h.pw.offp k hk
  · by_cases e : k = i
    · subst e; rw [upd_same]; exact hfar _ (.inr (.inl rfl))
    · rw [upd_other e]; exact h.pw.offv k hk
  · refine World.ownsRow.kept h.pw.vrow (grown_set _ _ _ _) (.inr ?_)
    simp only [Value.ownBlock]; intro e; exact h.pw.vne (Option.some.inj e)
  · exact hoff.cell h.tb0 (fun e => h.tbm (.inl e))
  · rcases hpm _ hh with h1 | h1
    · exact h.tbm h1
    · exact hgt h1.symm
  · exact hoff.grown h.grown (fun k e => by rw [e]; have := h.pw.low; have := h.B; omega)
theorem alloc3 (W : World) (o1 o2 o3 : Obj) : (((W.alloc o1).alloc o2).alloc o3).drew.heap[W.heap.size]? = some o1 ∧ (((W.alloc o1).alloc o2).alloc o3).drew.heap[W.heap.size + 1]? = some o2 ∧ (((W.alloc o1).alloc o2).alloc o3).drew.heap[W.heap.size + 1 + 1]? = some o3 ∧ W.grownBy (((W.alloc o1).alloc o2).alloc o3).drew none := by
  refine ⟨?_, ?_, ?_, (((World.grownBy_alloc W o1 none).trans (World.grownBy_alloc _ o2 none)).trans (World.grownBy_alloc _ o3 none)).trans (grown_drew _ _)⟩
  · show (((W.alloc o1).alloc o2).alloc o3).heap[W.heap.size]? = _
    rw [Below.heap_alloc _ _ _ (by simp; omega), Below.heap_alloc _ _ _ (by simp)]; exact World.alloc_heap_new W o1
  · show (((W.alloc o1).alloc o2).alloc o3).heap[W.heap.size + 1]? = _
    rw [Below.heap_alloc _ _ _ (by simp)]
    have := World.alloc_heap_new (W.alloc o1) o2; rwa [World.size_alloc] at this
  · show (((W.alloc o1).alloc o2).alloc o3).heap[W.heap.size + 1 + 1]? = _
    have := World.alloc_heap_new ((W.alloc o1).alloc o2) o3; rwa [World.size_alloc, World.size_alloc] at this
theorem ns_init {W1 w : World} {V n cc p vb tb : Nat} {ca : Option Addr} (hV : V ≤ 1000) (hg : W1.grownBy w none)
    (hp : w.heap[p]? = some (.cells #[.int .i64 (V : Int), .slice ca n cc, .slice none 0 0, .int .i64 0, .slice none 0 0, .int .i64 (-1), .slice (some ⟨vb, 0, none⟩) (V + 1) (V + 1), .slice none 0 0, .slice none 0 0, .slice none 0 0, .slice none 0 0, .slice none 0 0] 113 (0, 0)))
    (hv : w.heap[vb]? = some (.cells (madeCells #[.int .i8 0] (V + 1)) 126 (0, 0))) (ht : w.heap[tb]? = some (.cells #[.pointer (some ⟨p, 0, none⟩)] 114 (0, 0)))
    (h1 : W1.heap.size ≤ p) (h2 : W1.heap.size ≤ vb) (h3 : W1.heap.size ≤ tb) (n1 : vb ≠ p) (n2 : tb ≠ p) (n3 : tb ≠ vb) :
    ∃ (K : PK) (tb' : Nat), Value.pointer (some ⟨tb, 0, none⟩) = .pointer (some ⟨tb', 0, none⟩) ∧ NS W1 [] K tb' (List.replicate (V + 1) 0) (fun _ => nilRw) w ∧ K.V = V ∧ K.ca = ca ∧ K.cn = n ∧ K.cc = cc := by
  refine ⟨⟨W1.heap.size, p, V, ca, n, cc, vb⟩, tb, rfl, ⟨pw_init (K := ⟨W1.heap.size, p, V, ca, n, cc, vb⟩) hp hv h1 h2 n1 hV, cell_blk ht rfl, ?_, h3, rfl, hg, fun D hD => (by cases hD)⟩, rfl, rfl, rfl, rfl⟩
  rintro (h | h | ⟨i, _, h⟩)
  · exact n2 h
  · exact n3 h
  · cases h
/-- A row that has been made and is no field's yet. -/
structure FR (K : PK) (tb : Nat) (R : Nat → Rw) (g n : Nat) (w : World) : Prop where
  at_ : w.heap[g]? = some (.cells (madeCells #[.int .i64 0] n) 3 (0, 0))
  low : K.B ≤ g
  pm : ¬ PM K R g
  ne : g ≠ tb
theorem FR.new {W1 : World} {DS : List Nat} {K : PK} {tb : Nat} {vs : List Int} {R : Nat → Rw} {w : World} (h : NS W1 DS K tb vs R w) (n : Nat) : FR K tb R w.heap.size n (w.alloc (.cells (madeCells #[.int .i64 0] n) 3)) :=
  ⟨World.alloc_heap_new _ _, by have := (h.pw.below K.p (.inl rfl)); have := h.pw.low; omega, fun hh => by have := (h.pw.below _ hh).2.1; omega, fun e => by have := lies_lt h.tb0; simp only at this; omega⟩
theorem FR.keep {K : PK} {tb : Nat} {R : Nat → Rw} {g n : Nat} {w w' : World} (h : FR K tb R g n w) (hg : w.grownBy w' none) : FR K tb R g n w' :=
  ⟨(hg.block g (Array.getElem?_eq_some_iff.1 h.at_).1 (by simp)).trans h.at_, h.low, h.pm, h.ne⟩
theorem FR.lt {K : PK} {tb : Nat} {R : Nat → Rw} {g n : Nat} {w : World} (h : FR K tb R g n w) : g < w.heap.size := (Array.getElem?_eq_some_iff.1 h.at_).1
theorem FR.lay {K : PK} {tb : Nat} {R : Nat → Rw} {g n g' n' i : Nat} {w : World} (h : FR K tb R g n w) (hne : g ≠ g') (hi : i < 7) (v : Value) : FR K tb (upd R i ⟨some ⟨g', 0, none⟩, n', List.replicate n' 0⟩) g n (w.setCell ⟨K.p, fld i, none⟩ v) := by
  refine ⟨(Below.heap_setCell _ _ _ _ (fun e => h.pm (.inl e))).trans h.at_, h.low, ?_, h.ne⟩
  rintro (e | e | ⟨j, hj, e⟩)
  · exact h.pm (.inl e)
  · exact h.pm (.inr (.inl e))
  · by_cases hji : j = i
    · subst hji; rw [upd_same] at e; unfold Rw.blk at e; simp only [Value.ownBlock, Option.some.injEq] at e; exact hne e.symm
    · rw [upd_other hji] at e; exact h.pm (.inr (.inr ⟨j, hj, e⟩))
theorem NS.put {W1 : World} {DS : List Nat} {K : PK} {tb : Nat} {vs : List Int} {R : Nat → Rw} {w : World} {g n i : Nat} (h : NS W1 DS K tb vs R w) (f : FR K tb R g n w) (hi : i < 7) (hn : (R i).blk = none) (hn1 : n ≤ 100000) :
    NS W1 DS K tb vs (upd R i ⟨some ⟨g, 0, none⟩, n, List.replicate n 0⟩) (w.setCell ⟨K.p, fld i, none⟩ (.slice (some ⟨g, 0, none⟩) n n)) := h.lay hi hn f.at_ f.low f.pm f.ne hn1
/-- A post that lets nothing by but the normal end. -/
def onlyN (Q : Exit → Act → World → Prop) : Exit → Act → World → Prop
  | .normal, a, w => Q .normal a w
  | _, _, _ => False
theorem wp_onlyN {P : Program} {c : Code} {Q : Exit → Act → World → Prop} {a : Act} {w : World} (h : c.wp P (onlyN Q) a w) : c.wp P Q a w :=
  wp_mono h fun e a w hq => by
    cases e with
    | normal => exact hq
    | _ => exact hq.elim
end Go.Proofs.YtihaheinkpmnnaaGreat

namespace Go.Proofs.YtihaheinkpmnnaaGreat
set_option maxRecDepth 200000
open Go.RowKit Go.Shelf

/-- A step that lays blocks and turns at most one block, from B on. -/
def Quiet (B : Nat) (A A' : World) : Prop := ∃ row, A.grownBy A' row ∧ ∀ r, row = some r → B ≤ r
theorem Quiet.less {B B' : Nat} {A A' : World} (h : Quiet B A A') (hB : B' ≤ B) : Quiet B' A A' := by
  obtain ⟨row, hg, hr⟩ := h
  exact ⟨row, hg, fun r e => Nat.le_trans hB (hr r e)⟩
theorem Quiet.of_none {B : Nat} {A A' : World} (h : A.grownBy A' none) : Quiet B A A' := ⟨none, h, fun _ e => by cases e⟩
theorem Quiet.put {B : Nat} {A : World} {r : Nat} {o : Obj} (o' : Obj) (hB : B ≤ r) (_h : A.heap[r]? = some o) (_ho : o.isCells = false) : Quiet B A (A.putObj r o') :=
  ⟨some r, grownBy_putObj' A r o', fun k e => by cases e; exact hB⟩
/-- The blocks that a round leaves alone lie as they lay, and are left alone on. -/
def Saved (Safe : World → Nat → Prop) (W W' : World) : Prop := ∀ b, Safe W b → W'.heap[b]? = W.heap[b]? ∧ Safe W' b

theorem Quiet.size {B : Nat} {W W' : World} (h : Quiet B W W') : W.heap.size ≤ W'.heap.size := by
  obtain ⟨row, hg, _⟩ := h
  exact hg.size

/-- What a loop says of the world between two rounds, and the blocks that its rounds leave alone. -/
structure AbideG {α : Type} (B : Nat) (J : List α → World → Prop) (Safe : World → Nat → Prop) : Prop where
  keep : ∀ s A A', J s A → Quiet B A A' → J s A'
  safe : ∀ s A A' b, J s A → Quiet B A A' → Safe A b → Safe A' b
  fresh : ∀ s A A' b, J s A → Quiet B A A' → A.heap.size ≤ b → b < A'.heap.size → Safe A' b
theorem AbideG.less {α : Type} {B B' : Nat} {J : List α → World → Prop} {Safe : World → Nat → Prop} (h : AbideG B J Safe) (hB : B ≤ B') : AbideG B' J Safe :=
  ⟨fun s A A' hs hq => h.keep s A A' hs (hq.less hB), fun s A A' b hs hq => h.safe s A A' b hs (hq.less hB), fun s A A' b hs hq => h.fresh s A A' b hs (hq.less hB)⟩
/-- Every round says yes. -/
def YesG {α : Type} (vals : α → Array Value) (F : Fence) (m : Nat) (P : Program) (l : Nat) (xs : List α) (J : List α → World → Prop) (Safe : World → Nat → Prop) : Prop :=
  ∀ pre x W, J pre W → pre ++ [x] <+: xs → YieldAt F m P l (vals x) W fun e W' => e = .returned (.bool true) ∧ J (pre ++ [x]) W' ∧ Saved Safe W W'
/-- An iterator that gives xs to a loop whose rounds all say yes, where the blocks caps are left alone. -/
def GivesG {α : Type} (vals : α → Array Value) (F : Fence) (P : Program) (gf : Nat) (la lb : Array Value) (caps : Nat → Prop) (xs : List α) (w : World) : Prop :=
  ∀ (n l : Nat) (J : List α → World → Prop) (Safe : World → Nat → Prop), (∀ b, caps b → Safe w b) → AbideG w.heap.size J Safe → YesG vals F (n - 1) P l xs J Safe → J [] w →
    CallsIn F n P gf (la ++ #[.func (.yield l) #[] #[]] ++ lb) w fun e W' => (∃ v, e = .returned v) ∧ J xs W'
/-- How the body of a round is left: off its end. -/
def yesPostG {α : Type} (J : List α → World → Prop) (Safe : World → Nat → Prop) (s : List α) (W : World) : Exit → Act → World → Prop
  | .normal, _, W' => J s W' ∧ Saved Safe W W'
  | _, _, _ => False
variable {F : Fence} {n : Nat} {P : Program}
theorem rangeYesG {α : Type} {vals : α → Array Value} {g : Operand} {ps : Array Tmp} {assign body : Code} {Q : Exit → Act → World → Prop} {a : Act} {w : World} (hro : F.round = none) (hd : F.depth = none)
    {gf : Nat} {la lb : Array Value} (hg : a.eval g = .func (.func gf) la lb) (hFg : F.fn gf) (eg : ∀ args w, (callFunc gf args).run P w = .ok (.enter gf args) w)
    (hps : ∀ x, (vals x).size = ps.size) {caps : Nat → Prop} {xs : List α} (hseq : ∀ W, w.grownBy W none → GivesG vals F P gf la lb caps xs W)
    (I : List α → World → Prop) (Safe : World → Nat → Prop) (hI : AbideG w.heap.size I Safe) (hcap : ∀ b, caps b → Safe w b) (h0 : I [] w)
    (hround : ∀ (l : Nat) (pre : List α) (x : α) (W : World), I pre W → pre ++ [x] <+: xs → assign.wpIn (F.inRound l) (n - 1 - 1) P
      (Exit.then (fun a' W' => W' = W ∧ ∀ W2, I pre W2 → body.wpIn (F.inRound l) (n - 1 - 1) P (yesPostG I Safe (pre ++ [x]) W2) a' W2) (fun _ _ _ => False)) { tmps := (ps.zip (vals x)).foldl (fun t (p, v) => t.setIfInBounds p v) a.tmps, defers := [] } W)
    (hdone : ∀ (D : Nat) (W : World), w.heap.size ≤ D → I xs W → Safe W D → W.heap[D]? = some (.deferred (some [])) → Q .normal { a with defers := { target := .collected D, args := #[] } :: a.defers } W) :
    (Code.rangeFunc g ps assign body).wpIn F n P Q a w := by
  refine wpIn_rangeFunc fun fn hfn => ?_
  rw [hro]
  let R : LoopState → Loop := fun st => { state := st, pending := none, fn, tmps := a.tmps, params := ps, assign, body, defers := w.heap.size }
  obtain ⟨W1, hW1⟩ : ∃ W1, (w.alloc (.deferred (some []))).alloc (.loop (R .ready)) = W1 := ⟨_, rfl⟩
  have hz1 : W1.heap.size = w.heap.size + 2 := by rw [← hW1]; simp
  have hg1 : w.grownBy W1 none := by rw [← hW1]; exact (World.grownBy_alloc w _ none).trans (World.grownBy_alloc _ _ none)
  have hl1 : W1.heap[w.heap.size + 1]? = some (.loop (R .ready)) := by
    rw [← hW1]; have := World.alloc_heap_new (w.alloc (.deferred (some []))) (.loop (R .ready)); rwa [World.size_alloc] at this
  have hd1 : W1.heap[w.heap.size]? = some (.deferred (some [])) := by
    rw [← hW1]; exact (Below.heap_alloc _ _ _ (by simp)).trans (World.alloc_heap_new w _)
  refine ⟨w.heap.size + 1, [{ target := .collected w.heap.size, args := #[] }], W1, { target := .fn (.func gf) lb, args := la ++ #[.func (.yield (w.heap.size + 1)) #[] #[]] }, W1, gf,
    la ++ #[.func (.yield (w.heap.size + 1)) #[] #[]] ++ lb, W1, ?_, ?_, ?_, ?_, (fun h => by rw [hd] at h; cases h), ?_⟩
  · rw [← hW1]; exact run_enterLoop_outer _ _ _ _ _
  · simp only [resolve, hg]
    simp [go_sem]
  · intro f' hf'; simp [Target.leads] at hf'; subst hf'; exact hFg
  · simp [invoke, go_sem, eg]
  have hq1 : Quiet w.heap.size w W1 := .of_none hg1
  refine (hseq W1 hg1 (n - 1) (w.heap.size + 1) (fun pre W => I pre W ∧ W.heap[w.heap.size + 1]? = some (.loop (R .ready)) ∧ W.heap[w.heap.size]? = some (.deferred (some [])) ∧ Safe W (w.heap.size + 1) ∧ Safe W w.heap.size) Safe
    (fun b hb => hI.safe _ _ _ b h0 hq1 (hcap b hb)) ⟨?_, ?_, ?_⟩ ?_
    ⟨hI.keep _ _ _ h0 hq1, hl1, hd1, hI.fresh _ _ _ _ h0 hq1 (by omega) (by omega), hI.fresh _ _ _ _ h0 hq1 (by omega) (by omega)⟩).mono ?_
  · rintro s A A' ⟨hi, hl, hk, hsl, hsk⟩ hq
    have hq' := hq.less (B' := w.heap.size) (by omega)
    obtain ⟨row, hgr, hr⟩ := hq
    exact ⟨hI.keep _ _ _ hi hq', (hgr.block _ (Array.getElem?_eq_some_iff.1 hl).1 (fun e => by have := hr _ e.symm; omega)).trans hl,
      (hgr.block _ (Array.getElem?_eq_some_iff.1 hk).1 (fun e => by have := hr _ e.symm; omega)).trans hk, hI.safe _ _ _ _ hi hq' hsl, hI.safe _ _ _ _ hi hq' hsk⟩
  · rintro s A A' b ⟨hi, _⟩ hq hs
    exact hI.safe _ _ _ b hi (hq.less (by omega)) hs
  · rintro s A A' b ⟨hi, _⟩ hq h1 h2
    exact hI.fresh _ _ _ b hi (hq.less (by omega)) h1 h2
  · rintro pre x W ⟨hi, hl, hk, hsl, hsk⟩ hpre
    have hlt : w.heap.size + 1 < W.heap.size := (Array.getElem?_eq_some_iff.1 hl).1
    refine ⟨fn, _, assign, body, run_yield hl (hps x), roundIn_of_wpIn hfn ?_⟩
    refine wpIn_mono (hround _ pre x W hi hpre) ?_
    rintro e a1 W1' h1
    cases e with
    | normal => ?_
    | _ => exact h1.elim
    obtain ⟨rfl, hb⟩ := h1
    refine ⟨_, run_beginRound hl rfl, ?_⟩
    have hqb : Quiet w.heap.size W1' (W1'.putObj (w.heap.size + 1) (.loop (R .busy))) := .put _ (by omega) hl rfl
    refine wpIn_mono (hb _ (hI.keep _ _ _ hi hqb)) ?_
    rintro e a3 W3 hp
    cases e with
    | normal =>
      obtain ⟨hi3, hs3⟩ := hp
      have h3 := hs3 (w.heap.size + 1) (hI.safe _ _ _ _ hi hqb hsl)
      have k3 := hs3 w.heap.size (hI.safe _ _ _ _ hi hqb hsk)
      have hl3 : W3.heap[w.heap.size + 1]? = some (.loop (R .busy)) := h3.1.trans (World.putObj_heap_same hlt)
      have hk3 : W3.heap[w.heap.size]? = some (.deferred (some [])) := (k3.1.trans (World.putObj_heap_other (by omega))).trans hk
      have hq4 : Quiet w.heap.size W3 (W3.putObj (w.heap.size + 1) (.loop (R .ready))) := .put _ (by omega) hl3 rfl
      have hlt3 : w.heap.size + 1 < W3.heap.size := (Array.getElem?_eq_some_iff.1 hl3).1
      refine ⟨_, _, run_endRound (P := P) none hl3, rfl, ⟨hI.keep _ _ _ hi3 hq4, World.putObj_heap_same hlt3, (World.putObj_heap_other (by omega)).trans hk3, hI.safe _ _ _ _ hi3 hq4 h3.2, hI.safe _ _ _ _ hi3 hq4 k3.2⟩, ?_⟩
      intro b hb
      have hb2 := hI.safe _ _ _ b hi hqb hb
      have hb3 := hs3 b hb2
      refine ⟨?_, hI.safe _ _ _ b hi3 hq4 hb3.2⟩
      by_cases hbl : b = w.heap.size + 1
      · subst hbl
        exact (World.putObj_heap_same hlt3).trans hl.symm
      · exact ((World.putObj_heap_other hbl).trans hb3.1).trans (World.putObj_heap_other hbl)
    | _ => exact hp.elim
  · rintro e W2 ⟨⟨v, rfl⟩, hi, hl, hk, _, hsk⟩
    exact ⟨none, _, run_endLoop hl (by simp [R]), hdone _ _ (Nat.le_refl _) (hI.keep _ _ _ hi (.put _ (by omega) hl rfl)) (hI.safe _ _ _ _ hi (.put _ (by omega) hl rfl) hsk) ((World.putObj_heap_other (by omega)).trans hk)⟩

/-- What lies low stays. -/
def Low (B0 : Nat) (Safe : World → Nat → Prop) (w W : World) : Prop := ∀ b, b < B0 → W.heap[b]? = w.heap[b]? ∧ Safe W b
theorem Low.saved {B0 : Nat} {Safe : World → Nat → Prop} {w W W' : World} (h : Low B0 Safe w W) (hs : Saved Safe W W') : Low B0 Safe w W' := fun b hb => by
  obtain ⟨h1, h2⟩ := h b hb
  obtain ⟨h3, h4⟩ := hs b h2
  exact ⟨h3.trans h1, h4⟩
theorem Low.grown {α : Type} {B0 Bq : Nat} {J : List α → World → Prop} {Safe : World → Nat → Prop} {w W W' : World} {s : List α} (h : Low B0 Safe w W) (hJ : AbideG Bq J Safe) (hj : J s W) (hg : W.grownBy W' none) (hB : B0 ≤ W.heap.size) : Low B0 Safe w W' := fun b hb => by
  obtain ⟨h1, h2⟩ := h b hb
  exact ⟨(hg.block b (Nat.lt_of_lt_of_le hb hB) (by simp)).trans h1, hJ.safe s W W' b hj (.of_none hg) h2⟩
theorem Low.size {B0 : Nat} {Safe : World → Nat → Prop} {w W : World} (h : Low B0 Safe w W) (hB : B0 ≤ w.heap.size) : B0 ≤ W.heap.size := by
  rcases Nat.eq_zero_or_pos B0 with h0 | h0
  · omega
  · have h1 := (h (B0 - 1) (by omega)).1
    rw [Array.getElem?_eq_getElem (show B0 - 1 < w.heap.size by omega)] at h1
    have := (Array.getElem?_eq_some_iff.1 h1).1
    omega

end Go.Proofs.YtihaheinkpmnnaaGreat

namespace Go.Proofs.YtihaheinkpmnnaaGreat
set_option maxRecDepth 200000
def occC (_C : List (List Int)) (i : Nat) (l : List Int) : List (Int × Nat) := (uq l).map fun x => (x, i)
def occsTo (C : List (List Int)) (k : Nat) : List (Int × Nat) := (List.range k).flatMap fun i => occC C i (C.getD i [])
def occs (C : List (List Int)) : List (Int × Nat) := occsTo C C.length
theorem occsTo_succ (C : List (List Int)) (k : Nat) : occsTo C (k + 1) = occsTo C k ++ occC C k (C.getD k []) := by
  unfold occsTo; rw [List.range_succ, List.flatMap_append]; simp
theorem occC_nil (C : List (List Int)) (i : Nat) : occC C i [] = [] := rfl
theorem occC_old {C : List (List Int)} {i : Nat} {l : List Int} {x : Int} (h : x ∈ l) : occC C i (l ++ [x]) = occC C i l := by
  unfold occC; rw [uq_snoc, if_pos ((mem_uq l x).2 h)]
theorem occC_new {C : List (List Int)} {i : Nat} {l : List Int} {x : Int} (h : x ∉ l) : occC C i (l ++ [x]) = occC C i l ++ [(x, i)] := by
  unfold occC; rw [uq_snoc, if_neg (fun hh => h ((mem_uq l x).1 hh)), List.map_append]; rfl
theorem occC_pre {C : List (List Int)} {i : Nat} (l m : List Int) : occC C i l <+: occC C i (l ++ m) := by
  refine snoc_ind (P := fun m => occC C i l <+: occC C i (l ++ m)) (by simp) (fun m x ih => ?_) m
  rw [← List.append_assoc]
  by_cases h : x ∈ l ++ m
  · rw [occC_old h]; exact ih
  · rw [occC_new h]; exact ih.trans (List.prefix_append _ _)
theorem occsTo_pre {C : List (List Int)} {k n : Nat} (h : k ≤ n) : occsTo C k <+: occsTo C n := by
  induction n with
  | zero => have : k = 0 := by omega
            subst this; exact List.prefix_refl _
  | succ n ih =>
    by_cases e : k = n + 1
    · subst e; exact List.prefix_refl _
    · rw [occsTo_succ]; exact (ih (by omega)).trans (List.prefix_append _ _)
theorem occs_pre {C : List (List Int)} {k : Nat} (hk : k < C.length) {l m : List Int} (e : C.getD k [] = l ++ m) : occsTo C k ++ occC C k l <+: occs C := by
  have h1 : occsTo C k ++ occC C k l <+: occsTo C (k + 1) := by
    rw [occsTo_succ, e]
    exact (List.prefix_append_right_inj _).2 (occC_pre l m)
  exact h1.trans (occsTo_pre (by omega))
def ixL' (x : Int) : Nat := (if x < 0 then -2 * x + 1 else 2 * x).toNat
theorem ix_inj {x y : Int} (h : ixL' x = ixL' y) : x = y := by
  unfold ixL' at h
  split at h <;> split at h <;> omega
theorem ix_lt {V : Nat} {x : Int} (h : InR V x) : ixL' x < 2 * V + 2 := by
  obtain ⟨h0, h1, h2⟩ := h
  unfold ixL'; split <;> omega
/-- For each literal the last clause with it, counted from 1. -/
structure LastOk (V : Nat) (k : Nat) (seen : List Int) (l : List Int) : Prop where
  len : l.length = 2 * V + 2
  iff : ∀ x, InR V x → (at_ l (ixL' x) = (k : Int) + 1 ↔ x ∈ seen)
  le : ∀ m, at_ l m ≤ (k : Int) + 1
  ge : ∀ m, 0 ≤ at_ l m
theorem LastOk.start (V : Nat) : LastOk V 0 [] (List.replicate (2 * V + 2) 0) := by
  have e : ∀ m, at_ (List.replicate (2 * V + 2) 0) m = 0 := fun m => by unfold at_; rw [List.getD_eq_getElem?_getD, List.getElem?_replicate]; split <;> rfl
  exact ⟨by simp, fun x _ => by rw [e]; simp, fun m => by rw [e]; omega, fun m => by rw [e]; omega⟩
theorem LastOk.next {V k : Nat} {seen l : List Int} (h : LastOk V k seen l) : LastOk V (k + 1) [] l := by
  refine ⟨h.len, fun x _ => ?_, fun m => by have := h.le m; omega, h.ge⟩
  have := h.le (ixL' x)
  simp; omega
theorem LastOk.old {V k : Nat} {seen l : List Int} {x : Int} (h : LastOk V k seen l) (hx : x ∈ seen) : LastOk V k (seen ++ [x]) l := by
  refine ⟨h.len, fun y hy => ?_, h.le, h.ge⟩
  rw [h.iff y hy]; simp only [List.mem_append, List.mem_singleton]
  constructor
  · exact .inl
  · rintro (h | rfl)
    · exact h
    · exact hx
theorem LastOk.put {V k : Nat} {seen l : List Int} {x : Int} (h : LastOk V k seen l) (hx : InR V x) : LastOk V k (seen ++ [x]) (l.set (ixL' x) ((k : Int) + 1)) := by
  have hl : ixL' x < l.length := by rw [h.len]; exact ix_lt hx
  refine ⟨by rw [List.length_set]; exact h.len, fun y hy => ?_, fun m => ?_, fun m => ?_⟩
  · rw [at_set hl]
    by_cases e : ixL' y = ixL' x
    · rw [if_pos e]; have := ix_inj e; subst this; simp
    · rw [if_neg e, h.iff y hy]
      simp only [List.mem_append, List.mem_singleton]
      constructor
      · exact .inl
      · rintro (h | rfl)
        · exact h
        · exact absurd rfl e
  · rw [at_set hl]; split
    · omega
    · exact h.le m
  · rw [at_set hl]; split
    · omega
    · exact h.ge m
end Go.Proofs.YtihaheinkpmnnaaGreat
