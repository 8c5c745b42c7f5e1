/- Between two rounds of the loop over a sort's atoms. -/
import Derived.Test.YtbddpjofhddilaaUQ
namespace Go.Proofs.Ytbddpjofhddilaa
open Go.RowKit Go.Shelf

theorem Nums.at {w : World} {a : Option Addr} {c : Nat} {zs : List Nat} (h : Nums w a c zs) {i z : Nat} (hz : zs[i]? = some z) : ∃ b o, a = some ⟨b, o, none⟩ ∧ w.cell? ⟨b, o + i, none⟩ = some (.int .i64 (z : Int)) := by
  obtain ⟨_, ⟨h, _⟩ | ⟨b, o, ha, _, hc⟩⟩ := h
  · rw [h] at hz; simp at hz
  · exact ⟨b, o, ha, hc i z hz⟩
theorem held_next5 {wr W W' : World} {x0 x1 x2 x3 x4 : Addr} {v0 v1 v2 v3 v4 : Value} (g : W.grownBy W' none) (h : wr.grownBy W none) (h0 : W.cell? x0 = some v0) (h1 : W.cell? x1 = some v1) (h2 : W.cell? x2 = some v2) (h3 : W.cell? x3 = some v3) (h4 : W.cell? x4 = some v4) :
    wr.grownBy W' none ∧ W'.cell? x0 = some v0 ∧ W'.cell? x1 = some v1 ∧ W'.cell? x2 = some v2 ∧ W'.cell? x3 = some v3 ∧ W'.cell? x4 = some v4 :=
  ⟨h.trans g, g.cell h0 (by simp), g.cell h1 (by simp), g.cell h2 (by simp), g.cell h3 (by simp), g.cell h4 (by simp)⟩

theorem Quiet.cell {B : Nat} {W W' : World} (h : Quiet B W W') {a : Addr} {v : Value} (hc : W.cell? a = some v) : W'.cell? a = some v := by
  obtain ⟨row, hg, hr⟩ := h
  exact cell_kept hc hg (fun r e => (hr r e).2)
theorem Quiet.size {B : Nat} {W W' : World} (h : Quiet B W W') : W.heap.size ≤ W'.heap.size := by
  obtain ⟨row, hg, _⟩ := h
  exact hg.size
theorem Nums.quiet {B : Nat} {W W' : World} {a : Option Addr} {c : Nat} {zs : List Nat} (h : Nums W a c zs) (hq : Quiet B W W') : Nums W' a c zs := by
  obtain ⟨hc, h | ⟨b, o, ha, hb, hz⟩⟩ := h
  · exact ⟨hc, .inl h⟩
  · exact ⟨hc, .inr ⟨b, o, ha, Nat.lt_of_lt_of_le hb hq.size, fun j z hj => hq.cell (hz j z hj)⟩⟩
theorem Cap.quiet {B : Nat} {W W' : World} {zs : List Nat} {a : Option Addr} {c : Nat} {st : Int} {x : Nat} {ss : List Nat} {sa : Option Addr} {sc bc bp bs : Nat} (h : Cap W zs a c st x ss sa sc bc bp bs)
    (hq : Quiet B W W') : Cap W' zs a c st x ss sa sc bc bp bs :=
  ⟨hq.cell h.c0, hq.cell h.c1, hq.cell h.p, hq.cell h.s, h.zn.quiet hq, h.sn.quiet hq⟩

theorem ints_append (a b : List Nat) : ints (a ++ b) = ints a ++ ints b := List.map_append ..
/-- A round under the wide fence, where it is called within a round. -/
theorem round_within {m m' l' l : Nat} {P : Program} {f : FuncId} {tmps : Array Value} {assign body : Code} {w : World} {R : Ending → World → Prop} (h : RoundIn Fence.wide m P l f tmps assign body w R) :
    RoundIn (Fence.wide.inRound l') m' P l f tmps assign body w R := ⟨h.1, fun c cs _ => h.2 c cs (fun d hd => by cases hd)⟩
def marks (ds : List Nat) : List Deferred := ds.map fun D => { target := .collected D, args := #[] }
/-- What holds between two rounds, where L has come. -/
structure Rnd (w wr : World) (l : Nat) (J : List Int → World → Prop) (Safe : World → Nat → Prop) (zs : List Nat) (a : Option Addr) (c : Nat) (st : Int) (x : Nat) (ss : List Nat) (sa : Option Addr) (sc bc bp bs : Nat) (ds : List Nat) (L : List Int) : Prop where
  inv : J L wr
  cap : Cap wr zs a c st x ss sa sc bc bp bs
  safe : ∀ b ∈ capsOf a sa bc bp bs, Safe wr b
  yld : wr.cell? ⟨w.heap.size, 0, none⟩ = some (.func (.yield l) #[] #[])
  ysafe : Safe wr w.heap.size
  nodup : ds.Nodup
  mark : ∀ D ∈ ds, w.heap.size ≤ D ∧ wr.heap[D]? = some (.deferred (some [])) ∧ Safe wr D
  size : w.heap.size < wr.heap.size

section
variable {w wr : World} {l : Nat} {J : List Int → World → Prop} {Safe : World → Nat → Prop} {zs : List Nat} {a : Option Addr} {c : Nat} {st : Int} {x : Nat} {ss : List Nat} {sa : Option Addr} {sc bc bp bs : Nat} {ds : List Nat} {L : List Int}
theorem Rnd.start {W4 : World} (hJ : Abide w.heap.size J Safe) (hcap : ∀ b ∈ capsOf a sa bc bp bs, Safe w b) (h0 : J [] w) (hc : Cap W4 zs a c st x ss sa sc bc bp bs)
    (hg : w.grownBy W4 none) (hy : W4.cell? ⟨w.heap.size, 0, none⟩ = some (.func (.yield l) #[] #[])) : Rnd w W4 l J Safe zs a c st x ss sa sc bc bp bs [] [] :=
  have hlt : w.heap.size < W4.heap.size := World.block_lt_of_cell? W4 ⟨w.heap.size, 0, none⟩ hy
  ⟨hJ.keep _ _ _ h0 (.of_none hg), hc, fun b hb => hJ.safe _ _ _ b h0 (.of_none hg) (hcap b hb), hy, hJ.fresh _ _ _ _ h0 (.of_none hg) (Nat.le_refl _) hlt, List.nodup_nil, fun D hD => (by cases hD), hlt⟩
theorem Rnd.quiet {B : Nat} {wr' : World} (hJ : Abide w.heap.size J Safe) (h : Rnd w wr l J Safe zs a c st x ss sa sc bc bp bs ds L) (hq : Quiet B wr wr') (hB : w.heap.size ≤ B) (hds : ∀ D ∈ ds, D < B) :
    Rnd w wr' l J Safe zs a c st x ss sa sc bc bp bs ds L := by
  have hq' := hq.less hB
  refine ⟨hJ.keep _ _ _ h.inv hq', h.cap.quiet hq, fun b hb => hJ.safe _ _ _ b h.inv hq' (h.safe b hb), hq.cell h.yld, hJ.safe _ _ _ _ h.inv hq' h.ysafe, h.nodup, fun D hD => ?_, Nat.lt_of_lt_of_le h.size hq.size⟩
  obtain ⟨h1, h2, h3⟩ := h.mark D hD
  refine ⟨h1, ?_, hJ.safe _ _ _ D h.inv hq' h3⟩
  obtain ⟨row, hg, hr⟩ := hq
  exact (hg.block D (Array.getElem?_eq_some_iff.1 h2).1 (fun e => by have := (hr _ e.symm).1; have := hds D hD; omega)).trans h2
theorem Rnd.grown {wr' : World} (hJ : Abide w.heap.size J Safe) (h : Rnd w wr l J Safe zs a c st x ss sa sc bc bp bs ds L) (hg : wr.grownBy wr' none) : Rnd w wr' l J Safe zs a c st x ss sa sc bc bp bs ds L :=
  h.quiet hJ (B := wr.heap.size) (.of_none hg) (Nat.le_of_lt h.size) (fun D hD => (Array.getElem?_eq_some_iff.1 (h.mark D hD).2.1).1)
theorem Rnd.saved {wr' : World} {L' : List Int} (h : Rnd w wr l J Safe zs a c st x ss sa sc bc bp bs ds L) (hs : Saved Safe wr wr') (hJ' : J L' wr') : Rnd w wr' l J Safe zs a c st x ss sa sc bc bp bs ds L' := by
  refine ⟨hJ', h.cap.saved fun b hb => (hs b (h.safe b hb)).1, fun b hb => (hs b (h.safe b hb)).2, (World.cell?_of_block (a := ⟨w.heap.size, 0, none⟩) (hs _ h.ysafe).1).trans h.yld, (hs _ h.ysafe).2, h.nodup, fun D hD => ?_, ?_⟩
  · obtain ⟨h1, h2, h3⟩ := h.mark D hD
    exact ⟨h1, (hs D h3).1.trans h2, (hs D h3).2⟩
  · have e := (World.cell?_of_block (a := ⟨w.heap.size, 0, none⟩) (hs _ h.ysafe).1).trans h.yld
    exact World.block_lt_of_cell? wr' ⟨w.heap.size, 0, none⟩ e
/-- What a loop over the next sorts' ranks says between two of its rounds. -/
theorem Rnd.abide {B : Nat} (hJ : Abide w.heap.size J Safe) (hB : w.heap.size ≤ B) (hds : ∀ D ∈ ds, D < B) : Abide B (fun s W => Rnd w W l J Safe zs a c st x ss sa sc bc bp bs ds (L ++ s)) Safe :=
  ⟨fun _ _ _ h hq => h.quiet hJ hq hB hds, fun _ _ _ b h hq hs => hJ.safe _ _ _ b h.inv (hq.less hB) hs, fun _ _ _ b h hq h1 h2 => hJ.fresh _ _ _ b h.inv (hq.less hB) h1 h2⟩
theorem Rnd.mark_more {D : Nat} (_hJ : Abide w.heap.size J Safe) (h : Rnd w wr l J Safe zs a c st x ss sa sc bc bp bs ds L) (hd : ∀ E ∈ ds, E < D) (hw : w.heap.size ≤ D) (hD : wr.heap[D]? = some (.deferred (some []))) (hs : Safe wr D) :
    Rnd w wr l J Safe zs a c st x ss sa sc bc bp bs (D :: ds) L :=
  ⟨h.inv, h.cap, h.safe, h.yld, h.ysafe, List.nodup_cons.2 ⟨fun hm => Nat.lt_irrefl _ (hd D hm), h.nodup⟩, fun E hE => by
    rcases List.mem_cons.1 hE with rfl | hE
    · exact ⟨hw, hD, hs⟩
    · exact h.mark E hE, h.size⟩
theorem leaves_marks {F : Fence} {n : Nat} {P : Program} {fn : Func} {tmps : Array Value} {R : Ending → World → Prop} (hJ : Abide w.heap.size J Safe) (hout : ∀ W', J L W' → LeavesInM F n P fn tmps R [] .returning W') : ∀ (ds : List Nat) (W : World), J L W → ds.Nodup →
    (∀ D ∈ ds, w.heap.size ≤ D ∧ W.heap[D]? = some (.deferred (some []))) → LeavesInM F n P fn tmps R (marks ds) .returning W
  | [], W, h, _, _ => hout W h
  | D :: ds, W, h, hn, hm => by
    obtain ⟨h1, h2⟩ := List.nodup_cons.1 hn
    obtain ⟨m1, m2⟩ := hm D (by simp)
    refine ⟨by simp, .inl ⟨D, _, rfl, run_takeDeferred m2, leaves_marks hJ hout ds _ (hJ.keep _ _ _ h (.put _ m1 m2 rfl)) h2 fun E hE => ?_⟩⟩
    obtain ⟨e1, e2⟩ := hm E (by simp [hE])
    exact ⟨e1, (World.putObj_heap_other (fun e => h1 (by rw [← e]; exact hE))).trans e2⟩
end

/-- The ranks that have come when i atoms of the first sort are done. -/
def digsTo (zs : List Nat) (x s : Nat) (ss : List Nat) (i : Nat) : List Nat := (List.range i).flatMap fun i => digs zs (x * sum zs + (sum (zs.take s) + i)) ss
theorem digsTo_succ (zs : List Nat) (x s : Nat) (ss : List Nat) (i : Nat) : digsTo zs x s ss (i + 1) = digsTo zs x s ss i ++ digs zs (x * sum zs + (sum (zs.take s) + i)) ss := by
  simp [digsTo, List.range_succ]
theorem digsTo_le (zs : List Nat) (x s : Nat) (ss : List Nat) {i j : Nat} (h : i ≤ j) : digsTo zs x s ss i <+: digsTo zs x s ss j := by
  induction j with
  | zero => obtain rfl : i = 0 := by omega
            exact List.prefix_refl _
  | succ j ih =>
    by_cases e : i = j + 1
    · subst e; exact List.prefix_refl _
    · rw [digsTo_succ]; exact (ih (by omega)).trans (List.prefix_append _ _)
theorem digs_cons {zs : List Nat} {x s z : Nat} {ss : List Nat} (hz : zs[s]? = some z) : digs zs x (s :: ss) = digsTo zs x s ss z := by
  simp [digs, digsTo, hz]
end Go.Proofs.Ytbddpjofhddilaa
