/- Texts of the proof: N2 N4 N5 N3. -/
import Derived.Test.YtihaheinkpmnnaaGreatCA06
import Derived.Test.YtihaheinkpmnnaaGreatCA07
import Derived.Maps.AppendAt
import Derived.Test.YtihaheinkpmnnaaGreatCA01
namespace Go.Proofs.YtihaheinkpmnnaaGreat
set_option maxRecDepth 200000
open Go.RowKit
/-- What an iterator's loop leaves alone: what came in, and what has come since. -/
def SafeN (lo N : Nat) (W : World) (b : Nat) : Prop := b < W.heap.size ∧ (b < lo ∨ N ≤ b)
theorem NS.quiet {W1 : World} {DS : List Nat} {K : PK} {tb N : Nat} {vs : List Int} {R : Nat → Rw} {w w' : World} (h : NS W1 DS K tb vs R w) (hp : ∀ k, PM K R k → k < N) (ht : tb < N) (h1 : W1.heap.size ≤ N) (hd : ∀ D ∈ DS, D < N) (hq : Quiet N w w') : NS W1 DS K tb vs R w' := by
  obtain ⟨row, hg, hr⟩ := hq
  have hb : ∀ k, k < N → k < w.heap.size → w'.heap[k]? = w.heap[k]? := fun k hk hks => hg.block k hks (fun e => by have := hr k e.symm; omega)
  refine ⟨h.pw.kept fun k hk => hb k (hp k hk) (h.pw.below k hk).2.1, ?_, h.tbm, h.tbl, h.B, ?_, fun D hD => (hb D (hd D hD) (Array.getElem?_eq_some_iff.1 (h.ds D hD)).1).trans (h.ds D hD)⟩
  · have hl := lies_lt h.tb0
    rw [World.cell?_of_block (hb tb ht hl)]; exact h.tb0
  · exact ⟨hg.os.trans h.grown.os, hg.tape.trans h.grown.tape, hg.output.trans h.grown.output, Nat.le_trans h.grown.size hg.size, fun k hk _ => (hb k (by omega) (Nat.lt_of_lt_of_le hk h.grown.size)).trans (h.grown.block k hk (by simp))⟩
/-- The first loop: the row of starts is counted up. -/
structure LI (W1 : World) (DS : List Nat) (K : PK) (tb : Nat) (vs : List Int) (R : Nat → Rw) (g M N : Nat) (s : List Int) (W : World) : Prop where
  ns : NS W1 DS K tb vs (upd R 4 ⟨(R 4).a, (R 4).c, s⟩) W
  len : s.length = M
  len0 : (R 4).l.length = M
  at_ : (R 4).a = some ⟨g, 0, none⟩
  low : ∀ k, PM K R k → k < N
  tlow : tb < N
  wlow : W1.heap.size ≤ N
  dlow : ∀ D ∈ DS, D < N
  nlow : N ≤ W.heap.size
  pos : 0 < M
theorem NS.mark {W1 : World} {DS : List Nat} {K : PK} {tb : Nat} {vs : List Int} {R : Nat → Rw} {w : World} {D : Nat} (h : NS W1 DS K tb vs R w) (hd : w.heap[D]? = some (.deferred (some []))) : NS W1 (D :: DS) K tb vs R w := by
  refine ⟨h.pw, h.tb0, h.tbm, h.tbl, h.B, h.grown, fun D' h' => ?_⟩
  rcases List.mem_cons.1 h' with e | h'
  · rw [e]; exact hd
  · exact h.ds D' h'
section
variable {W1 : World} {DS : List Nat} {K : PK} {tb : Nat} {vs : List Int} {R : Nat → Rw} {g M N : Nat} {s : List Int} {W : World}
theorem LI.start (h : NS W1 DS K tb vs R W) (hl : (R 4).l = List.replicate M 0) (ha : (R 4).a = some ⟨g, 0, none⟩) (hM : 0 < M) : LI W1 DS K tb vs R g M W.heap.size (List.replicate M 0) W :=
  ⟨by rw [← hl, upd_self]; exact h, by simp, by rw [hl]; simp, ha, fun k hk => (h.pw.below k hk).2.1, lies_lt h.tb0, h.grown.size, fun D hD => (Array.getElem?_eq_some_iff.1 (h.ds D hD)).1, Nat.le_refl _, hM⟩
theorem LI.mark {D : Nat} (h : LI W1 DS K tb vs R g M N s W) (hd : W.heap[D]? = some (.deferred (some []))) : LI W1 (D :: DS) K tb vs R g M W.heap.size s W :=
  ⟨h.ns.mark hd, h.len, h.len0, h.at_, fun k hk => Nat.lt_of_lt_of_le (h.low k hk) h.nlow, Nat.lt_of_lt_of_le h.tlow h.nlow, Nat.le_trans h.wlow h.nlow, fun D' h' => (Array.getElem?_eq_some_iff.1 ((h.ns.mark hd).ds D' h')).1, Nat.le_refl _, h.pos⟩
theorem LI.pm (h : LI W1 DS K tb vs R g M N s W) : ∀ k, PM K (upd R 4 ⟨(R 4).a, (R 4).c, s⟩) k → k < N := fun k hk => by
  rcases PM.upd (K := K) (R := R) (i := 4) (x := ⟨(R 4).a, (R 4).c, s⟩) (N := k + 1) (by omega) (.inl (by unfold Rw.blk; simp only [Rw.val, h.len, h.len0])) k hk with h1 | h1
  · exact h.low k h1
  · omega
theorem LI.quiet {W' : World} (h : LI W1 DS K tb vs R g M N s W) (hq : Quiet N W W') : LI W1 DS K tb vs R g M N s W' :=
  ⟨h.ns.quiet h.pm h.tlow h.wlow h.dlow hq, h.len, h.len0, h.at_, h.low, h.tlow, h.wlow, h.dlow, Nat.le_trans h.nlow hq.size, h.pos⟩
theorem LI.drew (h : LI W1 DS K tb vs R g M N s W) : LI W1 DS K tb vs R g M N s W.drew := h.quiet (.of_none (grown_drew _ _))
theorem LI.row (h : LI W1 DS K tb vs R g M N s W) : IRow K.B W (some ⟨g, 0, none⟩) (R 4).c s := by
  have := h.ns.pw.rows 4 (by omega)
  rw [upd_same] at this
  simp only [h.at_] at this
  exact this
theorem LI.c4 (h : LI W1 DS K tb vs R g M N s W) {j : Nat} (hj : j < M) : W.cell? ⟨g, j, none⟩ = some (.int .i64 (Go.Proofs.YtihaheinkpmnnaaGreat.at_ s j)) := irow_cell h.row (by rw [h.len]; exact hj)
theorem LI.z4 (h : LI W1 DS K tb vs R g M N s W) (j : Nat) : W.frozen? ⟨g, j, none⟩ = false := World.ownsRow.frozenAt h.row j
theorem LI.f9 (h : LI W1 DS K tb vs R g M N s W) : W.cell? ⟨K.p, 9, none⟩ = some (.slice (some ⟨g, 0, none⟩) M (R 4).c) := by
  have := h.ns.pw.f9
  rw [upd_same] at this
  simp only [Rw.val, h.at_, h.len] at this
  exact this
theorem LI.put (h : LI W1 DS K tb vs R g M N s W) (j : Nat) (z : Int) : LI W1 DS K tb vs R g M N (s.set j z) (W.setCell ⟨g, j, none⟩ (.int .i64 z)) := by
  have h1 := h.ns.pw.store (i := 4) (by omega) (by rw [upd_same]; exact h.at_) j z
  rw [upd_upd, upd_same] at h1
  have hb : (upd R 4 ⟨(R 4).a, (R 4).c, s⟩ 4).blk = some g := by rw [upd_same]; unfold Rw.blk; simp only [Rw.val, h.at_, Value.ownBlock]
  have hgt : g ≠ tb := fun e => h.ns.tbm (.inr (.inr ⟨4, by omega, by rw [hb, e]⟩))
  have hgB := (h.ns.pw.below g (.inr (.inr ⟨4, by omega, hb⟩))).1
  have hgr := grown_set W g j (.int .i64 z)
  refine ⟨⟨h1, ?_, ?_, h.ns.tbl, h.ns.B, ?_, fun D hD => (Below.heap_setCell _ _ _ _ (fun e => by have h2 := h.ns.ds D hD; simp only at e; have h3 := (h.ns.pw.below g (.inr (.inr ⟨4, by omega, hb⟩))).2.2; rw [e] at h2; exact absurd (h3 _ h2) (by simp [Obj.isCells]))).trans (h.ns.ds D hD)⟩, by rw [List.length_set]; exact h.len, h.len0, h.at_, h.low, h.tlow, h.wlow, h.dlow, Nat.le_trans h.nlow hgr.size, h.pos⟩
  · exact hgr.cell h.ns.tb0 (fun e => hgt (Option.some.inj e).symm)
  · intro hh
    refine h.ns.tbm ?_
    rcases hh with e | e | ⟨i, hi, e⟩
    · exact .inl e
    · exact .inr (.inl e)
    · refine .inr (.inr ⟨i, hi, ?_⟩)
      unfold upd at e ⊢
      split at e <;> rename_i hi4
      · rw [if_pos hi4]; unfold Rw.blk at e ⊢; simp only [Rw.val, List.length_set] at e ⊢; exact e
      · rw [if_neg hi4]; exact e
  · exact grown_own h.ns.grown hgr (fun k e => by have := Option.some.inj e; have := h.ns.B; omega)
theorem LI.saved {lo : Nat} (h : LI W1 DS K tb vs R g M N s W) (hlo : lo ≤ W1.heap.size) (j : Nat) (v : Value) : Saved (SafeN lo N) W (W.setCell ⟨g, j, none⟩ v) := by
  have hb : (upd R 4 ⟨(R 4).a, (R 4).c, s⟩ 4).blk = some g := by rw [upd_same]; unfold Rw.blk; simp only [Rw.val, h.at_, Value.ownBlock]
  have hm := h.pm g (.inr (.inr ⟨4, by omega, hb⟩))
  have hgB := (h.ns.pw.below g (.inr (.inr ⟨4, by omega, hb⟩))).1
  rintro b ⟨h1, h2⟩
  refine ⟨Below.heap_setCell _ _ _ _ (fun e => ?_), Nat.lt_of_lt_of_le h1 (grown_set W g j v).size, h2⟩
  simp only at e
  have := h.ns.B
  rcases h2 with h2 | h2 <;> omega
theorem LI.abide {lo : Nat} (_hlo : lo ≤ N) : AbideG N (fun pre W => ∃ s, LI W1 DS K tb vs R g M N s W ∧ CntOk M pre s) (SafeN lo N) := by
  refine ⟨?_, ?_, ?_⟩
  · rintro pre A A' ⟨s, h, hc⟩ hq; exact ⟨s, h.quiet hq, hc⟩
  · rintro pre A A' b ⟨s, h, _⟩ hq ⟨h1, h2⟩; exact ⟨Nat.lt_of_lt_of_le h1 hq.size, h2⟩
  · rintro pre A A' b ⟨s, h, _⟩ hq h1 h2; exact ⟨h2, .inr (by have := h.nlow; omega)⟩
end
end Go.Proofs.YtihaheinkpmnnaaGreat

namespace Go.Proofs.YtihaheinkpmnnaaGreat
set_option maxRecDepth 200000
open Go.RowKit
def fillR (R : Nat → Rw) (cl o : List Int) : Nat → Rw := upd (upd R 5 ⟨(R 5).a, (R 5).c, cl⟩) 3 ⟨(R 3).a, (R 3).c, o⟩
theorem fillR3 (R : Nat → Rw) (cl o : List Int) : fillR R cl o 3 = ⟨(R 3).a, (R 3).c, o⟩ := upd_same _ _ _
theorem fillR5 (R : Nat → Rw) (cl o : List Int) : fillR R cl o 5 = ⟨(R 5).a, (R 5).c, cl⟩ := by unfold fillR; rw [upd_other (by decide), upd_same]
theorem fillRo (R : Nat → Rw) (cl o : List Int) {j : Nat} (h3 : j ≠ 3) (h5 : j ≠ 5) : fillR R cl o j = R j := by unfold fillR; rw [upd_other h3, upd_other h5]
theorem fillR_set3 (R : Nat → Rw) (cl o o' : List Int) : upd (fillR R cl o) 3 ⟨(fillR R cl o 3).a, (fillR R cl o 3).c, o'⟩ = fillR R cl o' := by
  rw [fillR3]; unfold fillR; rw [upd_upd]
theorem fillR_set5 (R : Nat → Rw) (cl cl' o : List Int) : upd (fillR R cl o) 5 ⟨(fillR R cl o 5).a, (fillR R cl o 5).c, cl'⟩ = fillR R cl' o := by
  rw [fillR5]; unfold fillR
  rw [upd_comm (upd R 5 _) (i := 3) (k := 5) (by decide), upd_upd, upd_comm R (i := 5) (k := 3) (by decide)]
theorem fillR_self (R : Nat → Rw) {cl o : List Int} (hc : (R 5).l = cl) (ho : (R 3).l = o) : fillR R cl o = R := by
  unfold fillR; rw [← hc, ← ho, upd_self, upd_self]
theorem fillR_blk (R : Nat → Rw) {cl o : List Int} (hc : cl.length = (R 5).l.length) (ho : o.length = (R 3).l.length) (j : Nat) : (fillR R cl o j).blk = (R j).blk := by
  by_cases h3 : j = 3
  · subst h3; rw [fillR3]; unfold Rw.blk; simp only [Rw.val, ho]
  · by_cases h5 : j = 5
    · subst h5; rw [fillR5]; unfold Rw.blk; simp only [Rw.val, hc]
    · rw [fillRo _ _ _ h3 h5]
theorem fillR_pm {K : PK} (R : Nat → Rw) {cl o : List Int} (hc : cl.length = (R 5).l.length) (ho : o.length = (R 3).l.length) (k : Nat) : PM K (fillR R cl o) k ↔ PM K R k := by
  unfold PM
  simp only [fillR_blk R hc ho]
/-- The row of what is next, and its box. -/
structure NX (W1 : World) (K : PK) (tb : Nat) (R : Nat → Rw) (gn tn M cN : Nat) (nx : List Int) (W : World) : Prop where
  row : W.ownsRow W1.heap.size 3 1 (.slice (some ⟨gn, 0, none⟩) M cN) M (intCells nx)
  len : nx.length = M
  box : W.cell? ⟨tn, 0, none⟩ = some (.slice (some ⟨gn, 0, none⟩) M cN)
  pmg : ¬ PM K R gn
  pmt : ¬ PM K R tn
  gt : gn ≠ tb ∧ tn ≠ tb ∧ gn ≠ tn
  tl : W1.heap.size ≤ tn
structure LJ (W1 : World) (DS : List Nat) (K : PK) (tb : Nat) (vs : List Int) (R : Nat → Rw) (gn tn M cN N : Nat) (cl o nx : List Int) (W : World) : Prop where
  ns : NS W1 DS K tb vs (fillR R cl o) W
  nx : NX W1 K tb R gn tn M cN nx W
  clen : cl.length = (R 5).l.length
  olen : o.length = (R 3).l.length
  low : ∀ k, PM K R k → k < N
  tlow : tb < N
  glow : gn < N ∧ tn < N
  wlow : W1.heap.size ≤ N
  dlow : ∀ D ∈ DS, D < N
  nlow : N ≤ W.heap.size
section
variable {W1 : World} {DS : List Nat} {K : PK} {tb : Nat} {vs : List Int} {R : Nat → Rw} {gn tn M cN N : Nat} {cl o nx : List Int} {W : World}
theorem LJ.pm (h : LJ W1 DS K tb vs R gn tn M cN N cl o nx W) (k : Nat) : PM K (fillR R cl o) k ↔ PM K R k := fillR_pm R h.clen h.olen k
theorem NX.quiet {W' : World} (h : NX W1 K tb R gn tn M cN nx W) (hg : gn < N) (ht : tn < N) (hq : Quiet N W W') : NX W1 K tb R gn tn M cN nx W' := by
  obtain ⟨row, hgr, hr⟩ := hq
  refine ⟨?_, h.len, ?_, h.pmg, h.pmt, h.gt, h.tl⟩
  · refine World.ownsRow.kept h.row hgr (.inr ?_)
    simp only [Value.ownBlock]; intro e
    have := hr gn e.symm; omega
  · refine hgr.cell h.box (fun e => ?_)
    have := hr tn e.symm; omega
theorem LJ.quiet {W' : World} (h : LJ W1 DS K tb vs R gn tn M cN N cl o nx W) (hq : Quiet N W W') : LJ W1 DS K tb vs R gn tn M cN N cl o nx W' :=
  ⟨h.ns.quiet (fun k hk => h.low k ((h.pm k).1 hk)) h.tlow h.wlow h.dlow hq, h.nx.quiet h.glow.1 h.glow.2 hq, h.clen, h.olen, h.low, h.tlow, h.glow, h.wlow, h.dlow, Nat.le_trans h.nlow hq.size⟩
theorem LJ.drew (h : LJ W1 DS K tb vs R gn tn M cN N cl o nx W) : LJ W1 DS K tb vs R gn tn M cN N cl o nx W.drew := h.quiet (.of_none (grown_drew _ _))
/-- A row of the propagator is stored into. -/
theorem NS.store {R : Nat → Rw} {i g j : Nat} {z : Int} (h : NS W1 DS K tb vs R W) (hi : i < 7) (ha : (R i).a = some ⟨g, 0, none⟩) : NS W1 DS K tb vs (upd R i ⟨(R i).a, (R i).c, (R i).l.set j z⟩) (W.setCell ⟨g, j, none⟩ (.int .i64 z)) := by
  have hb : (R i).blk = some g := by unfold Rw.blk; simp only [Rw.val, ha, Value.ownBlock]
  have hM : PM K R g := .inr (.inr ⟨i, hi, hb⟩)
  have hgr := grown_set W g j (.int .i64 z)
  have hbl := h.pw.below g hM
  refine ⟨h.pw.store hi ha j z, hgr.cell h.tb0 (fun e => h.tbm (by have e2 : tb = g := Option.some.inj e; rw [e2]; exact hM)), fun hh => ?_, h.tbl, h.B, grown_own h.grown hgr (fun k e => by have := Option.some.inj e; have := h.B; omega), fun D hD => (Below.heap_setCell _ _ _ _ (fun e => ?_)).trans (h.ds D hD)⟩
  · rcases PM.upd (K := K) (R := R) (i := i) (x := ⟨(R i).a, (R i).c, (R i).l.set j z⟩) (N := tb + 1) hi (.inl (by unfold Rw.blk; simp only [Rw.val, List.length_set])) tb hh with h1 | h1
    · exact h.tbm h1
    · omega
  · have h2 := h.ds D hD; simp only at e; rw [e] at h2; exact absurd (hbl.2.2 _ h2) (by simp [Obj.isCells])
theorem LJ.putC {g : Nat} (h : LJ W1 DS K tb vs R gn tn M cN N cl o nx W) (ha : (R 5).a = some ⟨g, 0, none⟩) (j : Nat) (z : Int) : LJ W1 DS K tb vs R gn tn M cN N (cl.set j z) o nx (W.setCell ⟨g, j, none⟩ (.int .i64 z)) := by
  have h1 := h.ns.store (i := 5) (j := j) (z := z) (by omega) (by rw [fillR5]; exact ha)
  rw [fillR_set5, fillR5] at h1
  have hb : (R 5).blk = some g := by unfold Rw.blk; simp only [Rw.val, ha, Value.ownBlock]
  have hM : PM K R g := .inr (.inr ⟨5, by omega, hb⟩)
  refine ⟨h1, ⟨?_, h.nx.len, ?_, h.nx.pmg, h.nx.pmt, h.nx.gt, h.nx.tl⟩, by rw [List.length_set]; exact h.clen, h.olen, h.low, h.tlow, h.glow, h.wlow, h.dlow, Nat.le_trans h.nlow (grown_set _ _ _ _).size⟩
  · exact World.ownsRow.kept h.nx.row (grown_set _ _ _ _) (.inr (by simp only [Value.ownBlock]; intro e; exact h.nx.pmg ((Option.some.inj e) ▸ hM)))
  · exact (grown_set _ _ _ _).cell h.nx.box (fun e => h.nx.pmt (by have e2 : tn = g := Option.some.inj e; rw [e2]; exact hM))
theorem LJ.putO {g : Nat} (h : LJ W1 DS K tb vs R gn tn M cN N cl o nx W) (ha : (R 3).a = some ⟨g, 0, none⟩) (j : Nat) (z : Int) : LJ W1 DS K tb vs R gn tn M cN N cl (o.set j z) nx (W.setCell ⟨g, j, none⟩ (.int .i64 z)) := by
  have h1 := h.ns.store (i := 3) (j := j) (z := z) (by omega) (by rw [fillR3]; exact ha)
  rw [fillR_set3, fillR3] at h1
  have hb : (R 3).blk = some g := by unfold Rw.blk; simp only [Rw.val, ha, Value.ownBlock]
  have hM : PM K R g := .inr (.inr ⟨3, by omega, hb⟩)
  refine ⟨h1, ⟨?_, h.nx.len, ?_, h.nx.pmg, h.nx.pmt, h.nx.gt, h.nx.tl⟩, h.clen, by rw [List.length_set]; exact h.olen, h.low, h.tlow, h.glow, h.wlow, h.dlow, Nat.le_trans h.nlow (grown_set _ _ _ _).size⟩
  · exact World.ownsRow.kept h.nx.row (grown_set _ _ _ _) (.inr (by simp only [Value.ownBlock]; intro e; exact h.nx.pmg ((Option.some.inj e) ▸ hM)))
  · exact (grown_set _ _ _ _).cell h.nx.box (fun e => h.nx.pmt (by have e2 : tn = g := Option.some.inj e; rw [e2]; exact hM))
theorem LJ.putN (h : LJ W1 DS K tb vs R gn tn M cN N cl o nx W) (j : Nat) (z : Int) : LJ W1 DS K tb vs R gn tn M cN N cl o (nx.set j z) (W.setCell ⟨gn, j, none⟩ (.int .i64 z)) := by
  have hgr := grown_set W gn j (.int .i64 z)
  have hl := h.nx.row.lt gn rfl
  have hcells : ∀ ob, W.heap[gn]? = some ob → ob.isCells = true := fun ob hob => by
    rcases h.nx.row.2 with ⟨h1, _⟩ | ⟨g, cap, cur, h1, _, hg, _⟩
    · cases h1
    · injection h1 with h1; injection h1 with h1; injection h1 with h1; subst h1; rw [hg] at hob; cases hob; rfl
  have hpm : ¬ PM K (fillR R cl o) gn := fun e => h.nx.pmg ((h.pm gn).1 e)
  refine ⟨⟨h.ns.pw.kept (fun k hk => Below.heap_setCell _ _ _ _ (fun e => hpm (by simp only at e; rw [← e]; exact hk))), hgr.cell h.ns.tb0 (fun e => h.nx.gt.1 (Option.some.inj e).symm), h.ns.tbm, h.ns.tbl, h.ns.B, grown_own h.ns.grown hgr (fun k e => by have := Option.some.inj e; omega), fun D hD => (Below.heap_setCell _ _ _ _ (fun e => ?_)).trans (h.ns.ds D hD)⟩, ⟨?_, by rw [List.length_set]; exact h.nx.len, hgr.cell h.nx.box (fun e => h.nx.gt.2.2 (Option.some.inj e).symm), h.nx.pmg, h.nx.pmt, h.nx.gt, h.nx.tl⟩, h.clen, h.olen, h.low, h.tlow, h.glow, h.wlow, h.dlow, Nat.le_trans h.nlow hgr.size⟩
  · have h2 := h.ns.ds D hD; simp only at e; rw [e] at h2; exact absurd (hcells _ h2) (by simp [Obj.isCells])
  · have := (World.ownsRow.stored h.nx.row j (.int .i64 z)).1
    rwa [intCells, ← List.map_set] at this
theorem Saved.trans {Safe : World → Nat → Prop} {A B C : World} (h1 : Saved Safe A B) (h2 : Saved Safe B C) : Saved Safe A C := fun b hb => ⟨((h2 b (h1 b hb).2).1).trans (h1 b hb).1, (h2 b (h1 b hb).2).2⟩
theorem saved_set {lo g : Nat} (hlo : lo ≤ g) (hg : g < N) (W : World) (j : Nat) (v : Value) : Saved (SafeN lo N) W (W.setCell ⟨g, j, none⟩ v) := by
  rintro b ⟨h1, h2⟩
  refine ⟨Below.heap_setCell _ _ _ _ (fun e => ?_), Nat.lt_of_lt_of_le h1 (grown_set W g j v).size, h2⟩
  simp only at e
  rcases h2 with h2 | h2 <;> omega
theorem LJ.celN (h : LJ W1 DS K tb vs R gn tn M cN N cl o nx W) {j : Nat} (hj : j < M) : W.cell? ⟨gn, j, none⟩ = some (.int .i64 (at_ nx j)) := irow_cell (B := W1.heap.size) (c := cN) (l := nx) (by unfold IRow; rw [h.nx.len]; exact h.nx.row) (by rw [h.nx.len]; exact hj)
theorem LJ.zN (h : LJ W1 DS K tb vs R gn tn M cN N cl o nx W) (j : Nat) : W.frozen? ⟨gn, j, none⟩ = false := World.ownsRow.frozenAt h.nx.row j
theorem LJ.row5 {g : Nat} (h : LJ W1 DS K tb vs R gn tn M cN N cl o nx W) (ha : (R 5).a = some ⟨g, 0, none⟩) : IRow K.B W (some ⟨g, 0, none⟩) (R 5).c cl := by
  have := h.ns.pw.rows 5 (by omega)
  rw [fillR5] at this
  simp only [ha] at this
  exact this
theorem LJ.row3 {g : Nat} (h : LJ W1 DS K tb vs R gn tn M cN N cl o nx W) (ha : (R 3).a = some ⟨g, 0, none⟩) : IRow K.B W (some ⟨g, 0, none⟩) (R 3).c o := by
  have := h.ns.pw.rows 3 (by omega)
  rw [fillR3] at this
  simp only [ha] at this
  exact this
theorem LJ.f10 {g T : Nat} (h : LJ W1 DS K tb vs R gn tn M cN N cl o nx W) (ha : (R 5).a = some ⟨g, 0, none⟩) (hT : cl.length = T) : W.cell? ⟨K.p, 10, none⟩ = some (.slice (some ⟨g, 0, none⟩) T (R 5).c) := by
  have := h.ns.pw.f10
  rw [fillR5] at this
  simp only [Rw.val, ha, hT] at this
  exact this
theorem LJ.f8 {g n : Nat} (h : LJ W1 DS K tb vs R gn tn M cN N cl o nx W) (ha : (R 3).a = some ⟨g, 0, none⟩) (hn : o.length = n) : W.cell? ⟨K.p, 8, none⟩ = some (.slice (some ⟨g, 0, none⟩) n (R 3).c) := by
  have := h.ns.pw.f8
  rw [fillR3] at this
  simp only [Rw.val, ha, hn] at this
  exact this
theorem LJ.blow {i g : Nat} (h : LJ W1 DS K tb vs R gn tn M cN N cl o nx W) (hi : i < 7) (ha : (R i).a = some ⟨g, 0, none⟩) : W1.heap.size ≤ g ∧ g < N ∧ PM K R g := by
  have hb : (R i).blk = some g := by unfold Rw.blk; simp only [Rw.val, ha, Value.ownBlock]
  have hM : PM K R g := .inr (.inr ⟨i, hi, hb⟩)
  have := (h.ns.pw.below g ((h.pm g).2 hM)).1
  have := h.ns.B
  exact ⟨by omega, h.low g hM, hM⟩
theorem LJ.abide {lo : Nat} {l : List Oc} {n : Nat} : AbideG N (fun pre W => ∃ cl o nx, LJ W1 DS K tb vs R gn tn M cN N cl o nx W ∧ FillOk M l pre nx cl ∧ OpnOk n pre o) (SafeN lo N) := by
  refine ⟨?_, ?_, ?_⟩
  · rintro pre A A' ⟨cl, o, nx, h, hc⟩ hq; exact ⟨cl, o, nx, h.quiet hq, hc⟩
  · rintro pre A A' b ⟨cl, o, nx, h, _⟩ hq ⟨h1, h2⟩; exact ⟨Nat.lt_of_lt_of_le h1 hq.size, h2⟩
  · rintro pre A A' b ⟨cl, o, nx, h, _⟩ hq h1 h2; exact ⟨h2, .inr (by have := h.nlow; omega)⟩
end
end Go.Proofs.YtihaheinkpmnnaaGreat

namespace Go.Proofs.YtihaheinkpmnnaaGreat
set_option maxRecDepth 200000
open Go.RowKit
theorem ready_append_g {ops : Array Oper} {o : Oper} {a : Act} {Q : Exit → Act → World → Prop} {K' : Act → World → Prop} {w : World} (t e : TypeId) (s x : Operand) (hgd : o.guard = none)
    (ho : o.op = .call { callee := .builtin .append, args := #[s, x], argTypes := #[t, t] }) {i0 : TypeInfo} {z : Value} {k bytes : Nat} (hund : Tryz.prog.underlying t = some (.slice e)) (hi0 : Tryz.prog.info? e = some i0) (hz0 : i0.zero = some z) (hz1 : i0.size = k) (hz2 : i0.bytes = bytes) (hzc : z.cells.size = k) (hk : 0 < k) (hb : bytes ≤ 1000000)
    (base : Nat) (v : Value) (n : Nat) (xs : List Value) (hs : a.eval s = v) (hown : w.ownsRow base e k v n xs)
    (ad : Addr) (us : List Value) (hl : us.length = k) (hx : a.eval x = .slice (some ad) 1 1) (hnews : ∀ j u, us[j]? = some u → w.cell? (ad.add j) = some u) (h1 : ∀ u ∈ us, u.oneCell' = true)
    (h63 : n ≤ 1000000) (hbase : base ≤ w.heap.size)
    (h : ∀ v' w', w'.ownsRow base e k v' (n + 1) (xs ++ us) → w.grownBy w' v.ownBlock → (v'.ownBlock = v.ownBlock ∨ v'.ownBlock = some w.heap.size) → K' (a.put o.dst v') w') :
    if Region.wanted o (yielded ops a.tmps) = true then Oper.wp Tryz.prog o a w K' Q else K' (a.put o.dst undef) w := by
  have hbn : (n + 1) * bytes ≤ 140737488355328 := Nat.le_trans (Nat.mul_le_mul (show n + 1 ≤ 1000001 by omega) hb) (by omega)
  obtain ⟨v', w', hr, h2, h3, h4, h5⟩ := run_append_own_at (P := Tryz.prog) w base t o.type e i0 z k bytes hund hi0 hz0 hz1 hz2 hzc hk v n xs hown ad 1 1 us (by rw [hl, Nat.one_mul]) hnews h1 (by unfold maxLen; omega) hbn hbase
  have hw : Region.wanted o (yielded ops a.tmps) = true := by simp only [Region.wanted, hgd]
  rw [if_pos hw]
  unfold Oper.wp execOp
  simp only [ho, resolve, invoke, builtin, Sem.run_bind, Sem.run_pure, Result.andThen_ok, List.map_toArray, List.map_cons, List.map_nil, hs, hx, hr]
  exact h v' w' h2 h3 h5
theorem NS.turned {W1 : World} {DS : List Nat} {K : PK} {tb : Nat} {vs : List Int} {R R' : Nat → Rw} {w w8 : World} (h : NS W1 DS K tb vs R w) (hp : PW K w8 vs 0 (-1) R') (ho : Off (PM K R) w w8) (hm : ∀ k, PM K R' k → PM K R k ∨ w.heap.size ≤ k) : NS W1 DS K tb vs R' w8 := by
  have hl := lies_lt h.tb0
  simp only at hl
  refine ⟨hp, ho.cell h.tb0 h.tbm, fun hh => ?_, h.tbl, h.B, ho.grown h.grown (fun k hk => by have := (h.pw.below k hk).1; have := h.B; omega), fun D hD => ?_⟩
  · rcases hm tb hh with h1 | h1
    · exact h.tbm h1
    · omega
  · have h2 := h.ds D hD
    refine (ho.block D (Array.getElem?_eq_some_iff.1 h2).1 (fun hM => ?_)).trans h2
    exact absurd ((h.pw.below D hM).2.2 _ h2) (by simp [Obj.isCells])
/-- The first clauses that are falsified or unit at the start. -/
def hotTo (C : List (List Int)) (k : Nat) : List Int := ((List.range k).filter fun i => decide (opnN [] (C.getD i []) < 2)).map fun (i : Nat) => (i : Int)
theorem hotTo_succ (C : List (List Int)) (k : Nat) : hotTo C (k + 1) = hotTo C k ++ (if opnN [] (C.getD k []) < 2 then [(k : Int)] else []) := by
  unfold hotTo
  rw [List.range_succ, List.filter_append, List.map_append]
  congr 1
  by_cases h : opnN [] (C.getD k []) < 2
  · rw [if_pos h, List.filter_cons, if_pos (decide_eq_true h)]; rfl
  · rw [if_neg h, List.filter_cons, if_neg (by rw [decide_eq_false h]; decide)]; rfl
theorem hotTo_len (C : List (List Int)) (k : Nat) : (hotTo C k).length ≤ k := by
  unfold hotTo; rw [List.length_map]; exact Nat.le_trans (List.length_filter_le _ _) (by simp)
theorem sorted_heap {l : List Int} (h : ∀ i j, i < j → j < l.length → at_ l i ≤ at_ l j) : Heap l.length l := fun k h0 hk => h _ _ (by omega) hk
theorem hotTo_sorted (C : List (List Int)) : ∀ k, (∀ y ∈ hotTo C k, y < k) ∧ ∀ i j, i < j → j < (hotTo C k).length → at_ (hotTo C k) i ≤ at_ (hotTo C k) j
  | 0 => ⟨by simp [hotTo], fun i j _ hj => by simp [hotTo] at hj⟩
  | k + 1 => by
    obtain ⟨h1, h2⟩ := hotTo_sorted C k
    rw [hotTo_succ]
    by_cases h : opnN [] (C.getD k []) < 2
    · rw [if_pos h]
      refine ⟨fun y hy => ?_, fun i j hij hj => ?_⟩
      · rcases List.mem_append.1 hy with hy | hy
        · have := h1 y hy; omega
        · rw [List.mem_singleton.1 hy]; omega
      · simp only [List.length_append, List.length_singleton] at hj
        have e : ∀ m, m < (hotTo C k).length → at_ (hotTo C k ++ [(k : Int)]) m = at_ (hotTo C k) m := fun m hm => by unfold at_; rw [List.getD_eq_getElem?_getD, List.getElem?_append_left hm, ← List.getD_eq_getElem?_getD]
        rw [e i (by omega)]
        by_cases hj2 : j < (hotTo C k).length
        · rw [e j hj2]; exact h2 i j hij hj2
        · have hje : j = (hotTo C k).length := by omega
          have : at_ (hotTo C k ++ [(k : Int)]) j = (k : Int) := by unfold at_; rw [List.getD_eq_getElem?_getD, List.getElem?_append_right (by omega), hje, Nat.sub_self]; rfl
          rw [this]
          have hil : i < (hotTo C k).length := by omega
          have hm : at_ (hotTo C k) i ∈ hotTo C k := by
            have := at_some hil; exact List.mem_of_getElem? this
          have := h1 _ hm
          omega
    · rw [if_neg h, List.append_nil]
      exact ⟨fun y hy => by have := h1 y hy; omega, h2⟩
theorem qok_start (C : List (List Int)) : QOk C [] [] (hotTo C C.length) := by
  refine ⟨sorted_heap (hotTo_sorted C C.length).2, fun y hy => ?_, fun i hi hh => .inl ?_⟩
  · unfold hotTo at hy
    rw [List.mem_map] at hy
    obtain ⟨i, h1, rfl⟩ := hy
    rw [List.mem_filter, List.mem_range] at h1
    exact ⟨i, rfl, h1.1, of_decide_eq_true h1.2⟩
  · unfold hotTo
    rw [List.mem_map]
    refine ⟨i, ?_, rfl⟩
    rw [List.mem_filter, List.mem_range]
    unfold hot at hh
    simp only [Bool.and_eq_true] at hh
    exact ⟨hi, hh.2⟩
theorem sats_start (C : List (List Int)) : satsP C [] = List.replicate C.length 0 := by
  refine ext_getD (by simp [satsP]) fun j hj => ?_
  have hjC : j < C.length := by simpa [satsP] using hj
  unfold satsP
  rw [getD_map hjC, List.getD_eq_getElem?_getD (l := List.replicate _ _), List.getElem?_replicate, if_pos hjC]
  unfold satN
  rw [List.countP_eq_zero.2 (fun y _ => by simp)]
  rfl
theorem occ_made {V M : Nat} {C : List (List Int)} {s cl nx : List Int} (hM : 2 * V + 4 = M) (hs : SumOk M (occs C) M s) (hf : FillOk M (occs C) (occs C) nx cl) : Occ V C s cl := by
  refine ⟨by rw [hs.1, hM], fun x hx => ?_⟩
  have hk := ix_lt hx
  have e : (ixL x).toNat = ixL' x := by unfold ixL ixL'; rfl
  have hw : (with_ C x).length = cntE (ixL' x) (occs C) := by rw [← sel_occs hx, sel_len]
  have g1 : s[ixL' x]? = some ((cntL (ixL' x) (occs C) : Nat) : Int) := by rw [at_some (by rw [hs.1]; omega), hs.2.1 _ (by omega) (by omega)]
  have g2 : s[ixL' x + 1]? = some ((cntL (ixL' x + 1) (occs C) : Nat) : Int) := by rw [at_some (by rw [hs.1]; omega), hs.2.1 _ (by omega) (by omega)]
  rw [e]
  refine ⟨cntL (ixL' x) (occs C), g1, by rw [g2, cntL_succ, hw], ?_, fun j i hj => ?_⟩
  · rw [hw, ← cntL_succ, hf.clen]; exact cntL_len _ _
  · rw [← sel_occs hx] at hj
    exact hf.cl _ (by omega) j i hj
end Go.Proofs.YtihaheinkpmnnaaGreat

namespace Go.Proofs.YtihaheinkpmnnaaGreat
set_option maxRecDepth 200000
open Go.RowKit
set_option maxRecDepth 100000 in
set_option maxHeartbeats 2000000 in
theorem cloneOwn_calls (zs : List Int) (a : Option Addr) (c : Nat) (w : World) (h : IntsW w a c zs) (hl : zs.length ≤ 100000) :
    Calls Tryz.prog 122 #[.slice a zs.length c] w fun e w' => ∃ v', e = .returned v' ∧ w'.ownsRow w.heap.size 3 1 v' zs.length (intCells zs) ∧ w.grownBy w' none := by
  obtain ⟨n, hn⟩ : ∃ n, zs.length = n := ⟨_, rfl⟩
  rw [hn] at hl ⊢
  have HN := Lib.hid hn; clear hn
  cases a with
  | none =>
    obtain rfl : zs = [] := by
      obtain ⟨_, h | ⟨_, _, e, _⟩⟩ := h
      · exact h
      · cases e
    have q28 : ∀ (w : World) (a : Option Addr) (n c n' c' : Nat), (binOp .eql 34 (.slice a n c) (.slice none n' c')).run Tryz.prog w = .ok (.bool a.isNone) w := fun w a n c n' c' => Lib.run_eql_slice_nil w _ _ a n c n' c' Tryz.underlying34
    have hn0 : n = 0 := by rw [← HN.out]; rfl
    subst hn0
    go_enter Tryz.func122, Tryz.ntmps122
    go_wp2_with fail
    go_ret
    exact ⟨.slice none 0 0, rfl, World.ownsRow_nil _ _ _ _, grown_refl _ _⟩
  | some ad =>
    obtain ⟨i0, hi0, hz0, hz1, hz2⟩ := info_parts info3
    have HC := Lib.hid h.2; have hc := h.1; clear h
    rw [HN.out] at hc
    have q28 : ∀ (w : World) (a : Option Addr) (n c n' c' : Nat), (binOp .eql 34 (.slice a n c) (.slice none n' c')).run Tryz.prog w = .ok (.bool a.isNone) w := fun w a n c n' c' => Lib.run_eql_slice_nil w _ _ a n c n' c' Tryz.underlying34
    go_enter Tryz.func122, Tryz.ntmps122
    go_wp2_with (at_builtin; refine wpList_append_own _ rfl _ _ 34 rfl w.heap.size 3 i0 (.int .i64 0) 1 8 Tryz.underlying34 hi0 hz0 hz1 hz2 rfl (by decide) _ _ _ rfl (World.ownsRow_made w #[] 0 (Nat.le_refl _) (Nat.zero_le _) rfl) ad n c (intCells zs) rfl ?qc1 ?qc2 ?qc3 ?qc4 ?qc5 ?qc6 ?_)
    case qc1 => rw [intCells, List.length_map, HN.out]; omega
    case qc2 =>
      intro j u hj
      rw [intCells, List.getElem?_map] at hj
      cases hq : zs[j]? with
      | none => rw [hq] at hj; simp at hj
      | some z =>
        rw [hq] at hj
        simp only [Option.map_some, Option.some.injEq] at hj
        rcases HC.out with h0 | ⟨b, o, e, hz⟩
        · rw [h0] at hq; simp at hq
        · cases e
          have hadd : (⟨b, o, none⟩ : Addr).add j = ⟨b, o + j, none⟩ := by unfold Addr.add; split <;> simp_all
          rw [hadd, ← hj]
          exact (World.grownBy_alloc w _ none).cell (hz j z hq) (by simp)
    case qc3 => intro u hu; obtain ⟨x, _, rfl⟩ := List.mem_map.1 hu; rfl
    case qc4 => unfold maxLen; omega
    case qc5 => omega
    case qc6 => simp
    intro v' w1 hown hgrow hnil
    have hown' : w1.ownsRow w.heap.size 3 1 v' zs.length (intCells zs) := by rw [HN.out]; simpa using hown
    obtain ⟨a', c', rfl, hi⟩ := ints_span hown'
    have HR := Lib.hid hown'; clear hi hown hown' hnil
    have HG : Hid (w.grownBy w1 none) := Lib.hid (grown_own (World.grownBy_alloc w _ none) hgrow (fun k hk => by simp [Value.ownBlock] at hk; omega))
    clear hgrow
    rw [HN.out]
    go_wp2
    go_ret
    refine ⟨_, rfl, ?_, HG.out⟩
    have := HR.out
    rw [HN.out] at this
    exact this

theorem one_cell (w : World) (v : Value) (t : TypeId) : w.heap.size < (w.alloc (.cells #[v] t)).heap.size ∧ (w.alloc (.cells #[v] t)).cell? ⟨w.heap.size, 0, none⟩ = some v ∧ (w.alloc (.cells #[v] t)).frozen? ⟨w.heap.size, 0, none⟩ = false := by
  refine ⟨by simp, by go_simp, by go_simp⟩
end Go.Proofs.YtihaheinkpmnnaaGreat
