/- Common texts of the laws of stage 9, joined: UQ UR US UT UU. -/
import Derived.Test.YtbddpjofhddilaaN01
import Derived.Shelf.Abstract
import Derived.TacticsInMore
import Derived.LoopNIn
import Derived.LoopIn
import Derived.Maps.OwnIn
/- What the function value of ranks gives, where no sort is left. -/
namespace Go.Proofs.Ytbddpjofhddilaa
open Go.RowKit Go.Shelf
attribute [local go_sem] Oper.semAt_some

/-- What the three boxes hold. -/
structure Cap (W : World) (zs : List Nat) (a : Option Addr) (c : Nat) (st : Int) (x : Nat) (ss : List Nat) (sa : Option Addr) (sc bc bp bs : Nat) : Prop where
  c0 : W.cell? ⟨bc, 0, none⟩ = some (.slice a zs.length c)
  c1 : W.cell? ⟨bc, 1, none⟩ = some (.int .i64 st)
  p : W.cell? ⟨bp, 0, none⟩ = some (.int .i64 (x : Int))
  s : W.cell? ⟨bs, 0, none⟩ = some (.slice sa ss.length sc)
  zn : Nums W a c zs
  sn : Nums W sa sc ss
def capsOf (a sa : Option Addr) (bc bp bs : Nat) : List Nat := bc :: bp :: bs :: ((a.map (·.block)).toList ++ (sa.map (·.block)).toList)
theorem Nums.saved {W W' : World} {a : Option Addr} {c : Nat} {zs : List Nat} (h : Nums W a c zs) (hs : ∀ b, a.map (·.block) = some b → W'.heap[b]? = W.heap[b]?) : Nums W' a c zs := by
  obtain ⟨hc, h | ⟨b, o, rfl, hb, hz⟩⟩ := h
  · exact ⟨hc, .inl h⟩
  · have e := hs b rfl
    refine ⟨hc, .inr ⟨b, o, rfl, ?_, fun j z hj => (World.cell?_of_block (a := ⟨b, o + j, none⟩) e).trans (hz j z hj)⟩⟩
    rw [Array.getElem?_eq_getElem hb] at e
    exact (Array.getElem?_eq_some_iff.1 e).1
theorem Cap.saved {W W' : World} {zs : List Nat} {a : Option Addr} {c : Nat} {st : Int} {x : Nat} {ss : List Nat} {sa : Option Addr} {sc bc bp bs : Nat} (h : Cap W zs a c st x ss sa sc bc bp bs)
    (hs : ∀ b ∈ capsOf a sa bc bp bs, W'.heap[b]? = W.heap[b]?) : Cap W' zs a c st x ss sa sc bc bp bs :=
  ⟨(World.cell?_of_block (a := ⟨bc, 0, none⟩) (hs bc (by simp [capsOf]))).trans h.c0, (World.cell?_of_block (a := ⟨bc, 1, none⟩) (hs bc (by simp [capsOf]))).trans h.c1,
    (World.cell?_of_block (a := ⟨bp, 0, none⟩) (hs bp (by simp [capsOf]))).trans h.p, (World.cell?_of_block (a := ⟨bs, 0, none⟩) (hs bs (by simp [capsOf]))).trans h.s,
    h.zn.saved fun b hb => hs b (by simp [capsOf, hb]), h.sn.saved fun b hb => hs b (by simp [capsOf, hb])⟩
theorem Cap.grown {W W' : World} {zs : List Nat} {a : Option Addr} {c : Nat} {st : Int} {x : Nat} {ss : List Nat} {sa : Option Addr} {sc bc bp bs : Nat} (h : Cap W zs a c st x ss sa sc bc bp bs)
    (hg : W.grownBy W' none) : Cap W' zs a c st x ss sa sc bc bp bs :=
  ⟨hg.cell h.c0 (by simp), hg.cell h.c1 (by simp), hg.cell h.p (by simp), hg.cell h.s (by simp), h.zn.grown hg, h.sn.grown hg⟩

abbrev ints (l : List Nat) : List Int := l.map Int.ofNat
set_option maxHeartbeats 1000000 in
theorem ranks_none (zs : List Nat) (a : Option Addr) (c : Nat) (st : Int) (x : Nat) (sa : Option Addr) (sc bc bp bs : Nat) (w : World) (h : Cap w zs a c st x [] sa sc bc bp bs) :
    Gives Fence.wide Try.prog 130 #[.pointer (some ⟨bs, 0, none⟩), .pointer (some ⟨bp, 0, none⟩), .pointer (some ⟨bc, 0, none⟩)] (capsOf a sa bc bp bs) (ints (digs zs x [])) w := by
  intro n l J Safe hcap hJ hY h0
  have hg := World.grownBy_alloc w (.cells #[.func (.yield l) #[] #[]] 98) none
  have hy0 := YieldAt.mono (hY [] (x : Int) _ (hJ.keep _ _ _ h0 (.of_none hg)) (by simp [digs])) (R' := fun e W' => e = .returned (.bool true) ∧ J (ints (digs zs x [])) W') fun e W' h => ⟨h.1, by simpa [digs] using h.2.1⟩
  obtain ⟨fn, tmps, assign, body, hy, hR⟩ := hy0
  have hx := (h.grown hg).s
  have hp := (h.grown hg).p
  clear h hcap hJ hY h0 hg
  refine callsIn_of_wp_marks Try.func130 rfl trivial ?_ rfl
  simp only [Try.ntmps130, List.size_toArray, List.length_cons, List.length_nil, Nat.reduceAdd, Nat.reduceSub, Array.replicate_succ, Array.replicate_zero, List.push_toArray, List.append_toArray, List.nil_append, List.cons_append]
  gi_wp2
  refine ⟨fun h => (by cases h), ?_⟩
  refine hR.mono ?_
  rintro e W' ⟨rfl, hJ'⟩
  gi_wp2
  exact ⟨_, results_none rfl _ _ _, ⟨_, rfl⟩, hJ'⟩
end Go.Proofs.Ytbddpjofhddilaa
/- Between two rounds of the loop over a sort's atoms. -/
namespace Go.Proofs.Ytbddpjofhddilaa
open Go.RowKit Go.Shelf

theorem Nums.at {w : World} {a : Option Addr} {c : Nat} {zs : List Nat} (h : Nums w a c zs) {i z : Nat} (hz : zs[i]? = some z) : ∃ b o, a = some ⟨b, o, none⟩ ∧ w.cell? ⟨b, o + i, none⟩ = some (.int .i64 (z : Int)) := by
  obtain ⟨_, ⟨h, _⟩ | ⟨b, o, ha, _, hc⟩⟩ := h
  · rw [h] at hz; simp at hz
  · exact ⟨b, o, ha, hc i z hz⟩
theorem held_next5 {wr W W' : World} {x0 x1 x2 x3 x4 : Addr} {v0 v1 v2 v3 v4 : Value} (g : W.grownBy W' none) (h : wr.grownBy W none) (h0 : W.cell? x0 = some v0) (h1 : W.cell? x1 = some v1) (h2 : W.cell? x2 = some v2) (h3 : W.cell? x3 = some v3) (h4 : W.cell? x4 = some v4) :
    wr.grownBy W' none ∧ W'.cell? x0 = some v0 ∧ W'.cell? x1 = some v1 ∧ W'.cell? x2 = some v2 ∧ W'.cell? x3 = some v3 ∧ W'.cell? x4 = some v4 :=
  ⟨h.trans g, g.cell h0 (by simp), g.cell h1 (by simp), g.cell h2 (by simp), g.cell h3 (by simp), g.cell h4 (by simp)⟩

theorem Quiet.cell {B : Nat} {W W' : World} (h : Quiet B W W') {a : Addr} {v : Value} (hc : W.cell? a = some v) : W'.cell? a = some v := by
  obtain ⟨row, hg, hr⟩ := h
  exact cell_kept hc hg (fun r e => (hr r e).2)
theorem Quiet.size {B : Nat} {W W' : World} (h : Quiet B W W') : W.heap.size ≤ W'.heap.size := by
  obtain ⟨row, hg, _⟩ := h
  exact hg.size
theorem Nums.quiet {B : Nat} {W W' : World} {a : Option Addr} {c : Nat} {zs : List Nat} (h : Nums W a c zs) (hq : Quiet B W W') : Nums W' a c zs := by
  obtain ⟨hc, h | ⟨b, o, ha, hb, hz⟩⟩ := h
  · exact ⟨hc, .inl h⟩
  · exact ⟨hc, .inr ⟨b, o, ha, Nat.lt_of_lt_of_le hb hq.size, fun j z hj => hq.cell (hz j z hj)⟩⟩
theorem Cap.quiet {B : Nat} {W W' : World} {zs : List Nat} {a : Option Addr} {c : Nat} {st : Int} {x : Nat} {ss : List Nat} {sa : Option Addr} {sc bc bp bs : Nat} (h : Cap W zs a c st x ss sa sc bc bp bs)
    (hq : Quiet B W W') : Cap W' zs a c st x ss sa sc bc bp bs :=
  ⟨hq.cell h.c0, hq.cell h.c1, hq.cell h.p, hq.cell h.s, h.zn.quiet hq, h.sn.quiet hq⟩

theorem ints_append (a b : List Nat) : ints (a ++ b) = ints a ++ ints b := List.map_append ..
/-- A round under the wide fence, where it is called within a round. -/
theorem round_within {m m' l' l : Nat} {P : Program} {f : FuncId} {tmps : Array Value} {assign body : Code} {w : World} {R : Ending → World → Prop} (h : RoundIn Fence.wide m P l f tmps assign body w R) :
    RoundIn (Fence.wide.inRound l') m' P l f tmps assign body w R := ⟨h.1, fun c cs _ => h.2 c cs (fun d hd => by cases hd)⟩
def marks (ds : List Nat) : List Deferred := ds.map fun D => { target := .collected D, args := #[] }
/-- What holds between two rounds, where L has come. -/
structure Rnd (w wr : World) (l : Nat) (J : List Int → World → Prop) (Safe : World → Nat → Prop) (zs : List Nat) (a : Option Addr) (c : Nat) (st : Int) (x : Nat) (ss : List Nat) (sa : Option Addr) (sc bc bp bs : Nat) (ds : List Nat) (L : List Int) : Prop where
  inv : J L wr
  cap : Cap wr zs a c st x ss sa sc bc bp bs
  safe : ∀ b ∈ capsOf a sa bc bp bs, Safe wr b
  yld : wr.cell? ⟨w.heap.size, 0, none⟩ = some (.func (.yield l) #[] #[])
  ysafe : Safe wr w.heap.size
  nodup : ds.Nodup
  mark : ∀ D ∈ ds, w.heap.size ≤ D ∧ wr.heap[D]? = some (.deferred (some [])) ∧ Safe wr D
  size : w.heap.size < wr.heap.size

section
variable {w wr : World} {l : Nat} {J : List Int → World → Prop} {Safe : World → Nat → Prop} {zs : List Nat} {a : Option Addr} {c : Nat} {st : Int} {x : Nat} {ss : List Nat} {sa : Option Addr} {sc bc bp bs : Nat} {ds : List Nat} {L : List Int}
theorem Rnd.start {W4 : World} (hJ : Abide w.heap.size J Safe) (hcap : ∀ b ∈ capsOf a sa bc bp bs, Safe w b) (h0 : J [] w) (hc : Cap W4 zs a c st x ss sa sc bc bp bs)
    (hg : w.grownBy W4 none) (hy : W4.cell? ⟨w.heap.size, 0, none⟩ = some (.func (.yield l) #[] #[])) : Rnd w W4 l J Safe zs a c st x ss sa sc bc bp bs [] [] :=
  have hlt : w.heap.size < W4.heap.size := World.block_lt_of_cell? W4 ⟨w.heap.size, 0, none⟩ hy
  ⟨hJ.keep _ _ _ h0 (.of_none hg), hc, fun b hb => hJ.safe _ _ _ b h0 (.of_none hg) (hcap b hb), hy, hJ.fresh _ _ _ _ h0 (.of_none hg) (Nat.le_refl _) hlt, List.nodup_nil, fun D hD => (by cases hD), hlt⟩
theorem Rnd.quiet {B : Nat} {wr' : World} (hJ : Abide w.heap.size J Safe) (h : Rnd w wr l J Safe zs a c st x ss sa sc bc bp bs ds L) (hq : Quiet B wr wr') (hB : w.heap.size ≤ B) (hds : ∀ D ∈ ds, D < B) :
    Rnd w wr' l J Safe zs a c st x ss sa sc bc bp bs ds L := by
  have hq' := hq.less hB
  refine ⟨hJ.keep _ _ _ h.inv hq', h.cap.quiet hq, fun b hb => hJ.safe _ _ _ b h.inv hq' (h.safe b hb), hq.cell h.yld, hJ.safe _ _ _ _ h.inv hq' h.ysafe, h.nodup, fun D hD => ?_, Nat.lt_of_lt_of_le h.size hq.size⟩
  obtain ⟨h1, h2, h3⟩ := h.mark D hD
  refine ⟨h1, ?_, hJ.safe _ _ _ D h.inv hq' h3⟩
  obtain ⟨row, hg, hr⟩ := hq
  exact (hg.block D (Array.getElem?_eq_some_iff.1 h2).1 (fun e => by have := (hr _ e.symm).1; have := hds D hD; omega)).trans h2
theorem Rnd.grown {wr' : World} (hJ : Abide w.heap.size J Safe) (h : Rnd w wr l J Safe zs a c st x ss sa sc bc bp bs ds L) (hg : wr.grownBy wr' none) : Rnd w wr' l J Safe zs a c st x ss sa sc bc bp bs ds L :=
  h.quiet hJ (B := wr.heap.size) (.of_none hg) (Nat.le_of_lt h.size) (fun D hD => (Array.getElem?_eq_some_iff.1 (h.mark D hD).2.1).1)
theorem Rnd.saved {wr' : World} {L' : List Int} (h : Rnd w wr l J Safe zs a c st x ss sa sc bc bp bs ds L) (hs : Saved Safe wr wr') (hJ' : J L' wr') : Rnd w wr' l J Safe zs a c st x ss sa sc bc bp bs ds L' := by
  refine ⟨hJ', h.cap.saved fun b hb => (hs b (h.safe b hb)).1, fun b hb => (hs b (h.safe b hb)).2, (World.cell?_of_block (a := ⟨w.heap.size, 0, none⟩) (hs _ h.ysafe).1).trans h.yld, (hs _ h.ysafe).2, h.nodup, fun D hD => ?_, ?_⟩
  · obtain ⟨h1, h2, h3⟩ := h.mark D hD
    exact ⟨h1, (hs D h3).1.trans h2, (hs D h3).2⟩
  · have e := (World.cell?_of_block (a := ⟨w.heap.size, 0, none⟩) (hs _ h.ysafe).1).trans h.yld
    exact World.block_lt_of_cell? wr' ⟨w.heap.size, 0, none⟩ e
/-- What a loop over the next sorts' ranks says between two of its rounds. -/
theorem Rnd.abide {B : Nat} (hJ : Abide w.heap.size J Safe) (hB : w.heap.size ≤ B) (hds : ∀ D ∈ ds, D < B) : Abide B (fun s W => Rnd w W l J Safe zs a c st x ss sa sc bc bp bs ds (L ++ s)) Safe :=
  ⟨fun _ _ _ h hq => h.quiet hJ hq hB hds, fun _ _ _ b h hq hs => hJ.safe _ _ _ b h.inv (hq.less hB) hs, fun _ _ _ b h hq h1 h2 => hJ.fresh _ _ _ b h.inv (hq.less hB) h1 h2⟩
theorem Rnd.mark_more {D : Nat} (_hJ : Abide w.heap.size J Safe) (h : Rnd w wr l J Safe zs a c st x ss sa sc bc bp bs ds L) (hd : ∀ E ∈ ds, E < D) (hw : w.heap.size ≤ D) (hD : wr.heap[D]? = some (.deferred (some []))) (hs : Safe wr D) :
    Rnd w wr l J Safe zs a c st x ss sa sc bc bp bs (D :: ds) L :=
  ⟨h.inv, h.cap, h.safe, h.yld, h.ysafe, List.nodup_cons.2 ⟨fun hm => Nat.lt_irrefl _ (hd D hm), h.nodup⟩, fun E hE => by
    rcases List.mem_cons.1 hE with rfl | hE
    · exact ⟨hw, hD, hs⟩
    · exact h.mark E hE, h.size⟩
theorem leaves_marks {F : Fence} {n : Nat} {P : Program} {fn : Func} {tmps : Array Value} {R : Ending → World → Prop} (hJ : Abide w.heap.size J Safe) (hout : ∀ W', J L W' → LeavesInM F n P fn tmps R [] .returning W') : ∀ (ds : List Nat) (W : World), J L W → ds.Nodup →
    (∀ D ∈ ds, w.heap.size ≤ D ∧ W.heap[D]? = some (.deferred (some []))) → LeavesInM F n P fn tmps R (marks ds) .returning W
  | [], W, h, _, _ => hout W h
  | D :: ds, W, h, hn, hm => by
    obtain ⟨h1, h2⟩ := List.nodup_cons.1 hn
    obtain ⟨m1, m2⟩ := hm D (by simp)
    refine ⟨by simp, .inl ⟨D, _, rfl, run_takeDeferred m2, leaves_marks hJ hout ds _ (hJ.keep _ _ _ h (.put _ m1 m2 rfl)) h2 fun E hE => ?_⟩⟩
    obtain ⟨e1, e2⟩ := hm E (by simp [hE])
    exact ⟨e1, (World.putObj_heap_other (fun e => h1 (by rw [← e]; exact hE))).trans e2⟩
end

/-- The ranks that have come when i atoms of the first sort are done. -/
def digsTo (zs : List Nat) (x s : Nat) (ss : List Nat) (i : Nat) : List Nat := (List.range i).flatMap fun i => digs zs (x * sum zs + (sum (zs.take s) + i)) ss
theorem digsTo_succ (zs : List Nat) (x s : Nat) (ss : List Nat) (i : Nat) : digsTo zs x s ss (i + 1) = digsTo zs x s ss i ++ digs zs (x * sum zs + (sum (zs.take s) + i)) ss := by
  simp [digsTo, List.range_succ]
theorem digsTo_le (zs : List Nat) (x s : Nat) (ss : List Nat) {i j : Nat} (h : i ≤ j) : digsTo zs x s ss i <+: digsTo zs x s ss j := by
  induction j with
  | zero => obtain rfl : i = 0 := by omega
            exact List.prefix_refl _
  | succ j ih =>
    by_cases e : i = j + 1
    · subst e; exact List.prefix_refl _
    · rw [digsTo_succ]; exact (ih (by omega)).trans (List.prefix_append _ _)
theorem digs_cons {zs : List Nat} {x s z : Nat} {ss : List Nat} (hz : zs[s]? = some z) : digs zs x (s :: ss) = digsTo zs x s ss z := by
  simp [digs, digsTo, hz]
end Go.Proofs.Ytbddpjofhddilaa
/- What the function value of ranks gives, where sorts are left. -/
namespace Go.Proofs.Ytbddpjofhddilaa
open Go.RowKit Go.Shelf
attribute [local go_sem] Oper.semAt_some

set_option maxRecDepth 100000 in
set_option maxHeartbeats 4000000 in
theorem ranks_some (zs : List Nat) (a : Option Addr) (c : Nat) (st : Int) (hz : ∀ z ∈ zs, z ≤ 5) (hl : zs.length ≤ 4) (s : Nat) (ss : List Nat) (hss : ss.length ≤ 2) (hs : s < zs.length)
    (ih : ∀ (x : Nat) (sa : Option Addr) (sc bc bp bs : Nat) (w : World), x < 20 ^ (3 - ss.length) → Cap w zs a c st x ss sa sc bc bp bs →
      Gives Fence.wide Try.prog 130 #[.pointer (some ⟨bs, 0, none⟩), .pointer (some ⟨bp, 0, none⟩), .pointer (some ⟨bc, 0, none⟩)] (capsOf a sa bc bp bs) (ints (digs zs x ss)) w)
    (x : Nat) (sa : Option Addr) (sc bc bp bs : Nat) (w : World) (hx : x < 20 ^ (2 - ss.length)) (h : Cap w zs a c st x (s :: ss) sa sc bc bp bs) :
    Gives Fence.wide Try.prog 130 #[.pointer (some ⟨bs, 0, none⟩), .pointer (some ⟨bp, 0, none⟩), .pointer (some ⟨bc, 0, none⟩)] (capsOf a sa bc bp bs) (ints (digs zs x (s :: ss))) w := by
  intro n l J Safe hcap hJ hY h0
  have hg := World.grownBy_alloc w (.cells #[.func (.yield l) #[] #[]] 98) none
  have cy : (w.alloc (.cells #[.func (.yield l) #[] #[]] 98)).cell? ⟨w.heap.size, 0, none⟩ = some (.func (.yield l) #[] #[]) := by go_simp
  have hw1 : ∃ W, w.alloc (.cells #[.func (.yield l) #[] #[]] 98) = W := ⟨_, rfl⟩
  obtain ⟨k, hk⟩ : ∃ k, ss.length = k := ⟨_, rfl⟩
  obtain ⟨N, hN⟩ : ∃ N, zs.length = N := ⟨_, rfl⟩
  have HH := Lib.hid (And.intro hz (And.intro hl (And.intro ih (And.intro hcap (And.intro hJ (And.intro hY (And.intro h0 (And.intro hk hN))))))))
  clear hz ih hcap hJ hY h0
  have hc1 := h.grown hg
  have HC := Lib.hid hc1
  obtain ⟨c0, c1, p, sx, _, _⟩ := hc1
  simp only [List.length_cons] at sx
  rw [hk] at sx hss hx
  rw [hN] at c0 hs hl
  have HG := Lib.hid hg
  clear hg h hk hN
  obtain ⟨b0, o0, rfl, cs⟩ := HC.out.sn.at (i := 0) (z := s) rfl
  obtain ⟨z, hzs⟩ : ∃ z, zs[s]? = some z := ⟨_, List.getElem?_eq_getElem (by have := HH.out.2.2.2.2.2.2.2.2; omega)⟩
  obtain ⟨b1, o1, rfl, cz⟩ := HC.out.zn.at (i := s) (z := z) hzs
  have HZ := Lib.hid hzs; clear hzs
  refine callsIn_of_wp_marks Try.func130 rfl trivial ?_ rfl
  simp only [Try.ntmps130, List.size_toArray, List.length_cons, List.length_nil, Nat.reduceAdd, Nat.reduceSub, Array.replicate_succ, Array.replicate_zero, List.push_toArray, List.append_toArray, List.nil_append, List.cons_append]
  refine wpIn_wide.2 ?_
  rw [Nat.add_zero] at cs
  go_wp2_with fail
  obtain ⟨W, hW⟩ := hw1
  rw [hW] at HC HG cy c0 c1 p sx cs cz ⊢
  have HF := Lib.hid (fun (W' : World) (hW' : W.grownBy W' none) => by
    have hf := first_calls zs (some ⟨b1, o1, none⟩) c st W' (HC.out.zn.grown hW') HH.out.1 HH.out.2.1 s (by have := HH.out.2.2.2.2.2.2.2.2; omega)
    rw [HH.out.2.2.2.2.2.2.2.2] at hf
    exact hf)
  have hk0 : (0 : Int) < ((k + 1 : Nat) : Int) := by omega
  have hsI : (s : Int) < (N : Int) := by omega
  obtain ⟨S, hS⟩ : ∃ S, sum (zs.take s) = S := ⟨_, rfl⟩
  rw [hS] at HF
  have HS := Lib.hid hS; clear hS
  go_region_held3 (fun w' => W.grownBy w' none ∧ w'.cell? ⟨bc, 0, none⟩ = some (.slice (some ⟨b1, o1, none⟩) N c) ∧ w'.cell? ⟨bc, 1, none⟩ = some (.int .i64 st) ∧ w'.cell? ⟨bp, 0, none⟩ = some (.int .i64 (x : Int)) ∧ w'.cell? ⟨bs, 0, none⟩ = some (.slice (some ⟨b0, o0, none⟩) (k + 1) sc) ∧ w'.cell? ⟨b0, o0, none⟩ = some (.int .i64 (s : Int)))
    (first | exact ⟨⟨rfl, rfl, rfl, Nat.le_refl _, fun _ _ _ => rfl⟩, c0, c1, p, sx, cs⟩ | (go_split_ands; exact held_next5 g3 (by assumption) (by assumption) (by assumption) (by assumption) (by assumption) (by assumption)))
    (first | (go_at_call 36; refine (HF.out _ ?_).mono ?_; (go_split_ands; assumption); rintro e w3 ⟨rfl, g3⟩))
  have h3 : W.grownBy w3 none := by go_split_ands; assumption
  have e0 := h3.cell c0 (by simp)
  have ex := h3.cell sx (by simp)
  have es := h3.cell cs (by simp)
  have ez := h3.cell cz (by simp)
  go_wp2_with fail
  go_quiet (fail)
  go_wp2_with fail
  obtain ⟨W4, hW4⟩ : ∃ W4, w3.drewN nq = W4 := ⟨_, rfl⟩
  have h4 : w.grownBy W4 none := by rw [← hW4]; exact (HG.out.trans h3).trans (grown_drewN _ _ _)
  rw [hW4]
  have HB := Lib.hid (Rnd.start HH.out.2.2.2.2.1 HH.out.2.2.2.1 HH.out.2.2.2.2.2.2.1 (HC.out.grown (h3.trans (by rw [← hW4]; exact grown_drewN _ _ _))) h4 ((h3.trans (by rw [← hW4]; exact grown_drewN _ _ _)).cell cy (by simp)))
  clear hW4 e0 ex es ez cz cs sx p c0 c1
  refine wp_loop_ghost_k (fun gk a' wr => ∃ (u6 u7 u27 u28 u29 u30 u31 u32 u33 u34 u35 u36 u37 u38 u39 u40 u41 u42 u43 u44 u45 u46 : Value) (i : Nat) (ds : List Nat), (gk = z - i ∧ i ≤ z ∧ Rnd w wr l J Safe zs (some ⟨b1, o1, none⟩) c st x (s :: ss) (some ⟨b0, o0, none⟩) sc bc bp bs ds (ints (digsTo zs x s ss i))) ∧ a' = { tmps := #[.func (.yield l) #[] #[], .pointer (some ⟨bs, 0, none⟩), .pointer (some ⟨bp, 0, none⟩), .pointer (some ⟨bc, 0, none⟩), .pointer (some ⟨w.heap.size, 0, none⟩), .int .i64 (S : Int), u6, u7, .slice (some ⟨b0, o0, none⟩) (k + 1) sc, .int .i64 ((k : Int) + 1), .bool false, undef, undef, undef, .agg #[.slice (some ⟨b1, o1, none⟩) N c, .int .i64 st], .slice (some ⟨b0, o0, none⟩) (k + 1) sc, .pointer (some ⟨b0, o0, none⟩), .int .i64 (s : Int), .int .i64 (S : Int), .pointer (some ⟨bc, 0, none⟩), .slice (some ⟨b1, o1, none⟩) N c, .slice (some ⟨b0, o0, none⟩) (k + 1) sc, .pointer (some ⟨b0, o0, none⟩), .int .i64 (s : Int), .pointer (some ⟨b1, o1 + s, none⟩), .int .i64 (z : Int), .int .i64 (i : Int), u27, u28, u29, u30, u31, u32, u33, u34, u35, u36, u37, u38, u39, u40, u41, u42, u43, u44, u45, u46], defers := marks ds }) z ?_ ?_
  · exact ⟨_, _, _, _, _, _, _, _, _, _, _, _, _, _, _, _, _, _, _, _, _, _, 0, [], ⟨rfl, Nat.zero_le _, HB.out⟩, rfl⟩
  intro gk a' wr hinv J' K' hJ' hK'
  obtain ⟨u6, u7, u27, u28, u29, u30, u31, u32, u33, u34, u35, u36, u37, u38, u39, u40, u41, u42, u43, u44, u45, u46, i, ds, ⟨hgk, hiz, hrel⟩, rfl⟩ := hinv
  have HR := Lib.hid hrel; clear hrel HB
  have HGK := Lib.hid (And.intro hgk hiz); clear hgk hiz
  obtain ⟨d0, d1, dp, dx, _, _⟩ := HR.out.cap
  rw [HH.out.2.2.2.2.2.2.2.2] at d0
  simp only [List.length_cons] at dx
  rw [HH.out.2.2.2.2.2.2.2.1] at dx
  by_cases hiz : i < z
  · have hizB : decide (i < z) = true := by simpa using hiz
    have hz5 := HH.out.1 z (List.mem_of_getElem? HZ.out)
    have hS20 : S ≤ 20 := by
      have h1 := sum_le (l := zs.take s) (m := 5) (fun y hy => HH.out.1 y (List.mem_of_mem_take hy))
      have h2 := HH.out.2.1
      rw [List.length_take, HS.out] at h1
      omega
    have HA := Lib.hid (fun (W' : World) (hW' : wr.grownBy W' none) => by
      have hf := atoms_calls zs (some ⟨b1, o1, none⟩) c st W' (HR.out.cap.zn.grown hW') HH.out.1 HH.out.2.1
      rw [HH.out.2.2.2.2.2.2.2.2] at hf
      exact hf)
    obtain ⟨M, hM⟩ : ∃ M, sum zs = M := ⟨_, rfl⟩
    rw [hM] at HA
    have hM20 : M ≤ 20 := by
      have h1 := sum_le (l := zs) (m := 5) (fun y hy => HH.out.1 y hy)
      have h2 := HH.out.2.1
      rw [hM] at h1
      omega
    have hx400 : x ≤ 400 := by
      have h1 : 20 ^ (2 - k) ≤ 20 ^ 2 := Nat.pow_le_pow_right (by omega) (by omega)
      omega
    have HM := Lib.hid (And.intro hM hx); clear hM hx
    obtain ⟨D, hD⟩ : ∃ D, S + i = D := ⟨_, rfl⟩
    have hwr : IntKind.i64.wrap ((S : Int) + (i : Int)) = (D : Int) := by
      rw [IntWalk.i64_in _ (by omega)]; omega
    have hD25 : D ≤ 25 := by omega
    have HD := Lib.hid hD; clear hD
    have HNU := Lib.hid (fun (W' : World) (ad : Option Addr) (hW' : Nums W' ad 2 [x, D]) => number_calls M [x, D] ad 2 W' hW' (by omega) (by intro d hd; simp at hd; omega) (by
      intro m
      match m with
      | 0 => simp [num]
      | 1 => simp [num]; omega
      | m + 2 => simp [num]; have := Nat.mul_le_mul hx400 hM20; omega) (by simp))
    obtain ⟨X, hX⟩ : ∃ X, num M [x, D] = X := ⟨_, rfl⟩
    rw [hX] at HNU
    have HX := Lib.hid hX; clear hX
    go_wp2_with fail
    obtain ⟨sa2, hsb, hsl, htl⟩ := nums_tail (b := b0) (o := o0) (k := k) (sc := sc) (by have := HR.out.cap.sn.1; simp only [List.length_cons, HH.out.2.2.2.2.2.2.2.1] at this; exact this)
    have HSB := Lib.hid (And.intro hsb htl); clear hsb htl
    have dy := HR.out.yld
    go_region_held3 (fun w' => wr.grownBy w' none ∧ w'.cell? ⟨bc, 0, none⟩ = some (.slice (some ⟨b1, o1, none⟩) N c) ∧ w'.cell? ⟨bc, 1, none⟩ = some (.int .i64 st) ∧ w'.cell? ⟨bp, 0, none⟩ = some (.int .i64 (x : Int)) ∧ w'.cell? ⟨bs, 0, none⟩ = some (.slice (some ⟨b0, o0, none⟩) (k + 1) sc) ∧ w'.cell? ⟨w.heap.size, 0, none⟩ = some (.func (.yield l) #[] #[]))
      (first | exact ⟨⟨rfl, rfl, rfl, Nat.le_refl _, fun _ _ _ => rfl⟩, d0, d1, dp, dx, dy⟩ | (go_split_ands; exact held_next5 g3 (by assumption) (by assumption) (by assumption) (by assumption) (by assumption) (by assumption)) | (go_split_ands; exact held_next5 (World.grownBy_alloc _ _ none) (by assumption) (by assumption) (by assumption) (by assumption) (by assumption) (by assumption)) | assumption)
      (first | (go_at_call 34; refine (HA.out _ ?_).mono ?_; (go_split_ands; assumption); rintro e w3 ⟨rfl, g3⟩) | (go_at_call 89; refine (HNU.out _ _ ?_).mono ?_; (first | exact nums_two (grown_refl _ none) | exact nums_two' (by assumption)); rintro e w5 ⟨rfl, rfl⟩) | (go_at_call 113; refine (ranks_gets _ _ _ _ _ _ _ _ _).mono ?_; rintro e w6 ⟨b6, rfl, g3, k0, k1, k2, k3, k4, k5⟩; replace k0 : wr.heap.size ≤ b6 := Nat.le_trans (World.grownBy.size (by go_split_ands; assumption)) k0))
    all_goals
      have h6 : wr.grownBy w6 none := by go_split_ands; assumption
      have hk := HH.out.2.2.2.2.2.2.2.1
      have hN := HH.out.2.2.2.2.2.2.2.2
      have HC6 : Hid (Cap w6 zs (some ⟨b1, o1, none⟩) c st X ss sa2 (sc - 1) b6 (b6 + 1) (b6 + 2)) := Lib.hid ⟨by rw [hN]; exact k2, k3, k4, by rw [hk]; exact k5, HR.out.cap.zn.grown h6, HSB.out.2 w6 s ss hk (HR.out.cap.sn.grown h6)⟩
      have HR6 := Lib.hid (HR.out.grown HH.out.2.2.2.2.1 h6)
      have HXI : Hid (digsTo zs x s ss (i + 1) = digsTo zs x s ss i ++ digs zs X ss) := Lib.hid (by
        rw [digsTo_succ, ← HX.out]
        simp only [num, List.foldl_cons, List.foldl_nil, Nat.zero_mul, Nat.zero_add]
        rw [HM.out.1, HS.out, HD.out])
      have HX3 : Hid (X < 20 ^ (3 - ss.length)) := Lib.hid (by
        rw [hk, show 3 - k = (2 - k) + 1 by omega, Nat.pow_succ, ← HX.out]
        simp only [num, List.foldl_cons, List.foldl_nil, Nat.zero_mul, Nat.zero_add]
        have h1 := HM.out.2
        have h2 : x * M ≤ x * 20 := Nat.mul_le_mul_left _ hM20
        have h3 : D < 20 := by
          have h4 := sum_take_succ HZ.out
          have h5 := sum_take_mono zs (i := s + 1) (j := zs.length) (by omega)
          rw [List.take_length, HM.out.1] at h5
          have := HD.out; have := HS.out; omega
        omega)
      have HB6 := Lib.hid (And.intro k0 (And.intro k1 h6))
      clear k0 k1 k2 k3 k4 k5 h6 hk hN g3
      go_wp2_with fail
      refine wpIn_wide.1 (rangeYes (n := n) (gf := 130) (lb := #[.pointer (some ⟨b6 + 2, 0, none⟩), .pointer (some ⟨b6 + 1, 0, none⟩), .pointer (some ⟨b6, 0, none⟩)]) rfl rfl rfl trivial (enters_of Try.func130 (by kernel_rfl) rfl)
        (caps := capsOf (some ⟨b1, o1, none⟩) sa2 b6 (b6 + 1) (b6 + 2)) (xs := ints (digs zs X ss)) (fun W g => HH.out.2.2.1 X sa2 _ _ _ _ W HX3.out (HC6.out.grown g))
        (fun s' W' => Rnd w W' l J Safe zs (some ⟨b1, o1, none⟩) c st x (s :: ss) (some ⟨b0, o0, none⟩) sc bc bp bs ds (ints (digsTo zs x s ss i) ++ s')) Safe ?hI ?hcap (by rw [List.append_nil]; exact HR6.out) ?round ?done)
      case hI => exact Rnd.abide HH.out.2.2.2.2.1 (Nat.le_of_lt HR6.out.size) (fun E hE => (Array.getElem?_eq_some_iff.1 (HR6.out.mark E hE).2.1).1)
      case hcap =>
        intro b hb
        simp only [capsOf, List.mem_cons, List.mem_append, Option.mem_toList, HSB.out.1] at hb
        have hs6 := HR6.out.safe
        have hfr : ∀ b', wr.heap.size ≤ b' → b' < w6.heap.size → Safe w6 b' := fun b' h1 h2 => HH.out.2.2.2.2.1.fresh _ _ _ b' HR.out.inv (.of_none HB6.out.2.2) h1 h2
        have h1 := HB6.out.1
        have h2 := HB6.out.2.1
        rcases hb with rfl | rfl | rfl | hb | hb
        · exact hfr _ h1 (by omega)
        · exact hfr _ (by omega) (by omega)
        · exact hfr _ (by omega) (by omega)
        · exact hs6 b (by simp only [capsOf, List.mem_cons, List.mem_append, Option.mem_toList]; exact .inr (.inr (.inr (.inl hb))))
        · exact hs6 b (by simp only [capsOf, List.mem_cons, List.mem_append, Option.mem_toList]; exact .inr (.inr (.inr (.inr hb))))
      case round =>
        intro l' pre' x' W' hR' hpre
        clear HR6 HB6 HC6
        have HPR := Lib.hid hpre; clear hpre
        have HRP := Lib.hid hR'; clear hR'
        gi_wp2
        refine ⟨trivial, fun W2 hR2 => ?_⟩
        have HY := HH.out.2.2.2.2.2.1 (ints (digsTo zs x s ss i) ++ pre') x' W2 hR2.inv (by
          have h1 := List.IsPrefix.trans ((List.prefix_append_right_inj (ints (digsTo zs x s ss i))).2 HPR.out) (by
            have := digsTo_le zs x s ss (i := i + 1) (j := z) (by omega)
            rw [HXI.out] at this
            have h2 := List.IsPrefix.map Int.ofNat this
            rw [List.map_append] at h2
            exact h2)
          rw [digs_cons HZ.out, List.append_assoc]
          exact h1)
        obtain ⟨fn, tmps, assign, body, hy, hRI⟩ := HY
        have hyl := hR2.yld
        have HR2 := Lib.hid hR2; clear hR2
        gi_wp2
        refine ⟨fun h => (by cases h), ?_⟩
        refine (round_within hRI).mono ?_
        rintro e W3 ⟨rfl, hJ3, hs3⟩
        have HR3 := Lib.hid (And.intro (HR2.out.saved hs3 hJ3) hs3)
        clear hJ3 hs3
        gi_wp2
        rw [List.append_assoc] at HR3
        exact HR3.out
      case done =>
        intro D' W' hD' hR' hsD hdef
        have HM2 := Lib.hid (Rnd.mark_more HH.out.2.2.2.2.1 hR' (fun E hE => by have h1 := (Array.getElem?_eq_some_iff.1 (HR.out.mark E hE).2.1).1; have := HB6.out.2.2.size; omega) (by have := HR6.out.size; omega) hdef hsD)
        clear hR' hsD hdef
        have hzw : IntKind.i64.wrap ((i : Int) + 1) = ((i + 1 : Nat) : Int) := by rw [IntWalk.i64_in _ (by omega)]; rfl
        go_wp2_with fail
        refine Handed.intro (z - (i + 1)) (by have := HGK.out.1; omega) ?_
        go_step
        refine ⟨_, _, _, _, _, _, _, _, _, _, _, _, _, _, _, _, _, _, _, _, _, _, i + 1, D' :: ds, ⟨rfl, by omega, ?_⟩, rfl⟩
        rw [HXI.out, ints_append]
        exact HM2.out
  · have hie : i = z := by have := HGK.out.2; omega
    subst hie
    have hizB : decide (i < i) = false := by simp
    go_wp2_with fail
    exact leaves_marks HH.out.2.2.2.2.1 (fun W' h => ⟨_, results_none rfl _ _ _, ⟨_, rfl⟩, (by rw [digs_cons HZ.out]; exact h)⟩) ds wr HR.out.inv HR.out.nodup (fun E hE => ⟨(HR.out.mark E hE).1, (HR.out.mark E hE).2.1⟩)

theorem ranks_gives (zs : List Nat) (a : Option Addr) (c : Nat) (st : Int) (hz : ∀ z ∈ zs, z ≤ 5) (hl : zs.length ≤ 4) : ∀ (ss : List Nat), ss.length ≤ 3 → (∀ s ∈ ss, s < zs.length) → ∀ (x : Nat) (sa : Option Addr) (sc bc bp bs : Nat) (w : World), x < 20 ^ (3 - ss.length) →
    Cap w zs a c st x ss sa sc bc bp bs → Gives Fence.wide Try.prog 130 #[.pointer (some ⟨bs, 0, none⟩), .pointer (some ⟨bp, 0, none⟩), .pointer (some ⟨bc, 0, none⟩)] (capsOf a sa bc bp bs) (ints (digs zs x ss)) w
  | [], _, _, x, sa, sc, bc, bp, bs, w, _, h => ranks_none zs a c st x sa sc bc bp bs w h
  | s :: ss, hl3, hss, x, sa, sc, bc, bp, bs, w, hx, h =>
    ranks_some zs a c st hz hl s ss (by simp at hl3; omega) (hss s (by simp)) (fun x sa sc bc bp bs w hx h => ranks_gives zs a c st hz hl ss (by simp at hl3; omega) (fun s hs => hss s (by simp [hs])) x sa sc bc bp bs w hx h)
      x sa sc bc bp bs w (by simpa using hx) h
end Go.Proofs.Ytbddpjofhddilaa
/- Full: what holds between two ranks that it collects. -/
namespace Go.Proofs.Ytbddpjofhddilaa
open Go.RowKit Go.Shelf

abbrev intCells (l : List Int) : List Value := l.map fun (z : Int) => Value.int .i64 z
/-- The relation that is being made in block b; the result's cell is block r. -/
structure FuB (w wr : World) (b r B k : Nat) (s : List Int) : Prop where
  row : ∃ v, wr.cell? ⟨b, 1, none⟩ = some v ∧ wr.ownsRow B 3 1 v s.length (intCells s)
  c0 : wr.cell? ⟨b, 0, none⟩ = some (.int .i64 (k : Int))
  fr : wr.frozen? ⟨b, 1, none⟩ = false
  r0 : (wr.cell? ⟨r, 0, none⟩).isSome = true ∧ wr.frozen? ⟨r, 0, none⟩ = false
  r1 : (wr.cell? ⟨r, 1, none⟩).isSome = true ∧ wr.frozen? ⟨r, 1, none⟩ = false
  grown : w.grownBy wr none
  low : w.heap.size ≤ r ∧ r < b ∧ b < B ∧ B ≤ wr.heap.size
/-- The blocks that a round leaves alone. -/
def Alone (b : Nat) (W : World) (k : Nat) : Prop := k < W.heap.size ∧ k ≠ b ∧ ∃ v, W.cell? ⟨b, 1, none⟩ = some v ∧ v.ownBlock ≠ some k

theorem row_kept {w w' : World} {row : Option Nat} {B e size n : Nat} {v : Value} {xs : List Value} (h : w.ownsRow B e size v n xs) (hg : w.grownBy w' row) (hr : ∀ r, row = some r → ∃ o : Obj, w.heap[r]? = some o ∧ o.isCells = false) : w'.ownsRow B e size v n xs := by
  refine h.kept hg ?_
  rcases h.2 with ⟨rfl, _⟩ | ⟨g, cap, cur, rfl, _, hgb, _⟩
  · exact .inl rfl
  · refine .inr fun e' => ?_
    obtain ⟨o, ho, hc⟩ := hr g (by simpa [Value.ownBlock] using e'.symm)
    rw [hgb] at ho; cases ho; cases hc
theorem FuB.quiet {w A A' : World} {b r B k C : Nat} {s : List Int} (h : FuB w A b r B k s) (hC : w.heap.size ≤ C) (hq : Quiet C A A') : FuB w A' b r B k s := by
  obtain ⟨v, hv, hown⟩ := h.row
  have hc0 := hq.cell h.c0
  obtain ⟨u0, hu0⟩ := Option.isSome_iff_exists.1 h.r0.1
  obtain ⟨u1, hu1⟩ := Option.isSome_iff_exists.1 h.r1.1
  have h0 := hq.cell hu0
  have h1 := hq.cell hu1
  have hs := hq.size
  have hv' := hq.cell hv
  obtain ⟨row, hg, hr⟩ := hq
  refine ⟨⟨v, hv', row_kept hown hg (fun r e => (hr r e).2)⟩, hc0, (frozen_kept (a := ⟨b, 1, none⟩) hv hg (fun r e => (hr r e).2)).trans h.fr, ⟨by rw [h0]; rfl, (frozen_kept hu0 hg (fun r e => (hr r e).2)).trans h.r0.2⟩, ⟨by rw [h1]; rfl, (frozen_kept hu1 hg (fun r e => (hr r e).2)).trans h.r1.2⟩,
    grown_own h.grown hg (fun r e => Nat.le_trans hC (hr r e).1), h.low.1, h.low.2.1, h.low.2.2.1, Nat.le_trans h.low.2.2.2 hs⟩
theorem FuB.abide {w : World} {b r B k C : Nat} (hC : w.heap.size ≤ C) : Abide C (fun s W => FuB w W b r B k s) (Alone b) := by
  refine ⟨fun s A A' h hq => h.quiet hC hq, fun s A A' c h hq hs => ?_, fun s A A' c h hq h1 h2 => ?_⟩
  · obtain ⟨s1, s2, v, hv, hne⟩ := hs
    exact ⟨Nat.lt_of_lt_of_le s1 hq.size, s2, v, hq.cell hv, hne⟩
  · obtain ⟨v, hv, hown⟩ := h.row
    refine ⟨h2, fun e => ?_, v, hq.cell hv, fun e => ?_⟩
    · have := h.low; omega
    · have := (hown.lt c e).2; omega
theorem FuB.start (w : World) (k r : Nat) (W0 : World) (hg : w.grownBy W0 none) (hr : w.heap.size ≤ r ∧ r < W0.heap.size) (h0 : (W0.cell? ⟨r, 0, none⟩).isSome = true ∧ W0.frozen? ⟨r, 0, none⟩ = false) (h1 : (W0.cell? ⟨r, 1, none⟩).isSome = true ∧ W0.frozen? ⟨r, 1, none⟩ = false) :
    FuB w (W0.alloc (.cells #[.int .i64 (k : Int), .slice none 0 0] 53)) W0.heap.size r (W0.heap.size + 1) k [] := by
  have ga := World.grownBy_alloc W0 (.cells #[.int .i64 (k : Int), .slice none 0 0] 53) none
  obtain ⟨u0, hu0⟩ := Option.isSome_iff_exists.1 h0.1
  obtain ⟨u1, hu1⟩ := Option.isSome_iff_exists.1 h1.1
  refine ⟨⟨.slice none 0 0, by go_simp, World.ownsRow_nil _ _ _ _⟩, by go_simp, by go_simp, ⟨by rw [ga.cell hu0 (by simp)]; rfl, ?_⟩, ⟨by rw [ga.cell hu1 (by simp)]; rfl, ?_⟩, hg.trans ga, hr.1, hr.2, by omega, by simp⟩
  · exact (World.frozen?_of_block (a := ⟨r, 0, none⟩) (ga.block r hr.2 (by simp))).trans h0.2
  · exact (World.frozen?_of_block (a := ⟨r, 1, none⟩) (ga.block r hr.2 (by simp))).trans h1.2
theorem FuB.at_ {w wr w3 : World} {b r B k : Nat} {s : List Int} {v : Value} {o : Obj} (h : FuB w wr b r B k s) (hv : wr.cell? ⟨b, 1, none⟩ = some v) (hown : wr.ownsRow B 3 1 v s.length (intCells s)) (hg : (wr.alloc o).grownBy w3 v.ownBlock) :
    w3.cell? ⟨b, 1, none⟩ = some v ∧ w3.frozen? ⟨b, 1, none⟩ = false := by
  have hne : some b ≠ v.ownBlock := fun e => by have := (hown.lt b e.symm).1; have := h.low; omega
  have ha := World.grownBy_alloc wr o none
  have hlt := World.block_lt_of_cell? wr ⟨b, 1, none⟩ hv
  have e1 := ha.block b hlt (by simp)
  have e2 := hg.block b (Nat.lt_of_lt_of_le hlt ha.size) hne
  exact ⟨hg.cell (ha.cell hv (by simp)) hne, (World.frozen?_of_block (a := ⟨b, 1, none⟩) (e2.trans e1)).trans h.fr⟩
theorem FuB.step {w wr w3 : World} {b r B k : Nat} {s : List Int} {x : Int} {v v' : Value} {o : Obj} (h : FuB w wr b r B k s) (hv : wr.cell? ⟨b, 1, none⟩ = some v) (hown : wr.ownsRow B 3 1 v s.length (intCells s))
    (hg : (wr.alloc o).grownBy w3 v.ownBlock) (hown' : w3.ownsRow B 3 1 v' (s.length + 1) (intCells s ++ [.int .i64 x])) (hat : v'.ownBlock = v.ownBlock ∨ v'.ownBlock = some (wr.alloc o).heap.size) :
    FuB w (w3.setCell ⟨b, 1, none⟩ v') b r B k (s ++ [x]) ∧ Saved (Alone b) wr (w3.setCell ⟨b, 1, none⟩ v') := by
  have hlow := h.low
  have hne : ∀ j, j < B → some j ≠ v.ownBlock := fun j hj e => by have := (hown.lt j e.symm).1; omega
  have ha := World.grownBy_alloc wr o none
  have hcell : ∀ (j i : Nat) (u : Value), j < B → wr.cell? ⟨j, i, none⟩ = some u → w3.cell? ⟨j, i, none⟩ = some u := fun j i u hj hc => hg.cell (ha.cell hc (by simp)) (fun e => hne j hj e)
  have hblk : ∀ j, j < wr.heap.size → some j ≠ v.ownBlock → w3.heap[j]? = wr.heap[j]? := fun j hj e => (hg.block j (Nat.lt_of_lt_of_le hj ha.size) e).trans (ha.block j hj (by simp))
  have hfr : ∀ (j i : Nat), j < B → w3.frozen? ⟨j, i, none⟩ = wr.frozen? ⟨j, i, none⟩ := fun j i hj => World.frozen?_of_block (a := ⟨j, i, none⟩) (hblk j (by omega) (hne j hj))
  have hv3 := hcell b 1 v (by omega) hv
  have hset : (w3.setCell ⟨b, 1, none⟩ v').cell? ⟨b, 1, none⟩ = some v' := World.cell?_setCell_same' _ _ _ (by rw [hv3]; rfl)
  have hB : B ≤ w3.heap.size := by have h1 := ha.size; have h2 := hg.size; omega
  obtain ⟨u0, hu0⟩ := Option.isSome_iff_exists.1 h.r0.1
  obtain ⟨u1, hu1⟩ := Option.isSome_iff_exists.1 h.r1.1
  have hown2 : (w3.setCell ⟨b, 1, none⟩ v').ownsRow B 3 1 v' (s.length + 1) (intCells s ++ [.int .i64 x]) := hown'.kept (grown_set _ _ _ _) (own_ne hown' (by omega))
  refine ⟨⟨⟨v', hset, ?_⟩, ?_, ?_, ⟨?_, ?_⟩, ⟨?_, ?_⟩, ?_, hlow.1, hlow.2.1, hlow.2.2.1, by simpa [World.setCell] using hB⟩, ?_⟩
  · rw [List.length_append, intCells, List.map_append]; exact hown2
  · rw [World.cell?_setCell_other _ _ _ _ (by intro e; injection e with _ e1; omega)]; exact hcell b 0 _ (by omega) h.c0
  · rw [World.frozen?_setCell, hfr b 1 (by omega)]; exact h.fr
  · rw [World.cell?_setCell_other _ _ _ _ (by intro e; injection e with e1; omega), hcell r 0 u0 (by omega) hu0]; rfl
  · rw [World.frozen?_setCell, hfr r 0 (by omega)]; exact h.r0.2
  · rw [World.cell?_setCell_other _ _ _ _ (by intro e; injection e with e1; omega), hcell r 1 u1 (by omega) hu1]; rfl
  · rw [World.frozen?_setCell, hfr r 1 (by omega)]; exact h.r1.2
  · refine grown_own (grown_own (h.grown.trans ha) hg (fun j hj => ?_)) (grown_set _ _ _ _) (fun j hj => ?_)
    · have := (hown.lt j hj).1; omega
    · cases hj; omega
  · rintro j ⟨s1, s2, v0, hv0, hne0⟩
    rw [hv] at hv0
    injection hv0 with hv0
    subst hv0
    refine ⟨(Below.heap_setCell _ _ _ _ s2).trans (hblk j s1 (fun e => hne0 e.symm)), ?_, s2, v', hset, fun e => ?_⟩
    · have h1 := ha.size; have h2 := hg.size; simp [World.setCell]; omega
    · rcases hat with h1 | h1
      · exact hne0 (h1.symm.trans e)
      · rw [h1] at e; injection e with e; simp at e; omega
/-- A row of the call's own, as numbers that are read. -/
theorem own_ints {w : World} {B : Nat} {v : Value} {l : List Int} (h : w.ownsRow B 3 1 v l.length (intCells l)) : ∃ a c, v = .slice a l.length c ∧ Ints w a c l := by
  have hc := @World.ownsRow.cells w B 3 1 v l.length _ h
  rcases h.2 with ⟨hv, h0⟩ | ⟨g, cap, cur, rfl, hb, hg, hnc, hcm, _⟩
  · have hl : l = [] := List.eq_nil_of_length_eq_zero h0
    subst hl
    exact ⟨none, 0, hv, Nat.le_refl _, .inl ⟨rfl, rfl, rfl⟩⟩
  · refine ⟨_, _, rfl, hnc, .inr ⟨g, 0, rfl, (Array.getElem?_eq_some_iff.1 hg).1, fun j z hj => ?_⟩⟩
    have := hc (g := g) rfl j (.int .i64 z) (by rw [intCells, List.getElem?_map, hj]; rfl)
    have hadd : (⟨g, 0, none⟩ : Addr).add j = ⟨g, j, none⟩ := by unfold Addr.add; split <;> simp_all
    rw [hadd] at this
    rw [Nat.zero_add]; exact this
theorem digs_length {zs : List Nat} (hz : ∀ z ∈ zs, z ≤ 5) : ∀ (ss : List Nat) (x : Nat), (digs zs x ss).length ≤ 5 ^ ss.length
  | [], x => by simp [digs]
  | s :: ss, x => by
    have h5 : zs.getD s 0 ≤ 5 := by
      rw [List.getD_eq_getElem?_getD]
      cases h : zs[s]? with
      | none => simp
      | some z => exact hz z (List.mem_of_getElem? h)
    have h1 : ∀ m, ((List.range m).flatMap fun i => digs zs (x * sum zs + (sum (zs.take s) + i)) ss).length ≤ m * 5 ^ ss.length := by
      intro m
      induction m with
      | zero => simp
      | succ m ih =>
        rw [List.range_succ, List.flatMap_append, List.length_append, Nat.add_mul]
        have := digs_length hz ss (x * sum zs + (sum (zs.take s) + m))
        simp only [List.flatMap_cons, List.flatMap_nil, List.append_nil]
        omega
    have h2 := h1 (zs.getD s 0)
    have h3 : zs.getD s 0 * 5 ^ ss.length ≤ 5 * 5 ^ ss.length := Nat.mul_le_mul_right _ h5
    simp only [digs, List.length_cons, Nat.pow_succ]
    omega
end Go.Proofs.Ytbddpjofhddilaa
/- Full. -/
namespace Go.Proofs.Ytbddpjofhddilaa
open Go.RowKit Go.Shelf
attribute [local go_sem] Oper.semAt_some

/-- Full's columns fit: between one and three sorts. -/
def fits (m : Nat) (ss : List Int) : Bool := decide (ss.length ≠ 0 ∧ ss.length ≤ 3 ∧ ∀ s ∈ ss, 0 ≤ s ∧ s < (m : Int))
def fullK (m : Nat) (ss : List Int) : Nat := if fits m ss then ss.length else 0
def fullL (zs : List Nat) (ss : List Int) : List Int := if fits zs.length ss then ints (digs zs 0 (ss.map Int.toNat)) else []

theorem results28 (tmps : Array Value) (w : World) (b : Nat) (a : Option Addr) (n c : Nat) (x : Int) (ht : tmps.getD 4 undef = .pointer (some ⟨b, 0, none⟩)) (h0 : w.cell? ⟨b, 0, none⟩ = some (.int .i64 x)) (h1 : w.cell? ⟨b, 1, none⟩ = some (.slice a n c)) :
    (results Try.f65 tmps).run Try.prog w = .ok (.agg #[.int .i64 x, .slice a n c]) w := by
  have ht' : tmps[4]?.getD undef = .pointer (some ⟨b, 0, none⟩) := by simpa using ht
  simp [results, ht', go_sem, h0, h1, Result.andThen]

theorem fits_not {N : Nat} {ss : List Int} {s : Int} (hs : s ∈ ss) (h : s < 0 ∨ (N : Int) ≤ s) : fits N ss = false := by
  simp only [fits, decide_eq_false_iff_not]
  intro hq
  have := hq.2.2 s hs
  omega
/-- What Full answers of these columns. -/
def FullR (w : World) (zs : List Nat) (N : Nat) (ss : List Int) (e : Ending) (w' : World) : Prop :=
  ∃ ra rc, e = .returned (.agg #[.int .i64 (fullK N ss : Nat), .slice ra (fullL zs ss).length rc]) ∧ Ints w' ra rc (fullL zs ss) ∧ w.grownBy w' none
theorem full_zero {w W : World} {zs : List Nat} {N : Nat} {ss : List Int} (hN : zs.length = N) (hf : fits N ss = false) (hg : w.grownBy W none) : FullR w zs N ss (.returned (.agg #[.int .i64 0, .slice none 0 0])) W :=
  ⟨none, 0, by simp [fullK, fullL, hf, hN], by simp only [fullL, hN, hf]; exact ⟨Nat.le_refl _, .inl ⟨rfl, rfl, rfl⟩⟩, hg⟩
set_option maxRecDepth 100000 in
set_option maxHeartbeats 4000000 in
theorem full_calls (zs : List Nat) (a : Option Addr) (c : Nat) (st : Int) (ss : List Int) (ta : Option Addr) (tc : Nat) (w : World) (h : Nums w a c zs) (hz : ∀ z ∈ zs, z ≤ 5) (hl : zs.length ≤ 4) (ht : Ints w ta tc ss) (htl : ss.length ≤ 1000) :
    Calls Try.prog 65 #[.agg #[.slice a zs.length c, .int .i64 st], .slice ta ss.length tc] w (FullR w zs zs.length ss) := by
  obtain ⟨N, hN⟩ : ∃ N, zs.length = N := ⟨_, rfl⟩
  obtain ⟨k, hk⟩ : ∃ k, ss.length = k := ⟨_, rfl⟩
  have HH := Lib.hid (And.intro h (And.intro hz (And.intro hl (And.intro ht (And.intro hN hk)))))
  rw [hN] at hl ⊢
  rw [hk] at htl ⊢
  clear h hz ht hN hk
  obtain ⟨i0, hi0, hz0, hz1, hz2⟩ := info_parts info3
  refine callsIn_wide (n := 3) |>.1 ?_
  refine callsIn_of_wp_marks Try.func65 rfl trivial ?_ rfl
  simp only [Try.ntmps65, List.size_toArray, List.length_cons, List.length_nil, Nat.reduceAdd, Nat.reduceSub, Array.replicate_succ, Array.replicate_zero, List.push_toArray, List.append_toArray, List.nil_append, List.cons_append]
  refine wpIn_wide.2 ?_
  by_cases hk0 : k = 0
  · have dk : ((k : Int) == 0) = true := by simpa using hk0
    go_wp2_with fail
    exact ⟨_, results28 _ _ (w.heap.size + 1) none 0 0 0 rfl (by go_simp) (by go_simp), full_zero HH.out.2.2.2.2.1 (by simp only [fits, HH.out.2.2.2.2.2, hk0]; simp) ((World.grownBy_alloc _ _ none).trans (World.grownBy_alloc _ _ none))⟩
  by_cases hk3 : 3 < k
  · have dk : ((k : Int) == 0) = false := by simpa using hk0
    have dk3 : decide (3 < (k : Int)) = true := by simp; omega
    go_wp2_with fail
    exact ⟨_, results28 _ _ (w.heap.size + 1) none 0 0 0 rfl (by go_simp) (by go_simp), full_zero HH.out.2.2.2.2.1 (by simp only [fits, HH.out.2.2.2.2.2, decide_eq_false_iff_not]; intro hq; omega) ((World.grownBy_alloc _ _ none).trans (World.grownBy_alloc _ _ none))⟩
  have dk : ((k : Int) == 0) = false := by simpa using hk0
  have dk3 : decide (3 < (k : Int)) = false := by simp; omega
  go_wp2_with fail
  obtain ⟨b, hb⟩ : ∃ b, w.heap.size = b := ⟨_, rfl⟩
  obtain ⟨W0, hW0⟩ : ∃ W0, (w.alloc (.cells #[.slice a N c, .int .i64 st] 30)).alloc (.cells #[.int .i64 0, .slice none 0 0] 53) = W0 := ⟨_, rfl⟩
  have hg0 : w.grownBy W0 none := by rw [← hW0]; exact (World.grownBy_alloc _ _ none).trans (World.grownBy_alloc _ _ none)
  have c0 : W0.cell? ⟨b, 0, none⟩ = some (.slice a N c) := by rw [← hW0, ← hb]; clear hW0 hb; go_simp
  have c1 : W0.cell? ⟨b, 1, none⟩ = some (.int .i64 st) := by rw [← hW0, ← hb]; clear hW0 hb; go_simp
  have e0 : W0.cell? ⟨b + 1, 0, none⟩ = some (.int .i64 0) := by rw [← hW0, ← hb]; clear hW0 hb; go_simp
  have e1 : W0.cell? ⟨b + 1, 1, none⟩ = some (.slice none 0 0) := by rw [← hW0, ← hb]; clear hW0 hb; go_simp
  have ef : W0.frozen? ⟨b + 1, 0, none⟩ = false := by rw [← hW0, ← hb]; clear hW0 hb; go_simp
  have ef1 : W0.frozen? ⟨b + 1, 1, none⟩ = false := by rw [← hW0, ← hb]; clear hW0 hb; go_simp
  have hs0 : W0.heap.size = b + 2 := by rw [← hW0, ← hb]; simp
  rw [hW0]
  have HW0 := Lib.hid (And.intro hg0 (And.intro hs0 hb))
  rw [hb]
  clear hW0 hg0 hs0 hb
  go_loopg [20] k (fun gk s20 wr => ∃ i : Nat, s20 = .int .i64 (i : Int) ∧ gk = k - i ∧ i ≤ k ∧ wr = W0 ∧ ∀ s ∈ ss.take i, 0 ≤ s ∧ s < (N : Int))
  case atStart => exact ⟨0, rfl, rfl, Nat.zero_le _, rfl, fun s hs => by simp at hs⟩
  case round =>
    obtain ⟨i, rfl, hgk, hik, rfl, hall⟩ := hrel
    have HGK := Lib.hid (And.intro hgk (And.intro hik hall)); clear hgk hall
    by_cases hi : i < k
    · have hiB : decide (i < k) = true := by simpa using hi
      have hiI : (i : Int) < (k : Int) := by omega
      obtain ⟨s, hs⟩ : ∃ s, ss[i]? = some s := ⟨_, List.getElem?_eq_getElem (by have := HH.out.2.2.2.2.2; omega)⟩
      obtain ⟨tb, to, rfl, hcell⟩ : ∃ b o, ta = some ⟨b, o, none⟩ ∧ wr.cell? ⟨b, o + i, none⟩ = some (.int .i64 s) := by
        obtain ⟨_, ⟨h, _⟩ | ⟨b, o, ha, _, hc⟩⟩ := HH.out.2.2.2.1.grown HW0.out.1
        · rw [h] at hs; simp at hs
        · exact ⟨b, o, ha, hc i s hs⟩
      have HS := Lib.hid hs; clear hs
      by_cases hs0 : s < 0
      · have ds : decide (s < 0) = true := by simpa using hs0
        go_wp2_with fail
        have hb0 : (wr.setCell ⟨b + 1, 0, none⟩ (.int .i64 0)).cell? ⟨b + 1, 1, none⟩ = some (.slice none 0 0) := by
          rw [World.cell?_setCell_other _ _ _ _ (by intro e; injection e with _ e1; omega)]; exact e1
        have hb1 : ((wr.setCell ⟨b + 1, 0, none⟩ (.int .i64 0)).setCell ⟨b + 1, 1, none⟩ (.slice none 0 0)).cell? ⟨b + 1, 0, none⟩ = some (.int .i64 0) := by
          rw [World.cell?_setCell_other _ _ _ _ (by intro e; injection e with _ e1; omega)]; exact World.cell?_setCell_same _ _ _ e0
        have hb2 : ((wr.setCell ⟨b + 1, 0, none⟩ (.int .i64 0)).setCell ⟨b + 1, 1, none⟩ (.slice none 0 0)).cell? ⟨b + 1, 1, none⟩ = some (.slice none 0 0) := World.cell?_setCell_same _ _ _ hb0
        exact ⟨_, results28 _ _ (b + 1) none 0 0 0 rfl hb1 hb2, full_zero HH.out.2.2.2.2.1 (fits_not (List.mem_of_getElem? HS.out) (by omega)) (grown_own (grown_own HW0.out.1 (grown_set _ _ _ _) (fun j hj => by cases hj; have := HW0.out.2.2; omega)) (grown_set _ _ _ _) (fun j hj => by cases hj; have := HW0.out.2.2; omega))⟩
      have ds : decide (s < 0) = false := by simpa using hs0
      by_cases hsN : (N : Int) ≤ s
      · have dN : decide ((N : Int) ≤ s) = true := by simpa using hsN
        go_wp2_with fail
        have hb0 : (wr.setCell ⟨b + 1, 0, none⟩ (.int .i64 0)).cell? ⟨b + 1, 1, none⟩ = some (.slice none 0 0) := by
          rw [World.cell?_setCell_other _ _ _ _ (by intro e; injection e with _ e1; omega)]; exact e1
        have hb1 : ((wr.setCell ⟨b + 1, 0, none⟩ (.int .i64 0)).setCell ⟨b + 1, 1, none⟩ (.slice none 0 0)).cell? ⟨b + 1, 0, none⟩ = some (.int .i64 0) := by
          rw [World.cell?_setCell_other _ _ _ _ (by intro e; injection e with _ e1; omega)]; exact World.cell?_setCell_same _ _ _ e0
        have hb2 : ((wr.setCell ⟨b + 1, 0, none⟩ (.int .i64 0)).setCell ⟨b + 1, 1, none⟩ (.slice none 0 0)).cell? ⟨b + 1, 1, none⟩ = some (.slice none 0 0) := World.cell?_setCell_same _ _ _ hb0
        exact ⟨_, results28 _ _ (b + 1) none 0 0 0 rfl hb1 hb2, full_zero HH.out.2.2.2.2.1 (fits_not (List.mem_of_getElem? HS.out) (by omega)) (grown_own (grown_own HW0.out.1 (grown_set _ _ _ _) (fun j hj => by cases hj; have := HW0.out.2.2; omega)) (grown_set _ _ _ _) (fun j hj => by cases hj; have := HW0.out.2.2; omega))⟩
      have dN : decide ((N : Int) ≤ s) = false := by simpa using hsN
      go_wp2_with fail
      go_roundg (k - (i + 1))
      case measure => rw [HGK.out.1]; omega
      case rel =>
        refine ⟨i + 1, rfl, rfl, by omega, rfl, fun y hy => ?_⟩
        rw [List.take_add_one, HS.out, Option.toList_some, List.mem_append] at hy
        rcases hy with hy | hy
        · exact HGK.out.2.2 y hy
        · simp at hy; subst hy; omega
    · have hie : i = k := by omega
      subst hie
      have hiB : decide (i < i) = false := by simp
      have hall : ∀ s ∈ ss, 0 ≤ s ∧ s < (N : Int) := by
        have h1 := HGK.out.2.2
        rw [List.take_of_length_le (by rw [HH.out.2.2.2.2.2]; exact Nat.le_refl _)] at h1
        exact h1
      have HF0 := Lib.hid (FuB.start w i (b + 1) wr HW0.out.1 (by have := HW0.out.2; omega) ⟨by rw [e0]; rfl, ef⟩ ⟨by rw [e1]; rfl, ef1⟩)
      have hfit : fits N ss = true := by simp only [fits, decide_eq_true_eq, HH.out.2.2.2.2.2]; exact ⟨hk0, by omega, hall⟩
      obtain ⟨qs, hqs⟩ : ∃ qs : List Nat, ss.map Int.toNat = qs := ⟨_, rfl⟩
      have HQ : Hid (qs.length = i ∧ (∀ s ∈ qs, s < zs.length) ∧ Nums wr ta tc qs ∧ fullK N ss = i ∧ fullL zs ss = ints (digs zs 0 qs)) := Lib.hid ⟨by rw [← hqs, List.length_map]; exact HH.out.2.2.2.2.2, fun s hs => by
          rw [← hqs] at hs
          obtain ⟨y, hy, rfl⟩ := List.mem_map.1 hs
          have := hall y hy
          have := HH.out.2.2.2.2.1
          omega, by rw [← hqs]; exact (HH.out.2.2.2.1.grown HW0.out.1).nums (fun z hz => (hall z hz).1), by simp only [fullK, hfit, if_true]; exact HH.out.2.2.2.2.2, by simp only [fullL, HH.out.2.2.2.2.1, hfit, if_true, hqs]⟩
      have ga := World.grownBy_alloc wr (.cells #[.int .i64 (i : Int), .slice none 0 0] 53) none
      have a0 := ga.cell c0 (by simp)
      have a1 := ga.cell c1 (by simp)
      have HCN := Lib.hid (And.intro (HQ.out.2.2.1.grown ga) (HH.out.1.grown (HW0.out.1.trans ga)))
      clear hall hfit hqs e0 e1 ef ef1 c0 c1 ga
      go_wp2_with fail
      refine (ranks_gets 0 a ta N c i tc st _).mono ?_
      rintro e w6 ⟨b6, rfl, g6, k0, k1, k2, k3, k4, k5⟩
      have hN := HH.out.2.2.2.2.1
      have hqi := HQ.out.1
      have HC6 : Hid (Cap w6 zs a c st 0 qs ta tc b6 (b6 + 1) (b6 + 2)) := Lib.hid ⟨by rw [hN]; exact k2, k3, k4, by rw [hqi]; exact k5, HCN.out.2.grown g6, HCN.out.1.grown g6⟩
      have HB6 := Lib.hid (And.intro k0 (And.intro k1 g6))
      have HF6 := Lib.hid (HF0.out.quiet (C := w.heap.size) (Nat.le_refl _) (.of_none g6))
      have hsz : wr.heap.size = b + 2 := HW0.out.2.1
      rw [hsz] at HF0 HF6
      have HB5 : Hid (b + 3 ≤ b6 ∧ b6 + 2 < w6.heap.size) := Lib.hid ⟨by have := HB6.out.1; rw [World.size_alloc, hsz] at this; omega, HB6.out.2.1⟩
      clear k0 k1 k2 k3 k4 k5 g6 a0 a1 hN hqi
      go_wp2_with fail
      clear hsz
      refine wpIn_wide.1 (rangeYes (n := 3) (gf := 130) (lb := #[.pointer (some ⟨b6 + 2, 0, none⟩), .pointer (some ⟨b6 + 1, 0, none⟩), .pointer (some ⟨b6, 0, none⟩)]) rfl rfl rfl trivial (enters_of Try.func130 (by kernel_rfl) rfl)
        (caps := capsOf a ta b6 (b6 + 1) (b6 + 2)) (xs := ints (digs zs 0 qs)) (fun W g => ranks_gives zs a c st HH.out.2.1 HH.out.2.2.1 qs (by have := HQ.out.1; omega) HQ.out.2.1 0 ta tc _ _ _ W (Nat.pow_pos (by omega)) (HC6.out.grown g))
        (fun s W => FuB w W (b + 2) (b + 1) (b + 3) i s) (Alone (b + 2)) (FuB.abide (Nat.le_trans HF0.out.grown.size HB6.out.2.2.size)) ?hcap HF6.out ?round ?done)
      case hcap =>
        intro b' hb'
        simp only [capsOf, List.mem_cons, List.mem_append, Option.mem_toList] at hb'
        have hfr : ∀ b', b + 3 ≤ b' → b' < w6.heap.size → Alone (b + 2) w6 b' := fun b' h1 h2 => (FuB.abide (C := w.heap.size) (Nat.le_refl _)).fresh _ _ _ b' HF0.out (.of_none HB6.out.2.2) (by have := HW0.out.2.1; rw [World.size_alloc, this]; omega) h2
        have hold : ∀ b', b' < b → Alone (b + 2) w6 b' := fun b' h1 => by
          obtain ⟨v, hv, hown⟩ := HF6.out.row
          refine ⟨by have := HB5.out; omega, by omega, v, hv, fun e => ?_⟩
          have := (hown.lt b' e).1
          omega
        have h1 := HB5.out
        have hwb := HW0.out.2.2
        rcases hb' with rfl | rfl | rfl | hb' | hb'
        · exact hfr _ h1.1 (by omega)
        · exact hfr _ (by omega) (by omega)
        · exact hfr _ (by omega) h1.2
        · refine hold b' ?_
          obtain ⟨_, ⟨_, h, _⟩ | ⟨b2, o2, ha, hb2, _⟩⟩ := HH.out.1
          · rw [h] at hb'; cases hb'
          · rw [ha] at hb'; simp at hb'; omega
        · refine hold b' ?_
          obtain ⟨_, ⟨_, h, _⟩ | ⟨b2, o2, ha, hb2, _⟩⟩ := HH.out.2.2.2.1
          · rw [h] at hb'; cases hb'
          · rw [ha] at hb'; simp at hb'; omega
      case round =>
        intro l' pre x W hF hpre
        have HPL : Hid (pre.length ≤ 125) := Lib.hid (by
          have h1 := hpre.length_le
          have h2 := digs_length HH.out.2.1 qs 0
          have h3 : 5 ^ qs.length ≤ 5 ^ 3 := Nat.pow_le_pow_right (by omega) (by have := HQ.out.1; omega)
          simp only [List.length_append, List.length_map, List.length_cons, List.length_nil] at h1
          omega)
        clear hF hpre
        gi_wp2
        refine ⟨trivial, fun W2 hF2 => ?_⟩
        obtain ⟨v, hv, hown⟩ := hF2.row
        obtain ⟨va, vc, rfl⟩ := own_shape hown
        have HO := Lib.hid hown; clear hown
        have HF2 := Lib.hid hF2; clear hF2
        have hpl := HPL.out
        have hB2 := HF2.out.low.2.2.2
        gi_wp2_with (gi_at_builtin; refine wpListIn_append_own_at _ rfl _ _ 28 rfl (b + 3) 3 i0 (.int .i64 0) 1 8 Try.underlying28 hi0 hz0 hz1 hz2 rfl (by decide) _ _ _ rfl (HO.out.alloc _) ⟨W2.heap.size, 0, none⟩ 1 1 [.int .i64 x] rfl rfl (cell_one_new _ _ _) (fun u hu => by simp at hu; subst hu; rfl) (by unfold maxLen; omega) (by omega) (by simp; omega) ?_; intro v' w3 hown' hgrow3 hnil3 hat3; obtain ⟨g', cap', rfl⟩ := own_shape hown'; obtain ⟨hs1, hs2⟩ := HF2.out.at_ hv HO.out hgrow3)
        exact HF2.out.step hv HO.out hgrow3 hown' hat3
      case done =>
        intro D W hD hF hsD hdef
        obtain ⟨v, hv, hown⟩ := hF.row
        obtain ⟨va, vc, rfl, hints⟩ := own_ints hown
        have c0 := hF.c0
        obtain ⟨u0, hu0⟩ := Option.isSome_iff_exists.1 hF.r0.1
        obtain ⟨u1, hu1⟩ := Option.isSome_iff_exists.1 hF.r1.1
        have f0 := hF.r0.2
        have f1 := hF.r1.2
        have HF := Lib.hid hF; clear hF
        have HI := Lib.hid (And.intro hown hints); clear hown hints
        have HD := Lib.hid (And.intro hD hdef); clear hD hdef hsD
        obtain ⟨n, hn⟩ : ∃ n, (ints (digs zs 0 qs)).length = n := ⟨_, rfl⟩
        rw [hn] at hv
        have HN := Lib.hid hn; clear hn
        go_wp2_with fail
        have hb0 : (W.setCell ⟨b + 1, 0, none⟩ (.int .i64 (i : Int))).cell? ⟨b + 1, 1, none⟩ = some u1 := by
          rw [World.cell?_setCell_other _ _ _ _ (by intro e; injection e with _ e1; omega)]; exact hu1
        have hb1 : ((W.setCell ⟨b + 1, 0, none⟩ (.int .i64 (i : Int))).setCell ⟨b + 1, 1, none⟩ (.slice va n vc)).cell? ⟨b + 1, 0, none⟩ = some (.int .i64 (i : Int)) := by
          rw [World.cell?_setCell_other _ _ _ _ (by intro e; injection e with _ e1; omega)]; exact World.cell?_setCell_same _ _ _ hu0
        have hb2 : ((W.setCell ⟨b + 1, 0, none⟩ (.int .i64 (i : Int))).setCell ⟨b + 1, 1, none⟩ (.slice va n vc)).cell? ⟨b + 1, 1, none⟩ = some (.slice va n vc) := World.cell?_setCell_same _ _ _ hb0
        have hDb : b + 1 ≠ D := by have := HD.out.1; have := HB5.out; omega
        have hdef2 : ((W.setCell ⟨b + 1, 0, none⟩ (.int .i64 (i : Int))).setCell ⟨b + 1, 1, none⟩ (.slice va n vc)).heap[D]? = some (.deferred (some [])) :=
          ((Below.heap_setCell _ _ _ _ (fun e => hDb e.symm)).trans (Below.heap_setCell _ _ _ _ (fun e => hDb e.symm))).trans HD.out.2
        have hk1 := HI.out.1.kept (grown_set W (b + 1) 0 (.int .i64 (i : Int))) (own_ne HI.out.1 (by omega))
        have hk2 := hk1.kept (grown_set _ (b + 1) 1 (.slice va n vc)) (own_ne hk1 (by omega))
        have hk3 := row_kept hk2 (grownBy_putObj' _ D (.deferred none)) (fun r e => by cases e; exact ⟨_, hdef2, rfl⟩)
        obtain ⟨a', c', he, hnm⟩ := own_ints hk3
        injection he with e1 e2 e3
        subst e1; subst e3
        refine ⟨by simp, .inl ⟨D, _, rfl, run_takeDeferred hdef2, _, results28 _ _ (b + 1) va n vc i rfl ((World.cell?_of_block (a := ⟨b + 1, 0, none⟩) (World.putObj_heap_other hDb)).trans hb1) ((World.cell?_of_block (a := ⟨b + 1, 1, none⟩) (World.putObj_heap_other hDb)).trans hb2), ?_⟩⟩
        have hq := HQ.out.2.2.2
        refine ⟨va, vc, by rw [hq.1, hq.2, HN.out], by rw [hq.2]; exact hnm, ?_⟩
        have hwb := HW0.out.2.2
        exact grown_own (grown_own (grown_own HF.out.grown (grown_set _ _ _ _) (fun j hj => by cases hj; omega)) (grown_set _ _ _ _) (fun j hj => by cases hj; omega)) (grownBy_putObj' _ D _) (fun j hj => by cases hj; have := HD.out.1; have := HB5.out; omega)
end Go.Proofs.Ytbddpjofhddilaa
