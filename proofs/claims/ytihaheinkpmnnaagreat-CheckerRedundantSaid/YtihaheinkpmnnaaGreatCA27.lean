/- Texts of the proof: LF. -/
import Derived.Test.YtihaheinkpmnnaaGreatCA25
import Derived.Test.YtihaheinkpmnnaaGreatCA26
namespace Go.Proofs.YtihaheinkpmnnaaGreat
set_option maxRecDepth 200000
open Go.RowKit Go.Shelf Go.Maps Go.Sort
theorem BoxM.vars {w0 : World} {K : Kst} {b : Nat} {s : CkS} {N : Nat} {v : Value} {bm : Nat} {ps : List Nr} {w : World} (h : BoxM w0 K b s N v bm ps w) (d : Nat) : BoxM w0 K b (d, s.2) N v bm ps (w.setCell ⟨b, 5, none⟩ (.int .i64 (d : Int))) := by
  have hset : w.grownBy (w.setCell ⟨b, 5, none⟩ (.int .i64 (d : Int))) (some b) := grown_set w b 5 _
  refine ⟨by rw [heap_setCell_at h.hp]; rfl, h.low, h.mlow, h.map.kept hset (fun e => h.map.ne_cells h.hp (by cases e; rfl)), ?_, h.eqs, fun q hq => ?_, grown_own h.grown hset (fun k e => by cases e; exact h.low), h.oth.step hset (fun g e => by cases e; exact .inr ⟨_, _, _, h.hp⟩), h.hbm⟩
  · refine h.row.kept hset ?_
    rcases h.row.2 with ⟨e, _⟩ | ⟨g, cap, cur, e, _, hg, _⟩
    · exact .inl (by rw [e]; rfl)
    · refine .inr fun e2 => ?_
      rw [e] at e2; cases e2
      rw [h.hp] at hg; cases hg
  · exact (h.ok q hq).keep hset fun g e => by cases e; exact ⟨h.low, fun cur fr e => by rw [h.hp] at e; cases e⟩
/-- The clauses lie elsewhere than a row of integers that is being made. -/
def AwayP (ps : List Nr) (lv : Value) : Prop := ∀ p ∈ ps, p.2.2 = [] ∨ ∃ k o, p.1 = some ⟨k, o, none⟩ ∧ some k ≠ lv.ownBlock
theorem Ok3.keepA {B : Nat} {w w' : World} {p : Nr} (h : Ok3 B w p) {row : Option Nat} (hg : w.grownBy w' row) (hr : p.2.2 = [] ∨ ∃ k o, p.1 = some ⟨k, o, none⟩ ∧ some k ≠ row) : Ok3 B w' p := by
  obtain ⟨h1, h2⟩ := h
  by_cases hl : p.2.2 = []
  · exact ⟨⟨h1.1, .inl hl⟩, .inl hl⟩
  · obtain ⟨k, o, ha, hne⟩ := hr.resolve_left hl
    have hkl : k < w.heap.size := by
      rcases ints_lt h1 with h | ⟨k', o', e, h⟩
      · exact absurd h hl
      · rw [ha] at e; cases e; exact h
    have hb := hg.block k hkl hne
    refine ⟨⟨h1.1, ?_⟩, .inr ⟨k, o, ha, ?_⟩⟩
    · rcases h1.2 with h | ⟨b, o', e, hz⟩
      · exact absurd h hl
      · rw [ha] at e; cases e
        exact .inr ⟨k, o, ha, fun j z hj => (World.cell?_of_block hb).trans (hz j z hj)⟩
    · rcases h2 with h | ⟨k', o', e, hk⟩
      · exact absurd h hl
      · rw [ha] at e; cases e
        exact hk.imp id fun ⟨cur, fr, h⟩ => ⟨cur, fr, hb.trans h⟩
/-- The row that is being made is turned. -/
theorem BoxM.turn {w0 : World} {K : Kst} {b : Nat} {s : CkS} {N : Nat} {v : Value} {bm : Nat} {ps : List Nr} {w w' : World} (h : BoxM w0 K b s N v bm ps w) {lv : Value} {n : Nat} {xs : List Value} (hl : w.ownsRow w0.heap.size 3 1 lv n xs) (ha : AwayP ps lv) (hg : w.grownBy w' lv.ownBlock) : BoxM w0 K b s N v bm ps w' := by
  have hcur : ∀ g, lv.ownBlock = some g → w0.heap.size ≤ g ∧ ∃ cur, w.heap[g]? = some (.cells cur 3 (0, 0)) := fun g e => by
    rcases hl.2 with ⟨e2, _⟩ | ⟨g', cap, cur, e2, hB, hb, _⟩
    · rw [e2] at e; cases e
    · rw [e2] at e; cases e; exact ⟨hB, cur, hb⟩
  refine ⟨(hg.block b (Array.getElem?_eq_some_iff.1 h.hp).1 (fun e => ?_)).trans h.hp, h.low, h.mlow, h.map.kept hg (fun e => ?_), h.row.kept hg ?_, h.eqs, fun p hp => (h.ok p hp).keepA hg (ha p hp), grown_own h.grown hg (fun k e => (hcur k e).1), h.oth.step hg (fun g e => .inr (by obtain ⟨_, cur, hc⟩ := hcur g e; exact ⟨_, _, _, hc⟩)), h.hbm⟩
  · obtain ⟨_, cur, hc⟩ := hcur b e.symm
    rw [h.hp] at hc; cases hc
  · obtain ⟨_, cur, hc⟩ := hcur bm e.symm
    exact h.map.ne_cells hc rfl
  · rcases h.row.2 with ⟨e, _⟩ | ⟨g, cap, cur, e, _, hb, _⟩
    · exact .inl (by rw [e]; rfl)
    · refine .inr fun e2 => ?_
      rw [e] at e2
      obtain ⟨_, cur', hc⟩ := hcur g e2.symm
      rw [hb] at hc; cases hc
theorem own3_keep {w w' : World} {B n : Nat} {lv : Value} {xs : List Value} (h : w.ownsRow B 3 1 lv n xs) {row : Option Nat} (hg : w.grownBy w' row) (hr : ∀ g, row = some g → ∀ cur fr, w.heap[g]? ≠ some (.cells cur 3 fr)) : w'.ownsRow B 3 1 lv n xs := by
  refine h.kept hg ?_
  rcases h.2 with ⟨e, _⟩ | ⟨g, cap, cur, e, _, hb, _⟩
  · exact .inl (by rw [e]; rfl)
  · refine .inr fun e2 => ?_
    rw [e] at e2
    exact hr g e2.symm _ _ hb
theorem away_new {w0 : World} {K : Kst} {b : Nat} {s : CkS} {N : Nat} {v : Value} {bm : Nat} {ps : List Nr} {w : World} (h : BoxM w0 K b s N v bm ps w) {lv : Value} (hl : ∀ g, lv.ownBlock = some g → w.heap.size ≤ g) : AwayP ps lv := fun p hp =>
  (ints_lt (h.ok p hp).1).imp id fun ⟨k, o, e, hk⟩ => ⟨k, o, e, fun e2 => by have := hl k e2.symm; omega⟩
def negC (d : Int) (t : List Int) : List (List Int) := t.map fun x => [-d, x]
theorem info3' : (Tryz.prog.info? 3).map (fun i => (i.zero, i.size, i.bytes)) = some (some (.int .i64 0), 1, 8) := by kernel_rfl
set_option maxHeartbeats 16000000 in
theorem define_calls {w0 : World} {K : Kst} {b : Nat} {s : CkS} {N : Nat} {w : World} (h : StM w0 K b s N w) {x : St} {la : Option Addr} {lc : Nat} (hf : Fine w0 s N x la lc) {t : List Int} (hx : x.2.1 = ((s.1 : Int) + 1) :: t) (ht : t ≠ []) (htr : ∀ y ∈ t, InR s.1 y) :
    Calls Tryz.prog 47 #[.pointer (some ⟨b, 0, none⟩), .agg #[.int .i64 x.1, .slice la x.2.1.length lc, .int .i64 x.2.2]] w fun e w' =>
      e = .returned (.bool true) ∧ StM w0 K b (s.1 + 1, s.2 ++ defC ((s.1 : Int) + 1) t) (N + 1) w' := by
  obtain ⟨v, bm, ps, hB⟩ := h
  obtain ⟨ln, hln⟩ : ∃ z, x.2.1.length = z := ⟨_, rfl⟩
  obtain ⟨tn, htn⟩ : ∃ z, t.length = z := ⟨_, rfl⟩
  have hlt : ln = tn + 1 := by rw [← hln, hx, List.length_cons, htn]
  have htn0 : 0 < tn := by rw [← htn]; exact List.length_pos_iff.2 ht
  subst hlt
  obtain ⟨bx, hbx⟩ : ∃ z, w.heap.size = z := ⟨_, rfl⟩
  obtain ⟨W1, hW1⟩ : ∃ z, w.alloc (.cells #[.int .i64 x.1, .slice la (tn + 1) lc, .int .i64 x.2.2] 46) = z := ⟨_, rfl⟩
  have hw1 : w.grownBy W1 none ∧ W1.heap[bx]? = some (.cells #[.int .i64 x.1, .slice la (tn + 1) lc, .int .i64 x.2.2] 46 (0, 0)) := by
    rw [← hW1, ← hbx]; exact ⟨World.grownBy_alloc _ _ none, World.alloc_heap_new w _⟩
  have hB1 := hB.later hw1.1
  have hB2 := hB1.vars (s.1 + 1)
  have e5 : (((s.1 + 1 : Nat)) : Int) = (s.1 : Int) + 1 := by omega
  rw [e5] at hB2
  obtain ⟨c0, c1, c2, c3, c4, c5, cf⟩ := hB1.cells
  have hs400 : s.1 ≤ 400 := by have := hf.fit.vars; omega
  have q1 : W1.cell? ⟨bx, 1, none⟩ = some (.slice la (tn + 1) lc) := by simp [World.cell?, hw1.2]
  have hbne : bx ≠ b := fun e => by
    have := hw1.2
    subst e; rw [hB1.hp] at this; injection this with h5; injection h5 with _ h6; exact absurd h6 (by decide)
  obtain ⟨lb, lo, rfl, hl0⟩ := ((hf.ints.grown hB.grown).grown hw1.1).at (i := 0) (z := (s.1 : Int) + 1) (by rw [hx]; rfl)
  rw [Nat.add_zero] at hl0
  have hlc : tn + 1 ≤ lc := by have := hf.ints.1; rw [hln] at this; exact this
  obtain ⟨W2, hW2⟩ : ∃ z, W1.setCell ⟨b, 5, none⟩ (.int .i64 ((s.1 : Int) + 1)) = z := ⟨_, rfl⟩
  rw [hW2] at hB2
  have hg2 : W1.grownBy W2 (some b) := by rw [← hW2]; exact grown_set W1 b 5 _
  have q2 : W2.cell? ⟨bx, 1, none⟩ = some (.slice (some ⟨lb, lo, none⟩) (tn + 1) lc) := hg2.cell q1 (by simp; exact hbne)
  obtain ⟨ll, hll⟩ : ∃ z, W2.heap.size = z := ⟨_, rfl⟩
  obtain ⟨W3, hW3⟩ : ∃ z, W2.alloc (.cells #[.int .i64 ((s.1 : Int) + 1)] 3) = z := ⟨_, rfl⟩
  have hg3 : W2.grownBy W3 none := by rw [← hW3]; exact World.grownBy_alloc _ _ none
  have hlast : W3.ownsRow w0.heap.size 3 1 (.slice (some ⟨ll, 0, none⟩) 1 1) 1 (intCells [(s.1 : Int) + 1]) := by
    refine ⟨rfl, .inr ⟨ll, 1, #[.int .i64 ((s.1 : Int) + 1)], rfl, by rw [← hll]; exact hB2.grown.size, ?_, Nat.le_refl _, by decide, rfl, rfl⟩⟩
    rw [← hW3, ← hll]; exact World.alloc_heap_new W2 _
  have hB3 := hB2.later hg3
  have haw : AwayP ps (.slice (some ⟨ll, 0, none⟩) 1 1) := away_new hB2 (fun g e => by cases e; exact Nat.le_of_eq hll)
  have HF := Lib.hid (And.intro hf (And.intro hln (And.intro htn (And.intro hx htr))))
  have HB3 := Lib.hid (And.intro hB3 (And.intro hlast haw))
  have HBX := Lib.hid (And.intro hbne (hg3.cell q2 (by simp)))
  rw [hln]
  have q3 := hg3.cell q2 (by simp)
  have cl1 : ¬ (lc : Int) = 1 := by omega
  have htl : tn ≤ 11 := by have := hf.len; omega
  clear hB hB1 hB2 hB3 hw1 hln htn hf hx ht htr c0 c1 c2 c3 c4 hg2 hg3 hlast haw hbne
  have cf5 := cf 5
  clear cf
  go_enter Tryz.func47, Tryz.ntmps47
  go_wp2_with fail
  clear hW1 hW2 hW3 hbx hll q1 q2 q3 c5 cf5 hl0
  obtain ⟨d, hd⟩ : ∃ z, (s.1 : Int) + 1 = z := ⟨_, rfl⟩
  have HD := Lib.hid hd
  have hdb : 0 < d ∧ d ≤ 401 := by omega
  rw [hd] at HB3 ⊢
  clear hd
  obtain ⟨i0, hi0, hz0, hz1, hz2⟩ := info_parts info3'
  obtain ⟨j0, hj0, hy0, hy1, hy2⟩ := info_parts info34
  have hwd : IntKind.i64.wrap (-d) = -d := IntWalk.i64_in _ (by omega)
  go_loopg [6, 8, 23] tn (fun gk s6 _s8 s23 wr => ∃ (k : Nat) (v : Value) (ps : List Nr) (ra : Option Addr) (rc : Nat), s23 = .int .i64 (k : Int) ∧ s6 = .slice ra (k + 1) rc ∧ gk = tn - k ∧ k ≤ tn ∧ BoxM w0 K b (s.1 + 1, s.2 ++ negC d (t.take k)) N v bm ps wr ∧ wr.ownsRow w0.heap.size 3 1 (.slice ra (k + 1) rc) (k + 1) (intCells (d :: (t.take k).map (fun x => -x))) ∧ AwayP ps (.slice ra (k + 1) rc))
  case atStart => exact ⟨0, v, ps, _, _, rfl, rfl, rfl, by omega, by have := HB3.out.1; simpa [negC] using this, HB3.out.2.1, HB3.out.2.2⟩
  case round =>
    obtain ⟨k, v, ps, ra, rc, rfl, rfl, hgk, hk, hB, hlast, haw⟩ := hrel
    obtain ⟨cn, hcn⟩ : ∃ z, (s.2 ++ negC d (t.take k)).length = z := ⟨_, rfl⟩
    have hcnb : cn ≤ 1000 := by
      rw [← hcn]; unfold negC; rw [List.length_append, List.length_map, List.length_take]; have := HF.out.1.fit.len; omega
    obtain ⟨va, vc, rfl, _⟩ := hB.shape
    simp only [hcn] at hB
    have c4 := hB.cells.2.2.2.2.1
    have cf4 := hB.cells.2.2.2.2.2.2 4
    have HI := Lib.hid (And.intro hB (And.intro hlast (And.intro haw (And.intro hgk hcn))))
    clear hB hlast haw hgk hcn
    by_cases hkn : k < tn
    · have f1 : decide ((k : Int) < (tn : Int)) = true := decide_eq_true (by omega)
      have f1' : decide (k < tn) = true := decide_eq_true hkn
      have i0' : (0 : Int) ≤ (k : Int) := by omega
      have i1 : (k : Int) < (tn : Int) := by omega
      have k1 : IntKind.i64.wrap ((k : Int) + 1) = (k : Int) + 1 := IntWalk.i64_in _ (by omega)
      obtain ⟨y, hy⟩ : ∃ z, t[k]? = some z := ⟨_, List.getElem?_eq_getElem (by rw [HF.out.2.2.1]; exact hkn)⟩
      have hyr := HF.out.2.2.2.2 y (List.mem_of_getElem? hy)
      have hyw : IntKind.i64.wrap (-y) = -y := IntWalk.i64_in _ (by have := hyr.2.1; have := hyr.2.2; omega)
      obtain ⟨lb', lo', e', hcell⟩ := (HF.out.1.ints.grown HI.out.1.grown).at (i := k + 1) (z := y) (by rw [HF.out.2.2.2.1]; exact hy)
      cases e'
      rw [show lo + (k + 1) = lo + 1 + k by omega] at hcell
      have HY := Lib.hid hy
      clear hy hyr
      obtain ⟨a1, ha1⟩ : ∃ z, wr.heap.size = z := ⟨_, rfl⟩
      obtain ⟨W5, hW5⟩ : ∃ z, (wr.alloc (.cells #[.int .i64 (-d), .int .i64 y] 3)).alloc (.cells #[.slice (some ⟨a1, 0, none⟩) 2 2] 34) = z := ⟨_, rfl⟩
      have hw5 : wr.grownBy W5 none ∧ W5.heap[a1]? = some (.cells #[.int .i64 (-d), .int .i64 y] 3 (0, 0)) ∧ (∀ j u, [Value.slice (some ⟨a1, 0, none⟩) 2 2][j]? = some u → W5.cell? ((⟨a1 + 1, 0, none⟩ : Addr).add j) = some u) := by
        rw [← hW5, ← ha1]
        refine ⟨(World.grownBy_alloc _ _ none).trans (World.grownBy_alloc _ _ none), (Below.heap_alloc _ _ _ (by simp)).trans (World.alloc_heap_new wr _), ?_⟩
        have := cell_one_new (wr.alloc (.cells #[.int .i64 (-d), .int .i64 y] 3)) (Value.slice (some ⟨wr.heap.size, 0, none⟩) 2 2) 34
        simpa using this
      have HW5 := Lib.hid hw5
      clear hw5
      have HROW : Hid (W5.ownsRow w0.heap.size 34 1 (.slice va cn vc) cn (ps.map encP)) := Lib.hid (by
        have := own_grown HI.out.1.row HW5.out.1
        rwa [show (s.1 + 1, s.2 ++ negC d (t.take k)).2.length = cn from HI.out.2.2.2.2] at this)
      have hgx : w0.heap.size ≤ W5.heap.size := (HI.out.1.grown.trans HW5.out.1).size
      go_wp2_with (at_builtin; refine wpList_append_own _ rfl _ _ 22 rfl w0.heap.size 34 j0 (.slice none 0 0) 1 24 Tryz.underlying22 hj0 hy0 hy1 hy2 rfl (by decide) _ _ _ rfl HROW.out ⟨a1 + 1, 0, none⟩ 1 1 [.slice (some ⟨a1, 0, none⟩) 2 2] rfl rfl HW5.out.2.2 ?hq1 ?hq2 ?hq3 hgx ?_)
      case hq1 => first | rfl | (intro u hu; simp at hu; subst hu; rfl)
      case hq2 => unfold maxLen; omega
      case hq3 => omega
      intro v' w6 hown' hg6 hnil6
      obtain ⟨rgA, rcA, rfl⟩ := own_shape hown'
      have hB5 := HI.out.1.later HW5.out.1
      have hp5 : Ok3 w0.heap.size W5 (some ⟨a1, 0, none⟩, 2, [-d, y]) := by
        refine ⟨⟨Nat.le_refl _, .inr ⟨a1, 0, rfl, fun j z hj => ?_⟩⟩, .inr ⟨a1, 0, rfl, .inr ⟨_, _, HW5.out.2.1⟩⟩⟩
        have hjl := (List.getElem?_eq_some_iff.1 hj).1
        simp only [World.cell?, HW5.out.2.1, Nat.zero_add]
        simp only [List.length_cons, List.length_nil] at hjl
        rcases (show j = 0 ∨ j = 1 by omega) with rfl | rfl
        · simp at hj; subst hj; rfl
        · simp at hj; subst hj; rfl
      have htk : t.take (k + 1) = t.take k ++ [y] := by rw [List.take_add_one, HY.out]; rfl
      have hB6 : BoxM w0 K b (s.1 + 1, s.2 ++ negC d (t.take (k + 1))) N (.slice rgA (cn + 1) rcA) bm (ps ++ [(some ⟨a1, 0, none⟩, 2, [-d, y])]) (w6.setCell ⟨b, 4, none⟩ (.slice rgA (cn + 1) rcA)) := by
        have := hB5.app hp5 (v' := .slice rgA (cn + 1) rcA) (w6 := w6) (by rw [show (s.1 + 1, s.2 ++ negC d (t.take k)).2.length = cn from HI.out.2.2.2.2]; exact hown') hg6
        rw [htk]
        unfold negC at this ⊢
        rw [List.map_append]
        simpa using this
      have hl5 := own_grown HI.out.2.1 HW5.out.1
      have hl6 := own3_keep hl5 hg6 (fun g e => (row_not3 HROW.out g e).2)
      have hset : w6.grownBy (w6.setCell ⟨b, 4, none⟩ (.slice rgA (cn + 1) rcA)) (some b) := grown_set w6 b 4 _
      have hbh : w6.heap[b]? = W5.heap[b]? := by
        refine hg6.block b (Array.getElem?_eq_some_iff.1 hB5.hp).1 (fun e => ?_)
        obtain ⟨_, h4⟩ := row_not3 HROW.out b e.symm
        rcases HROW.out.2 with ⟨e2, _⟩ | ⟨g, cap, cur, e2, _, hb, _⟩
        · rw [e2] at e; cases e
        · rw [e2] at e; cases e; rw [hB5.hp] at hb; cases hb
      have hl7 := own3_keep hl6 hset (fun g e cur fr e2 => by cases e; rw [hbh, hB5.hp] at e2; cases e2)
      have c46 : w6.cell? ⟨b, 4, none⟩ = some (.slice va cn vc) ∧ w6.frozen? ⟨b, 4, none⟩ = false := by
        have h6 := hbh.trans hB5.hp
        exact ⟨by simp [World.cell?, h6], by simp [World.frozen?, h6]⟩
      obtain ⟨c461, c462⟩ := c46
      have haw7 : AwayP (ps ++ [(some ⟨a1, 0, none⟩, 2, [-d, y])]) (.slice ra (k + 1) rc) := by
        intro q hq
        rcases List.mem_append.1 hq with hq | hq
        · exact HI.out.2.2.1 q hq
        · rw [List.mem_singleton.1 hq]
          refine .inr ⟨a1, 0, rfl, fun e => ?_⟩
          have := (HI.out.2.1.lt a1 e.symm).2
          omega
      obtain ⟨W8, hW8⟩ : ∃ z, w6.setCell ⟨b, 4, none⟩ (.slice rgA (cn + 1) rcA) = z := ⟨_, rfl⟩
      rw [hW8] at hB6 hl7
      obtain ⟨a9, ha9⟩ : ∃ z, W8.heap.size = z := ⟨_, rfl⟩
      obtain ⟨W9, hW9⟩ : ∃ z, W8.alloc (.cells #[.int .i64 (-y)] 3) = z := ⟨_, rfl⟩
      have hg9 : W8.grownBy W9 none := by rw [← hW9]; exact World.grownBy_alloc _ _ none
      have hcell9 : ∀ j u, [Value.int .i64 (-y)][j]? = some u → W9.cell? ((⟨a9, 0, none⟩ : Addr).add j) = some u := by rw [← hW9, ← ha9]; exact cell_one_new W8 _ _
      have HB9 := Lib.hid (And.intro (hB6.later hg9) (And.intro (own_grown hl7 hg9) haw7))
      have HC9 := Lib.hid hcell9
      have hgx9 : w0.heap.size ≤ W9.heap.size := HB9.out.1.grown.size
      clear hB5 hp5 hB6 hl5 hl6 hset hbh hl7 haw7 hg6 hown' hnil6 hcell9 hg9 c4 cf4 hgx HROW HW5 hW5
      go_wp2_with (at_builtin; refine wpList_append_own_at _ rfl _ _ 34 rfl w0.heap.size 3 i0 (.int .i64 0) 1 8 Tryz.underlying34 hi0 hz0 hz1 hz2 rfl (by decide) _ _ _ rfl HB9.out.2.1 ⟨a9, 0, none⟩ 1 1 [.int .i64 (-y)] rfl rfl HC9.out ?hr1 ?hr2 ?hr3 hgx9 ?_)
      case hr1 => first | rfl | (intro u hu; simp at hu; subst hu; rfl)
      case hr2 => unfold maxLen; omega
      case hr3 => omega
      intro l' w10 hown10 hg10 hnil10 hat10
      obtain ⟨rl, rlc, rfl⟩ := own_shape hown10
      have HE : Hid (BoxM w0 K b (s.1 + 1, s.2 ++ negC d (t.take (k + 1))) N (.slice rgA (cn + 1) rcA) bm (ps ++ [(some ⟨a1, 0, none⟩, 2, [-d, y])]) w10 ∧ w10.ownsRow w0.heap.size 3 1 (.slice rl (k + 1 + 1) rlc) (k + 1 + 1) (intCells (d :: (t.take (k + 1)).map (fun x => -x))) ∧ AwayP (ps ++ [(some ⟨a1, 0, none⟩, 2, [-d, y])]) (.slice rl (k + 1 + 1) rlc)) := Lib.hid (by
        refine ⟨HB9.out.1.turn HB9.out.2.1 HB9.out.2.2 hg10, ?_, ?_⟩
        · rw [htk, List.map_append]
          simpa [intCells] using hown10
        · rcases hat10 with e | e
          · intro q hq
            rcases HB9.out.2.2 q hq with h | ⟨k', o', h1, h2⟩
            · exact .inl h
            · exact .inr ⟨k', o', h1, by rw [e]; exact h2⟩
          · exact away_new HB9.out.1 (fun g e2 => by rw [e] at e2; cases e2; exact Nat.le_refl _))
      clear hown10 hg10 hnil10 hat10 htk hcell
      go_wp2_with fail
      go_roundg (tn - (k + 1))
      case measure => rw [HI.out.2.2.2.1]; omega
      case rel => exact ⟨k + 1, _, _, rl, rlc, rfl, rfl, rfl, by omega, HE.out.1, HE.out.2.1, HE.out.2.2⟩
    · have hke : k = tn := by omega
      subst hke
      have f1 : decide ((k : Int) < (k : Int)) = false := decide_eq_false (by omega)
      have f1' : decide (k < k) = false := by simp
      have htk : t.take k = t := List.take_of_length_le (by rw [HF.out.2.2.1]; exact Nat.le_refl _)
      obtain ⟨a9, ha9⟩ : ∃ z, wr.heap.size = z := ⟨_, rfl⟩
      obtain ⟨W9, hW9⟩ : ∃ z, wr.alloc (.cells #[.slice ra (k + 1) rc] 34) = z := ⟨_, rfl⟩
      have hg9 : wr.grownBy W9 none := by rw [← hW9]; exact World.grownBy_alloc _ _ none
      have hcell9 : ∀ j u, [Value.slice ra (k + 1) rc][j]? = some u → W9.cell? ((⟨a9, 0, none⟩ : Addr).add j) = some u := by rw [← hW9, ← ha9]; exact cell_one_new wr _ _
      have HC9 := Lib.hid hcell9
      have hgx9 : w0.heap.size ≤ W9.heap.size := (HI.out.1.grown.trans hg9).size
      have HB9 := Lib.hid (HI.out.1.later hg9)
      have HL9 := Lib.hid (own_grown HI.out.2.1 hg9)
      have HROW : Hid (W9.ownsRow w0.heap.size 34 1 (.slice va cn vc) cn (ps.map encP)) := Lib.hid (by
        have := HB9.out.row
        rwa [show (s.1 + 1, s.2 ++ negC d (t.take k)).2.length = cn from HI.out.2.2.2.2] at this)
      clear hcell9 hg9
      go_wp2_with (at_builtin; refine wpList_append_own _ rfl _ _ 22 rfl w0.heap.size 34 j0 (.slice none 0 0) 1 24 Tryz.underlying22 hj0 hy0 hy1 hy2 rfl (by decide) _ _ _ rfl HROW.out ⟨a9, 0, none⟩ 1 1 [.slice ra (k + 1) rc] rfl rfl HC9.out ?hs1 ?hs2 ?hs3 hgx9 ?_)
      case hs1 => first | rfl | (intro u hu; simp at hu; subst hu; rfl)
      case hs2 => unfold maxLen; omega
      case hs3 => omega
      intro v' w6 hown' hg6 hnil6
      obtain ⟨rgA, rcA, rfl⟩ := own_shape hown'
      have hl := HL9.out
      have hpl : Ok3 w0.heap.size W9 (ra, rc, d :: t.map (fun x => -x)) := by
        rw [htk] at hl
        obtain ⟨k1, k2⟩ := own_ints hl
        refine ⟨k2, .inr ?_⟩
        rcases hl.2 with ⟨_, h0⟩ | ⟨g, cap, cur, e, _, hb, _⟩
        · omega
        · cases e; exact ⟨g, 0, rfl, .inr ⟨_, _, hb⟩⟩
      have HE : Hid (StM w0 K b (s.1 + 1, s.2 ++ defC d t) (N + 1) (w6.setCell ⟨b, 4, none⟩ (.slice rgA (cn + 1) rcA))) := Lib.hid (by
        have e1 : encP (ra, rc, d :: t.map (fun x => -x)) = .slice ra (k + 1) rc := by unfold encP; simp [HF.out.2.2.1]
        have := HB9.out.app hpl (v' := .slice rgA (cn + 1) rcA) (w6 := w6) (by rw [e1, show (s.1 + 1, s.2 ++ negC d (t.take k)).2.length = cn from HI.out.2.2.2.2]; exact hown') hg6
        rw [htk] at this
        have e2 : (s.2 ++ negC d t) ++ [d :: t.map (fun x => -x)] = s.2 ++ defC d t := by unfold negC defC; rw [List.append_assoc]
        simp only at this
        rw [e2] at this
        exact StM.more ⟨_, _, _, this⟩ (Nat.le_succ _))
      have c46 : w6.cell? ⟨b, 4, none⟩ = some (.slice va cn vc) ∧ w6.frozen? ⟨b, 4, none⟩ = false := by
        have h6 : w6.heap[b]? = W9.heap[b]? := hg6.block b (Array.getElem?_eq_some_iff.1 HB9.out.hp).1 (fun e => by
          rcases HROW.out.2 with ⟨e2, _⟩ | ⟨g, cap, cur, e2, _, hb, _⟩
          · rw [e2] at e; cases e
          · rw [e2] at e; cases e; rw [HB9.out.hp] at hb; cases hb)
        have h6 := h6.trans HB9.out.hp
        exact ⟨by simp [World.cell?, h6], by simp [World.frozen?, h6]⟩
      obtain ⟨c461, c462⟩ := c46
      clear hown' hg6 hnil6 hl hpl c4 cf4 htk hW9 ha9
      go_wp2_with fail
      go_ret
      exact ⟨rfl, by rw [HD.out]; exact HE.out⟩
end Go.Proofs.YtihaheinkpmnnaaGreat
