/- Texts of the proof: LD. -/
import Derived.Test.YtihaheinkpmnnaaGreatCA24
import Derived.Shelf.SlicesE.Delete
namespace Go.Proofs.YtihaheinkpmnnaaGreat
set_option maxRecDepth 200000
open Go.RowKit Go.Shelf Go.Maps Go.Sort
theorem del64_calls (w : World) (B g cap n i : Nat) (ps : List Nr) (h : w.ownsRow B 34 1 (.slice (some ⟨g, 0, none⟩) n cap) n (ps.map encP)) (hi : i < n) (hn : n ≤ 100000) :
    Calls Tryz.prog 64 #[.slice (some ⟨g, 0, none⟩) n cap, .int .i64 (i : Int), .int .i64 ((i : Int) + 1)] w fun e w' =>
      e = .returned (.slice (some ⟨g, 0, none⟩) (n - 1) cap) ∧ w'.ownsRow B 34 1 (.slice (some ⟨g, 0, none⟩) (n - 1) cap) (n - 1) ((ps.eraseIdx i).map encP) ∧ w.grownBy w' (some g) := by
  obtain ⟨k1, k2, k3, k4, k5⟩ := own_holds h
  have hcm : cap ≤ 9223372036854775807 := by
    rcases h.2 with ⟨h0, _⟩ | ⟨g', c', cur, e, _, hg, _, h4, _⟩
    · cases h0
    · cases e; unfold maxLen at h4; omega
  obtain ⟨i0, hi0, _, hz1, _⟩ := info_parts info34
  have hsz : ps.toArray.size = n := by simp [k3]
  have := AnyE.slices_Delete Tryz.deleteA encP (fun x => rfl) ((none, 0, []) : Nr) Tryz.zeroValue34 i0 hi0 hz1 g 0 cap i (i + 1) ps.toArray w k1 (by omega) hcm (by omega) (by omega)
  rw [hsz] at this
  have e1 : ((i + 1 : Nat) : Int) = (i : Int) + 1 := by omega
  have e2 : i + 1 - i = 1 := by omega
  rw [e1, e2] at this
  refine this.mono ?_
  rintro e w' ⟨rfl, q, rfl⟩
  have hts : (ps.toArray.toList.take i ++ ps.toArray.toList.drop (i + 1) ++ List.replicate 1 ((none, 0, []) : Nr)).length = n := by simp; omega
  have ho := own_put (q := q) (os := #[]) (m := n - 1) (ts := ps.toArray.toList.take i ++ ps.toArray.toList.drop (i + 1) ++ List.replicate 1 ((none, 0, []) : Nr)) h (by omega) (by omega)
  have hg := grown_put (w := w) (enc := encP) (g := g) (n := q) (os := #[]) (ps.toArray.toList.take i ++ ps.toArray.toList.drop (i + 1) ++ List.replicate 1 ((none, 0, []) : Nr)).toArray
  rw [grow_nil] at ho hg
  refine ⟨rfl, ?_, hg⟩
  have e3 : (ps.toArray.toList.take i ++ ps.toArray.toList.drop (i + 1) ++ List.replicate 1 ((none, 0, []) : Nr)).take (n - 1) = ps.eraseIdx i := by
    rw [List.take_append_of_le_length (by simp; omega), List.take_of_length_le (by simp; omega), List.eraseIdx_eq_take_drop_succ]
  rw [e3] at ho
  exact ho
/-- A clause less in the state. -/
theorem BoxM.del {w0 : World} {K : Kst} {b : Nat} {s : CkS} {N : Nat} {bm : Nat} {ps : List Nr} {w w6 : World} {g cap i : Nat} (h : BoxM w0 K b s N (.slice (some ⟨g, 0, none⟩) s.2.length cap) bm ps w) (hi : i < s.2.length)
    (hrow : w6.ownsRow w0.heap.size 34 1 (.slice (some ⟨g, 0, none⟩) (s.2.length - 1) cap) (s.2.length - 1) ((ps.eraseIdx i).map encP)) (hg : w.grownBy w6 (some g)) :
    BoxM w0 K b (s.1, s.2.eraseIdx i) N (.slice (some ⟨g, 0, none⟩) (s.2.length - 1) cap) bm (ps.eraseIdx i) (w6.setCell ⟨b, 4, none⟩ (.slice (some ⟨g, 0, none⟩) (s.2.length - 1) cap)) := by
  obtain ⟨cur, hgb⟩ := row_block h.row
  have hnb : b ≠ g := fun e => by subst e; rw [h.hp] at hgb; cases hgb
  have hnm : bm ≠ g := h.map.ne_cells hgb
  have hr := row_not3 h.row
  have h6 := (hg.block b (Array.getElem?_eq_some_iff.1 h.hp).1 (by simp; omega)).trans h.hp
  have hset : w6.grownBy (w6.setCell ⟨b, 4, none⟩ (.slice (some ⟨g, 0, none⟩) (s.2.length - 1) cap)) (some b) := grown_set w6 b 4 _
  have hkm := h.map.kept hg (by simp; omega)
  refine ⟨by rw [heap_setCell_at h6]; rfl, h.low, h.mlow, hkm.kept hset (fun e => hkm.ne_cells h6 (by cases e; rfl)), ?_, ?_, ?_, ?_, (h.oth.step hg (fun k e => by cases e; exact .inr ⟨_, _, _, hgb⟩)).step hset (fun g e => by cases e; exact .inr ⟨_, _, _, h6⟩), h.hbm⟩
  · have e : (s.2.eraseIdx i).length = s.2.length - 1 := by rw [List.length_eraseIdx, if_pos hi]
    simp only
    rw [e]; exact hrow.kept hset (.inr (by simp [Value.ownBlock]; omega))
  · simp only
    rw [← h.eqs]
    rw [List.eraseIdx_eq_take_drop_succ, List.eraseIdx_eq_take_drop_succ, List.map_append, List.map_take, List.map_drop]
  · intro q hq
    have k1 := h.ok q (List.mem_of_mem_eraseIdx hq)
    exact (k1.keep hg (fun k e => by cases e; exact hr g rfl)).keep hset fun g e => by cases e; exact ⟨h.low, fun cur fr e => by rw [h6] at e; cases e⟩
  · exact grown_own (grown_own h.grown hg (fun k e => by cases e; exact (hr g rfl).1)) hset (fun k e => by cases e; exact h.low)
set_option maxHeartbeats 8000000 in
theorem remove_calls {w0 : World} {K : Kst} {b : Nat} {s : CkS} {N : Nat} {w : World} (h : StM w0 K b s N w) {x : St} {la : Option Addr} {lc : Nat} (hf : Fine w0 s N x la lc) :
    Calls Tryz.prog 46 #[.pointer (some ⟨b, 0, none⟩), .agg #[.int .i64 x.1, .slice la x.2.1.length lc, .int .i64 x.2.2]] w fun e w' =>
      e = .returned (.bool (delP s.2 x.2.1).isSome) ∧ (∀ D, delP s.2 x.2.1 = some D → StM w0 K b (s.1, D) (N + 1) w') ∧ w0.grownBy w' none := by
  obtain ⟨v, bm, ps, hB⟩ := h
  obtain ⟨ln, hln⟩ : ∃ z, x.2.1.length = z := ⟨_, rfl⟩
  obtain ⟨n, hn⟩ : ∃ z, s.2.length = z := ⟨_, rfl⟩
  obtain ⟨va, vc, rfl, hcls⟩ := hB.shape
  obtain ⟨bx, hbx⟩ : ∃ z, w.heap.size = z := ⟨_, rfl⟩
  obtain ⟨W1, hW1⟩ : ∃ z, w.alloc (.cells #[.int .i64 x.1, .slice la ln lc, .int .i64 x.2.2] 46) = z := ⟨_, rfl⟩
  have hw1 : w.grownBy W1 none ∧ W1.heap[bx]? = some (.cells #[.int .i64 x.1, .slice la ln lc, .int .i64 x.2.2] 46 (0, 0)) := by
    rw [← hW1, ← hbx]; exact ⟨World.grownBy_alloc _ _ none, World.alloc_heap_new w _⟩
  have hB1 := hB.later hw1.1
  obtain ⟨c0, c1, c2, c3, c4, c5, cf⟩ := hB1.cells
  have q1 : W1.cell? ⟨bx, 1, none⟩ = some (.slice la ln lc) := by simp [World.cell?, hw1.2]
  obtain ⟨ix, hix⟩ : ∃ z, s.2.findIdx? (fun c => eqS c x.2.1) = z := ⟨_, rfl⟩
  have hsl : s.2.length ≤ 1000 := by have := hf.fit.len; omega
  have HSA : Hid (∀ W, W1.grownBy W none → Calls Tryz.prog 63 #[.slice la ln lc] W fun e w' => (∃ bb, e = .returned (.func (.func 92) #[] #[.pointer (some ⟨bb, 0, none⟩)]) ∧ NormAt w' bb x.2.1) ∧ W1.grownBy w' none) := Lib.hid (fun W hg => by
    have := same_calls (M := x.2.1) (by have := hf.len; omega) W ((hf.ints.grown hB.grown).grown (hw1.1.trans hg))
    rw [hln] at this
    exact this.mono fun e w' ⟨⟨bb, h1, _, h3⟩, h4⟩ => ⟨⟨bb, h1, h3⟩, hg.trans h4⟩)
  have HIX : Hid (∀ W bb, W1.grownBy W none → NormAt W bb x.2.1 → Calls Tryz.prog 51 #[.slice va n vc, .func (.func 92) #[] #[.pointer (some ⟨bb, 0, none⟩)]] W fun e w' => e = .returned (.int .i64 (ixOf ix)) ∧ W1.grownBy w' none) := Lib.hid (fun W bb hg hb => by
    have := index92_calls (F := fun c => eqS c x.2.1) (p0 := .pointer (some ⟨bb, 0, none⟩)) (hcls.grown (hw1.1.trans hg)) (by omega) (fun z a c W' hz hgW hi => same1_calls (by have := hf.fit.lits z hz; omega) (by have := hf.len; omega) W' hi (hb.grown hgW))
    rw [hn, hix] at this
    exact this.mono fun e w' ⟨h1, h2⟩ => ⟨h1, hg.trans h2⟩)
  have HB1 := Lib.hid hB1
  have HF := Lib.hid (And.intro hf (And.intro hw1 (And.intro hln hn)))
  rw [hn] at c4 hsl
  have HD : Hid (delP s.2 x.2.1 = ix.map s.2.eraseIdx) := Lib.hid (by unfold delP; rw [hix])
  have HIXL : Hid (∀ i, ix = some i → i < n) := Lib.hid (fun i e => by rw [e, List.findIdx?_eq_some_iff_getElem] at hix; rw [← hn]; exact hix.1)
  rw [hln]
  have C4 := Lib.hid c4
  have Q1 := Lib.hid q1
  clear hB hcls hB1 hw1 hln hf c0 c1 c2 c3 c5 cf hix hn
  go_enter Tryz.func46, Tryz.ntmps46
  go_wp2_with fail
  clear hW1 hbx
  go_region_held3 (fun w' => W1.grownBy w' none ∧ w'.cell? ⟨b, 4, none⟩ = some (.slice va n vc) ∧ w'.cell? ⟨bx, 1, none⟩ = some (.slice la ln lc))
    (first | exact ⟨grown_drew W1 none, c4, q1⟩ | (go_split_ands; exact ⟨by assumption, by assumption, by assumption⟩) | exact ⟨g7, g7.cell C4.out (by simp), g7.cell Q1.out (by simp)⟩)
    (first
      | (go_at_call 63; refine (HSA.out _ (by go_split_ands; assumption)).mono ?_; rintro e w5 ⟨⟨bb, rfl, yn⟩, g7⟩)
      | (go_at_call 51; refine (HIX.out _ bb (by go_split_ands; assumption) (by first | exact yn | assumption)).mono ?_; rintro e w6 ⟨rfl, g7⟩))
  have HG := Lib.hid g7
  have HG0 := Lib.hid (HB1.out.grown.trans g7)
  have d4 := g7.cell c4 (by simp)
  clear g7 c4 q1 yn
  cases ix with
  | none =>
    have HDN : Hid (delP s.2 x.2.1 = none) := Lib.hid (by rw [HD.out]; rfl)
    simp only [show ixOf none = -1 from rfl]
    go_wp2_with fail
    go_ret
    exact ⟨by rw [HDN.out]; rfl, (fun D e => by rw [HDN.out] at e; cases e), HG0.out⟩
  | some i =>
    have HDS : Hid (delP s.2 x.2.1 = some (s.2.eraseIdx i)) := Lib.hid (by rw [HD.out]; rfl)
    have hil := HIXL.out i rfl
    have hB5 := HB1.out.later HG.out
    rcases hB5.row.2 with ⟨e, h0⟩ | ⟨g, cap, cur, e, _⟩
    · rw [HF.out.2.2.2] at h0; omega
    · cases e
      have HB5 := Lib.hid hB5
      have HDEL : Hid (Calls Tryz.prog 64 #[.slice (some ⟨g, 0, none⟩) n vc, .int .i64 (i : Int), .int .i64 ((i : Int) + 1)] w6 fun e w' =>
          e = .returned (.slice (some ⟨g, 0, none⟩) (n - 1) vc) ∧ w'.ownsRow w0.heap.size 34 1 (.slice (some ⟨g, 0, none⟩) (n - 1) vc) (n - 1) ((ps.eraseIdx i).map encP) ∧ w6.grownBy w' (some g)) := Lib.hid (by
        have hr := hB5.row
        rw [HF.out.2.2.2] at hr
        exact del64_calls w6 w0.heap.size g vc n i ps hr hil (by omega))
      have k1 : IntKind.i64.wrap ((i : Int) + 1) = (i : Int) + 1 := IntWalk.i64_in _ (by omega)
      have f1 : decide ((i : Int) < 0) = false := decide_eq_false (by omega)
      simp only [show ixOf (some i) = (i : Int) from rfl]
      clear hB5 hil
      go_wp2_with fail
      refine HDEL.out.mono ?_
      rintro e w7 ⟨rfl, ho, hg7⟩
      have hB7 := HB5.out
      have hbd := World.block_lt_of_cell? w6 _ d4
      have hnb : b ≠ g := fun e => by
        obtain ⟨cu, hgb⟩ := row_block hB7.row
        subst e
        rw [hB7.hp] at hgb; cases hgb
      have e4 := hg7.cell d4 (by simp; omega)
      have e4f : w7.frozen? ⟨b, 4, none⟩ = false := by
        rw [World.frozen?_of_block (hg7.block b hbd (by simp; omega))]
        exact hB7.cells.2.2.2.2.2.2 4
      have HE : Hid (StM w0 K b (s.1, s.2.eraseIdx i) (N + 1) (w7.setCell ⟨b, 4, none⟩ (.slice (some ⟨g, 0, none⟩) (n - 1) vc))) := Lib.hid (by
        have hi2 : i < s.2.length := by rw [HF.out.2.2.2]; exact HIXL.out i rfl
        have := hB7.del (i := i) (w6 := w7) hi2 (by rw [HF.out.2.2.2]; exact ho) hg7
        rw [HF.out.2.2.2] at this
        exact StM.more ⟨_, _, _, this⟩ (Nat.le_succ _))
      clear ho hg7 hB7 hbd hnb d4
      go_wp2_with fail
      go_ret
      exact ⟨by rw [HDS.out]; rfl, (fun D e => by rw [HDS.out] at e; cases e; exact HE.out), HE.out.grown⟩
end Go.Proofs.YtihaheinkpmnnaaGreat
