/- Shift. -/
import Derived.Test.YtgeidnfigncepaaDoorM
namespace Go.Proofs.YtgeidnfigncepaaDoor
open Go.RowKit

/-- A step variable whose literals are being laid. -/
structure Made (w : World) (g : Nat) (k s : Int) (m : List Int) (lv : Value) : Prop where
  c0 : w.cell? ⟨g, 0, none⟩ = some (.int .i64 k)
  c1 : w.cell? ⟨g, 1, none⟩ = some lv
  c2 : w.cell? ⟨g, 2, none⟩ = some (.int .i64 s)
  fr : w.frozen? ⟨g, 1, none⟩ = false
  fr2 : w.frozen? ⟨g, 2, none⟩ = false
  own : w.ownsRow (g + 1) 3 1 lv m.length (intCells m)
theorem Made.start (w : World) (k s : Int) : Made (w.alloc (.cells #[.int .i64 k, .slice none 0 0, .int .i64 s] 43)) w.heap.size k s [] (.slice none 0 0) :=
  ⟨by go_simp, by go_simp, by go_simp, by go_simp, by go_simp, World.ownsRow_nil _ _ _ _⟩
theorem Made.off {w w' : World} {g : Nat} {k s : Int} {m : List Int} {lv : Value} {r : Option Nat} (h : Made w g k s m lv) (hg : w.grownBy w' r) (hr : ∀ x, r = some x → x < g) : Made w' g k s m lv := by
  have hne : some g ≠ r := by intro e; have := hr _ e.symm; omega
  have hlt := World.block_lt_of_cell? w _ h.c0
  refine ⟨hg.cell h.c0 hne, hg.cell h.c1 hne, hg.cell h.c2 hne, by rw [World.frozen?_of_block (hg.block g hlt hne)]; exact h.fr, by rw [World.frozen?_of_block (hg.block g hlt hne)]; exact h.fr2, h.own.kept hg ?_⟩
  cases r with
  | none => cases hv : lv.ownBlock <;> simp
  | some k => exact own_ne h.own (by have := hr k rfl; omega)
/-- Behind the append, before the store. -/
theorem Made.at_ {w w3 : World} {g : Nat} {k s : Int} {m : List Int} {lv : Value} {o : Obj} (h : Made w g k s m lv) (hg : (w.alloc o).grownBy w3 lv.ownBlock) :
    w3.cell? ⟨g, 0, none⟩ = some (.int .i64 k) ∧ w3.cell? ⟨g, 1, none⟩ = some lv ∧ w3.cell? ⟨g, 2, none⟩ = some (.int .i64 s) ∧ w3.frozen? ⟨g, 1, none⟩ = false ∧ w3.frozen? ⟨g, 2, none⟩ = false ∧ g < w3.heap.size := by
  have ga := World.grownBy_alloc w o none
  have hlt := World.block_lt_of_cell? w _ h.c0
  have hlt' : g < (w.alloc o).heap.size := Nat.lt_of_lt_of_le hlt ga.size
  have hne : some g ≠ lv.ownBlock := by
    intro e
    have := (h.own.lt g e.symm).1
    omega
  refine ⟨hg.cell (ga.cell h.c0 (by simp)) hne, hg.cell (ga.cell h.c1 (by simp)) hne, hg.cell (ga.cell h.c2 (by simp)) hne, ?_, ?_, Nat.lt_of_lt_of_le hlt' hg.size⟩
  · rw [World.frozen?_of_block (hg.block g hlt' hne), World.frozen?_of_block (ga.block g hlt (by simp))]; exact h.fr
  · rw [World.frozen?_of_block (hg.block g hlt' hne), World.frozen?_of_block (ga.block g hlt (by simp))]; exact h.fr2
/-- Behind the store. -/
theorem Made.step {w w3 : World} {g : Nat} {k s y : Int} {m : List Int} {lv v' : Value} {o : Obj} (h : Made w g k s m lv) (hg : (w.alloc o).grownBy w3 lv.ownBlock)
    (hown : w3.ownsRow (g + 1) 3 1 v' (m.length + 1) (intCells m ++ [.int .i64 y])) : Made (w3.setCell ⟨g, 1, none⟩ v') g k s (m ++ [y]) v' := by
  obtain ⟨h0, h1, h2, hf, hf2, hlt⟩ := h.at_ hg
  refine ⟨?_, World.cell?_setCell_same _ _ _ h1, ?_, by rw [World.frozen?_setCell]; exact hf, by rw [World.frozen?_setCell]; exact hf2, ?_⟩
  · rw [World.cell?_setCell_other _ _ _ _ (by intro e; injection e with _ e; cases e)]; exact h0
  · rw [World.cell?_setCell_other _ _ _ _ (by intro e; injection e with _ e; cases e)]; exact h2
  · have := hown.kept (grown_set w3 g 1 v') (own_ne hown (by omega))
    rw [List.length_append]
    simpa [intCells] using this
/-- A store into the last field. -/
theorem Made.sym {w : World} {g : Nat} {k s : Int} {m : List Int} {lv : Value} (h : Made w g k s m lv) (u : Int) : Made (w.setCell ⟨g, 2, none⟩ (.int .i64 u)) g k u m lv := by
  refine ⟨?_, ?_, World.cell?_setCell_same _ _ _ h.c2, by rw [World.frozen?_setCell]; exact h.fr, by rw [World.frozen?_setCell]; exact h.fr2, h.own.kept (grown_set w g 2 _) (own_ne h.own (by omega))⟩
  · rw [World.cell?_setCell_other _ _ _ _ (by intro e; injection e with _ e; cases e)]; exact h.c0
  · rw [World.cell?_setCell_other _ _ _ _ (by intro e; injection e with _ e; cases e)]; exact h.c1
theorem grown_step {w wr w3 : World} {g : Nat} {lv v' : Value} {o : Obj} {r : Option Nat} (h : w.grownBy wr r) (hg : (wr.alloc o).grownBy w3 lv.ownBlock) (hb : ∀ x, lv.ownBlock = some x → w.heap.size ≤ x) (hgb : w.heap.size ≤ g) :
    w.grownBy (w3.setCell ⟨g, 1, none⟩ v') r := by
  have ga := World.grownBy_alloc wr o none
  have hs := grown_set w3 g 1 v'
  refine ⟨hs.os.trans (hg.os.trans (ga.os.trans h.os)), hs.tape.trans (hg.tape.trans (ga.tape.trans h.tape)), hs.output.trans (hg.output.trans (ga.output.trans h.output)), Nat.le_trans h.size (Nat.le_trans ga.size (Nat.le_trans hg.size hs.size)), fun k hk hr => ?_⟩
  have k1 := Nat.lt_of_lt_of_le hk h.size
  have k2 := Nat.lt_of_lt_of_le k1 ga.size
  have k3 := Nat.lt_of_lt_of_le k2 hg.size
  rw [hs.block k k3 (by intro e; injection e with e; omega), hg.block k k2 (by intro e; have := hb k e.symm; omega), ga.block k k1 (by simp), h.block k hk hr]

theorem shS_take {d : Int} {l : List Int} {j : Nat} {x : Int} (h : l[j]? = some x) : (l.take (j + 1)).map (shI d) = (l.take j).map (shI d) ++ [shI d x] := by
  rw [List.take_add_one, h, Option.toList_some, List.map_append]; rfl

set_option maxRecDepth 100000 in
set_option maxHeartbeats 4000000 in
theorem shift_calls (d : Int) (l : List St) (n : Nat) (hn : l.length = n) (a : Option Addr) (c : Nat) (w : World) (h : Steps w a c l) (hl : l.length ≤ 100000) (hlits : ∀ x ∈ l, x.2.1.length ≤ 100000 ∧ ∀ y ∈ x.2.1, -1000000 ≤ y ∧ y ≤ 1000000) (hd : -1000000 ≤ d ∧ d ≤ 1000000) :
    Calls Tryd.prog 19 #[.slice a n c, .int .i64 d] w fun e w' => ∃ a' c', e = .returned (.slice a' n c') ∧ Steps w' a' c' (shL d l) ∧ w.grownBy w' none := by
  rw [hn] at hl
  have HH := Lib.hid (And.intro hn (And.intro h (And.intro hlits hd))); clear hn h hlits
  obtain ⟨hd1, hd2⟩ := hd
  obtain ⟨i0, hi0, hz0, hz1, hz2⟩ := info_parts info3
  obtain ⟨j0, hj0, hy0, hy1, hy2⟩ := info_parts info43
  go_enter Tryd.func19, Tryd.ntmps19
  go_wp2_with fail
  obtain ⟨B, hB⟩ : ∃ B, w.heap.size = B := ⟨_, rfl⟩
  have HB := Lib.hid hB; clear hB
  go_loopg [5, 13] n (fun g s5 s13 wr => ∃ (i : Nat) (v : Value) (D : List Dt), s5 = v ∧ s13 = .int .i64 (i : Int) ∧ g = n - i ∧ i ≤ n ∧ Out wr B v D ∧ D.map (·.1) = (l.take i).map (shS d) ∧ D.length = i ∧ w.grownBy wr none)
  case atStart => exact ⟨0, _, [], rfl, rfl, rfl, Nat.zero_le _, Out.start _ _, rfl, rfl, grown_refl _ _⟩
  case round =>
    obtain ⟨wo, rfl⟩ : ∃ wo, wo = wr := ⟨_, rfl⟩
    obtain ⟨i, v, D, rfl, rfl, hgi, hi, hout, hD, hDl, hgr⟩ := hrel
    have HO := Lib.hid hout
    have HGI := Lib.hid (And.intro hgi (And.intro hD (And.intro hDl hgr))); clear hgi hD hDl hgr
    obtain ⟨va, vc, rfl⟩ := own_shape hout.own
    clear hout
    by_cases hin : i < n
    · have hinB : decide (i < n) = true := by simpa using hin
      have hinI : (i : Int) < (n : Int) := by omega
      obtain ⟨x, hx⟩ : ∃ x, l[i]? = some x := ⟨_, List.getElem?_eq_getElem (by rw [HH.out.1]; exact hin)⟩
      obtain ⟨b, o, rfl, c0, ⟨la, lc, c1, hints⟩, c2⟩ := (HH.out.2.1.grown HGI.out.2.2.2).2 i x hx
      obtain ⟨hlen, hys⟩ := HH.out.2.2.1 x (List.mem_of_getElem? hx)
      have HX := Lib.hid hx; clear hx
      obtain ⟨k, m, s⟩ := x
      simp only at c0 c1 c2 hints hlen hys
      obtain ⟨p, hp⟩ : ∃ p, m.length = p := ⟨_, rfl⟩
      rw [hp] at c1 hlen
      have HI := Lib.hid (And.intro hints (And.intro hys hp)); clear hints hys hp
      obtain ⟨q, hq⟩ : ∃ q, D.length = q := ⟨_, rfl⟩
      rw [hq]
      have HQ := Lib.hid hq; clear hq
      go_wp2_with fail
      have hmd := Made.start (wo.alloc (.cells #[.int .i64 k, .slice la p lc, .int .i64 s] 43)) k s
      rw [World.size_alloc] at hmd
      have hgw : wo.grownBy ((wo.alloc (.cells #[.int .i64 k, .slice la p lc, .int .i64 s] 43)).alloc (.cells #[.int .i64 k, .slice none 0 0, .int .i64 s] 43)) none := (World.grownBy_alloc _ _ none).trans (World.grownBy_alloc _ _ none)
      obtain ⟨W8, hW8⟩ : ∃ W8, (wo.alloc (.cells #[.int .i64 k, .slice la p lc, .int .i64 s] 43)).alloc (.cells #[.int .i64 k, .slice none 0 0, .int .i64 s] 43) = W8 := ⟨_, rfl⟩
      rw [hW8] at hmd hgw ⊢
      obtain ⟨g8, hg8⟩ : ∃ g8, wo.heap.size + 1 = g8 := ⟨_, rfl⟩
      rw [hg8] at hmd ⊢
      have HM := Lib.hid (And.intro hmd (And.intro hgw hg8)); clear hmd hgw hg8 hW8 c0 c1 c2
      go_loopg [25] p (fun g s25 wr => ∃ (j : Nat) (lv : Value), s25 = .int .i64 (j : Int) ∧ g = p - j ∧ j ≤ p ∧ Made wr g8 k s ((m.take j).map (shI d)) lv ∧ wo.grownBy wr none)
      case atStart => exact ⟨0, _, rfl, rfl, Nat.zero_le _, HM.out.1, HM.out.2.1⟩
      case round =>
        obtain ⟨j, lv, rfl, hgj, hj, hmd, hgr2⟩ := hrel
        have HMD := Lib.hid hmd
        have HGJ := Lib.hid (And.intro hgj hgr2); clear hgj hgr2
        have hjlen : ((m.take j).map (shI d)).length = j := by rw [List.length_map, List.length_take, HI.out.2.2]; omega
        have HJL := Lib.hid hjlen; clear hjlen
        obtain ⟨e0, e1, e2, ef, -, eown⟩ := hmd
        rw [HJL.out] at eown
        obtain ⟨ga', gc', rfl⟩ := own_shape eown
        have HOW := Lib.hid eown; clear eown
        by_cases hjp : j < p
        · have hjB : decide (j < p) = true := by simpa using hjp
          have hjI : (j : Int) < (p : Int) := by omega
          obtain ⟨y, hy⟩ : ∃ y, m[j]? = some y := ⟨_, List.getElem?_eq_getElem (by rw [HI.out.2.2]; exact hjp)⟩
          obtain ⟨mb, mo, rfl, ce⟩ := (HI.out.1.grown HGJ.out.2).2 j y hy
          obtain ⟨hy1', hy2'⟩ := HI.out.2.1 y (List.mem_of_getElem? hy)
          have HY := Lib.hid (shS_take (d := d) hy); clear hy
          have hlt8 := World.block_lt_of_cell? _ _ e0
          simp only at hlt8
          by_cases hneg : y < 0
          · have dn : decide (y < 0) = true := by simpa using hneg
            have HSH : Hid (shI d y = y - d) := Lib.hid (by unfold shI; rw [if_pos hneg])
            go_wp2_with (at_builtin; refine wpList_append_own _ rfl _ _ 41 rfl (g8 + 1) 3 i0 (.int .i64 0) 1 8 Tryd.underlying41 hi0 hz0 hz1 hz2 rfl (by decide) _ _ _ rfl (HOW.out.alloc _) ⟨wr.heap.size, 0, none⟩ 1 1 [.int .i64 (y - d)] rfl rfl (cell_one_new _ _ _) (fun u hu => by simp at hu; subst hu; rfl) (by unfold maxLen; omega) (by omega) (by simp; omega) ?_; intro v' w3 hown' hgrow3 _; obtain ⟨va', vc', rfl⟩ := own_shape hown'; obtain ⟨f0, f1, f2, ff, -, -⟩ := HMD.out.at_ hgrow3)
            go_roundg (p - (j + 1))
            case measure => rw [HGJ.out.1]; omega
            case rel =>
              refine ⟨j + 1, .slice va' (j + 1) vc', rfl, rfl, by omega, ?_, ?_⟩
              · rw [HY.out, HSH.out]; exact HMD.out.step hgrow3 (by rw [HJL.out]; exact hown')
              · exact grown_step HGJ.out.2 hgrow3 (fun x hx => by have := (HOW.out.lt x hx).1; have := HM.out.2.2; omega) (by have := HM.out.2.2; omega)
          · have dn : decide (y < 0) = false := by simpa using hneg
            have HSH : Hid (shI d y = y + d) := Lib.hid (by unfold shI; rw [if_neg hneg])
            go_wp2_with (at_builtin; refine wpList_append_own _ rfl _ _ 41 rfl (g8 + 1) 3 i0 (.int .i64 0) 1 8 Tryd.underlying41 hi0 hz0 hz1 hz2 rfl (by decide) _ _ _ rfl (HOW.out.alloc _) ⟨wr.heap.size, 0, none⟩ 1 1 [.int .i64 (y + d)] rfl rfl (cell_one_new _ _ _) (fun u hu => by simp at hu; subst hu; rfl) (by unfold maxLen; omega) (by omega) (by simp; omega) ?_; intro v' w3 hown' hgrow3 _; obtain ⟨va', vc', rfl⟩ := own_shape hown'; obtain ⟨f0, f1, f2, ff, -, -⟩ := HMD.out.at_ hgrow3)
            go_roundg (p - (j + 1))
            case measure => rw [HGJ.out.1]; omega
            case rel =>
              refine ⟨j + 1, .slice va' (j + 1) vc', rfl, rfl, by omega, ?_, ?_⟩
              · rw [HY.out, HSH.out]; exact HMD.out.step hgrow3 (by rw [HJL.out]; exact hown')
              · exact grown_step HGJ.out.2 hgrow3 (fun x hx => by have := (HOW.out.lt x hx).1; have := HM.out.2.2; omega) (by have := HM.out.2.2; omega)
        · have hje : j = p := by omega
          subst hje
          have hjB : decide (j < j) = false := by simp
          have hmm : (m.take j).map (shI d) = m.map (shI d) := by rw [List.take_of_length_le (by rw [HI.out.2.2]; exact Nat.le_refl _)]
          have hown2 := HMD.out.own
          rw [hmm] at hown2
          obtain ⟨ra, rc, hre, hri, hrb⟩ := own_ints hown2
          have hOq := HO.out.quiet (r := none) HGJ.out.2 (fun k hk => by cases hk)
          rw [List.length_map, HI.out.2.2] at hre
          cases hre
          have HR := Lib.hid (And.intro hri (And.intro hrb (And.intro hOq hmm))); clear hri hrb hOq hmm hown2
          have hq1 : q ≤ 100000 := by have := HQ.out; have := HGI.out.2.2.1; omega
          have howno : Hid (wr.ownsRow B 43 3 (.slice va q vc) q (rowCells D)) := Lib.hid (by have := HR.out.2.2.1.own; rw [HQ.out] at this; exact this)
          go_wp2_with (at_builtin; refine wpList_append_own_at _ rfl _ _ 23 rfl B 43 j0 (.agg #[.int .i64 0, .slice none 0 0, .int .i64 0]) 3 40 Tryd.underlying23 hj0 hy0 hy1 hy2 rfl (by decide) _ _ _ rfl (howno.out.alloc _) ⟨wr.heap.size, 0, none⟩ 1 1 [.int .i64 k, .slice ga' j gc', .int .i64 s] rfl rfl (cell_three_new _ _ _ _ _) (fun u hu => by simp at hu; rcases hu with rfl | rfl | rfl <;> rfl) (by unfold maxLen; omega) (by omega) (by have := HB.out; have := HGI.out.2.2.2.size; have := HGJ.out.2.size; simp; omega) ?_; intro v' w3 hown' hgrow3 _ hat3; obtain ⟨va', vc', rfl⟩ := own_shape hown')
          go_roundg (n - (i + 1))
          case measure => rw [HGI.out.1]; omega
          case rel =>
            have hown3 : w3.ownsRow B 43 3 (.slice va' (q + 1) vc') (D.length + 1) (rowCells D ++ stepCells ((k, m.map (shI d), s), ga', gc')) := by
              rw [HQ.out]
              simp only [stepCells, List.length_map, HI.out.2.2]
              exact hown'
            have hoff : ∀ x, ga' = some x → (Value.slice va q vc).ownBlock ≠ some x.block ∧ B ≤ x.block ∧ x.block < wr.heap.size := by
              intro x hx
              obtain ⟨h1, h2⟩ := HR.out.2.1 x hx
              have h3 := HM.out.2.2
              have h4 := HGI.out.2.2.2.size
              have h5 := HB.out
              refine ⟨fun e => ?_, by omega, h2⟩
              have := (HO.out.own.lt x.block (by rw [HQ.out]; exact e)).2
              omega
            have hpush := HR.out.2.2.1.push (x := (k, m.map (shI d), s)) (la := ga') (lc := gc') (o := .cells #[.int .i64 k, .slice ga' j gc', .int .i64 s] 43) HR.out.1 (by rw [HQ.out]; exact hoff) hown3 (by rw [HQ.out]; exact hgrow3) (by rw [HQ.out]; exact hat3)
            refine ⟨i + 1, .slice va' (q + 1) vc', D ++ [((k, m.map (shI d), s), ga', gc')], rfl, rfl, rfl, by omega, hpush, ?_, by rw [List.length_append, HGI.out.2.2.1]; rfl, ?_⟩
            · rw [List.map_append, HGI.out.2.1, List.take_add_one, HX.out, Option.toList_some, List.map_append]; rfl
            · exact grown_own ((HGI.out.2.2.2.trans HGJ.out.2).trans (World.grownBy_alloc _ _ none)) hgrow3 (fun x hx => by have := (howno.out.lt x hx).1; have := HB.out; omega)
    · have hie : i = n := by omega
      subst hie
      have hinB : decide (i < i) = false := by simp
      have HF : Hid (D.map (·.1) = shL d l) := Lib.hid (by rw [HGI.out.2.1, List.take_of_length_le (by rw [HH.out.1]; exact Nat.le_refl _)]; rfl)
      obtain ⟨ra, rc, hre, hst⟩ := HO.out.steps
      rw [HF.out] at hst
      rw [List.length_map, HGI.out.2.2.1] at hre
      rw [HGI.out.2.2.1]
      cases hre
      have HST := Lib.hid hst; clear hst
      go_wp2
      go_ret
      exact ⟨_, _, rfl, HST.out, HGI.out.2.2.2⟩
end Go.Proofs.YtgeidnfigncepaaDoor
