/- Texts of the proof: S2. -/
import Derived.Test.YthkjjiijjedipaaDoorCD12
namespace Go.Proofs.YthkjjiijjedipaaDoor
open Go.RowKit Go.Maps Go.Sort Go.Shelf

attribute [local go_sem] Oper.semAt_some

theorem own_quiet {W W' : World} {B Bq n k : Nat} {e : TypeId} {v : Value} {xs : List Value} (h : W.ownsRow B e k v n xs) (hq : Quiet Bq W W') : W'.ownsRow B e k v n xs := by
  obtain ⟨row, hg, hr⟩ := hq
  refine h.kept hg ?_
  rcases h.2 with ⟨rfl, _⟩ | ⟨g, cap, cur, rfl, _, hgb, _⟩
  · exact .inl rfl
  · refine .inr (fun e => ?_)
    obtain ⟨_, o, ho, hc⟩ := hr g e.symm
    rw [hgb] at ho
    cases ho
    cases hc
/-- Between two rounds: the box holds what has come. -/
structure ApI (W0 : World) (Bs : Nat) (s : List Int) (W : World) : Prop where
  ex : ∃ v, W.cell? ⟨Bs, 0, none⟩ = some v ∧ W.ownsRow (Bs + 1) 3 1 v s.length (intCells s)
  fr : W.frozen? ⟨Bs, 0, none⟩ = false
  grown : W0.grownBy W none
  low : W0.heap.size ≤ Bs ∧ Bs < W.heap.size
def ApS (Bs : Nat) (W : World) (b : Nat) : Prop := b < W.heap.size ∧ b ≠ Bs ∧ ∀ v, W.cell? ⟨Bs, 0, none⟩ = some v → v.ownBlock ≠ some b
theorem apI_abide (W0 : World) (Bs B : Nat) (hB : Bs < B) : AbideG B (ApI W0 Bs) (ApS Bs) := by
  refine ⟨?_, ?_, ?_⟩
  · rintro s A A' h hq
    obtain ⟨v, hc, ho⟩ := h.ex
    have hq2 := hq
    obtain ⟨row, hg, hr⟩ := hq
    exact ⟨⟨v, Quiet.cell hq2 hc, own_quiet ho hq2⟩, (World.frozen?_of_block (a := ⟨Bs, 0, none⟩) (hg.block Bs h.low.2 (fun e => by have := (hr _ e.symm).1; omega))).trans h.fr, grown_own h.grown hg (fun k hk => by have := (hr _ hk).1; have := h.low.1; omega), h.low.1, Nat.lt_of_lt_of_le h.low.2 hg.size⟩
  · rintro s A A' b h hq ⟨h1, h2, h3⟩
    obtain ⟨v, hc, ho⟩ := h.ex
    have hc' := Quiet.cell hq hc
    exact ⟨Nat.lt_of_lt_of_le h1 hq.size, h2, fun v' e => by rw [hc'] at e; cases e; exact h3 v hc⟩
  · rintro s A A' b h hq h1 h2
    obtain ⟨v, hc, ho⟩ := h.ex
    have hc' := Quiet.cell hq hc
    exact ⟨h2, by have := h.low.2; omega, fun v' e e2 => by rw [hc'] at e; cases e; have := (ho.lt b e2).2; omega⟩
theorem cell_int_new (w : World) (z : Int) (t : TypeId) : ∀ j u, [Value.int .i64 z][j]? = some u → (w.alloc (.cells #[.int .i64 z] t)).cell? ((⟨w.heap.size, 0, none⟩ : Addr).add j) = some u := by
  intro j u hj
  rcases j with _ | j
  · simp at hj; subst hj; rw [add_at]; exact (one_cell w _ t).2.1
  · simp at hj

set_option maxRecDepth 100000 in
set_option maxHeartbeats 8000000 in
theorem appendSeq_calls (zs : List Int) (a : Option Addr) (c Bm : Nat) (w : World) (hm : w.cell? ⟨Bm, 0, none⟩ = some (.slice a zs.length c)) (h : IntsW w a c zs) (hl : zs.length ≤ 100000) :
    Calls Tryd.prog 56 #[.slice none 0 0, .func (.func 53) #[] #[.pointer (some ⟨Bm, 0, none⟩)]] w fun e w' => ∃ v, e = .returned v ∧ w'.ownsRow (w.heap.size + 1) 3 1 v zs.length (intCells zs) ∧ w.grownBy w' none := by
  have hzw := intsW_span h
  have hg1 := World.grownBy_alloc w (.cells #[.slice none 0 0] 28) none
  have e1 := one_cell w (.slice none 0 0) 28
  obtain ⟨W1, hW1⟩ : ∃ W, w.alloc (.cells #[.slice none 0 0] 28) = W := ⟨_, rfl⟩
  have hs1 : W1.heap.size = w.heap.size + 1 := by rw [← hW1]; simp
  rw [hW1] at hg1 e1
  have HG := Lib.hid (And.intro hg1 (And.intro hs1 e1))
  have HM := Lib.hid (And.intro hm (And.intro hzw hl))
  have HIN : Hid (ApI w w.heap.size [] W1) := Lib.hid ⟨⟨_, e1.2.1, World.ownsRow_nil _ _ _ _⟩, e1.2.2, hg1, Nat.le_refl _, e1.1⟩
  have HCP : Hid (∀ b, b < w.heap.size → ApS w.heap.size W1 b) := Lib.hid (fun b hb => ⟨by omega, by omega, fun v e => by rw [e1.2.1] at e; cases e; simp [Value.ownBlock]⟩)
  clear hg1 e1 hs1 hm h hzw
  refine (callsIn_wide (n := 3)).1 ?_
  refine callsIn_of_wp_marks Tryd.func56 rfl trivial ?_ rfl
  simp only [Tryd.ntmps56, List.size_toArray, List.length_cons, List.length_nil, Nat.reduceAdd, Nat.reduceSub, Array.replicate_succ, Array.replicate_zero, List.push_toArray, List.append_toArray, List.nil_append, List.cons_append]
  refine wpIn_wide.2 ?_
  go_wp2_with fail
  clear hW1
  refine wpIn_wide.1 (rangeYesG (n := 3) (vals := oneV) (gf := 53) (lb := #[.pointer (some ⟨Bm, 0, none⟩)]) rfl rfl rfl trivial (enters_of Tryd.func53 (by kernel_rfl) rfl) (fun _ => rfl)
    (caps := fun b => b < w.heap.size) (xs := zs) (fun U g => values_gives zs a c Bm w.heap.size U (g.cell (HG.out.1.cell HM.out.1 (by simp)) (by simp)) ((HM.out.2.1.grown HG.out.1).grown g) HM.out.2.2)
    (ApI w w.heap.size) (ApS w.heap.size) (apI_abide w w.heap.size _ (by have := HG.out.2.1; omega)) HCP.out HIN.out ?round ?done)
  case round =>
    intro l' pre x V hF hpre
    have HPL := Lib.hid (show pre.length ≤ 100000 by
      have h1 := hpre.length_le
      have h2 := HM.out.2.2
      simp only [List.length_append, List.length_cons, List.length_nil] at h1
      omega)
    clear hF hpre
    simp only [oneV]
    gi_wp2
    refine ⟨trivial, fun W2 hF2 => ?_⟩
    obtain ⟨v2, hb, ho2⟩ := hF2.ex
    have hb' := hb
    have HF2 := Lib.hid (And.intro hF2 ho2); clear hF2
    obtain ⟨i0, hi0, hz0, hz1, hz2⟩ := info_parts info3
    have hnew := cell_int_new W2 x 3
    obtain ⟨p, hp⟩ : ∃ p, pre.length = p := ⟨_, rfl⟩
    obtain ⟨Lp, hLp⟩ : ∃ L, intCells pre = L := ⟨_, rfl⟩
    rw [hp, hLp] at ho2
    rw [hp] at HPL
    have HPE := Lib.hid (And.intro hp hLp)
    clear hp hLp
    gi_wp2_with (gi_at_builtin; refine wpListIn_append_own_at _ rfl _ _ 28 rfl (w.heap.size + 1) 3 i0 (.int .i64 0) 1 8 Tryd.underlying28 hi0 hz0 hz1 hz2 rfl (by decide) _ p Lp rfl (ho2.alloc _) ⟨W2.heap.size, 0, none⟩ 1 1 [.int .i64 x] rfl rfl hnew (fun u hu => by simp at hu; subst hu; rfl) (by have := HPL.out; unfold maxLen; omega) (by have := HPL.out; omega) (by have := HF2.out.1.low; simp; omega) ?_)
    intro v' w6 hown hgrow _ hat
    obtain ⟨rgA, rcA, rfl⟩ := own_shape hown
    have hga := World.grownBy_alloc W2 (.cells #[.int .i64 x] 3) none
    have neB : some w.heap.size ≠ v2.ownBlock := fun e => by have := (HF2.out.2.lt _ e.symm).1; omega
    have hltB : w.heap.size < W2.heap.size := HF2.out.1.low.2
    have r1 := hgrow.cell (hga.cell hb (by simp)) neB
    have r2 : w6.frozen? ⟨w.heap.size, 0, none⟩ = false := (World.frozen?_of_block (a := ⟨w.heap.size, 0, none⟩) (hgrow.block w.heap.size (Nat.lt_of_lt_of_le hltB hga.size) neB)).trans ((grown_frozen hga hltB 0).trans HF2.out.1.fr)
    have HST : Hid (ApI w w.heap.size (pre ++ [x]) (w6.setCell ⟨w.heap.size, 0, none⟩ (.slice rgA (p + 1) rcA)) ∧ Saved (ApS w.heap.size) W2 (w6.setCell ⟨w.heap.size, 0, none⟩ (.slice rgA (p + 1) rcA))) := Lib.hid (by
      have hs := grown_set w6 w.heap.size 0 (.slice rgA (p + 1) rcA)
      have hcs := World.cell?_setCell_same w6 ⟨w.heap.size, 0, none⟩ (.slice rgA (p + 1) rcA) r1
      have hlt' : ∀ g, (Value.slice rgA (p + 1) rcA).ownBlock = some g → w.heap.size + 1 ≤ g := fun g e => (hown.lt g e).1
      refine ⟨⟨⟨_, hcs, ?_⟩, by rw [World.frozen?_setCell]; exact r2, grown_own (grown_own (World.grownBy.trans HF2.out.1.grown hga) hgrow (fun k hk => by have := (HF2.out.2.lt k hk).1; omega)) hs (fun k hk => by cases hk; exact Nat.le_refl _), Nat.le_refl _, Nat.lt_of_lt_of_le hltB (Nat.le_trans hga.size (Nat.le_trans hgrow.size hs.size))⟩, fun b hb => ⟨?_, ?_⟩⟩
      · rw [List.length_append, HPE.out.1, intCells, List.map_append, ← intCells, HPE.out.2]
        exact hown.kept hs (by
          cases hv : (Value.slice rgA (p + 1) rcA).ownBlock with
          | none => exact .inl rfl
          | some g => exact .inr (fun e => by have := hlt' g hv; cases e; omega))
      · obtain ⟨h1, h2, h3⟩ := hb
        have nb := h3 v2 hb'
        exact (hs.block b (Nat.lt_of_lt_of_le h1 (Nat.le_trans hga.size hgrow.size)) (fun e => h2 (Option.some.inj e))).trans ((hgrow.block b (Nat.lt_of_lt_of_le h1 hga.size) (fun e => nb e.symm)).trans (hga.block b h1 (by simp)))
      · obtain ⟨h1, h2, h3⟩ := hb
        refine ⟨Nat.lt_of_lt_of_le h1 (Nat.le_trans hga.size (Nat.le_trans hgrow.size hs.size)), h2, fun v e e2 => ?_⟩
        rw [hcs] at e
        cases e
        rcases hat with q | q
        · exact h3 v2 hb' (by rw [← q]; exact e2)
        · rw [q] at e2; injection e2 with e2; omega)
    clear hown hgrow hat hnew hga
    gi_wp2_with fail
    exact HST.out
  case done =>
    intro D V hD hF hsD hdef
    obtain ⟨v, hb, ho⟩ := hF.ex
    have HF := Lib.hid (And.intro hF (And.intro ho (And.intro hsD (And.intro hdef hD))))
    clear hF hsD hdef hD ho
    go_wp2_with fail
    refine ⟨by simp, .inl ⟨D, _, rfl, run_takeDeferred HF.out.2.2.2.1, _, results_tmp rfl _ _ _, v, rfl, HF.out.2.1.kept (grownBy_putObj' V D (.deferred none)) (.inr (HF.out.2.2.1.2.2 v hb)), grown_own HF.out.1.grown (grownBy_putObj' V D (.deferred none)) (fun k hk => by cases hk; have h1 := HF.out.2.2.2.2; have h2 := HG.out.2.1; omega)⟩⟩
theorem collect_calls (zs : List Int) (a : Option Addr) (c Bm : Nat) (w : World) (hm : w.cell? ⟨Bm, 0, none⟩ = some (.slice a zs.length c)) (h : IntsW w a c zs) (hl : zs.length ≤ 100000) :
    Calls Tryd.prog 51 #[.func (.func 53) #[] #[.pointer (some ⟨Bm, 0, none⟩)]] w fun e w' => ∃ v, e = .returned v ∧ w'.ownsRow (w.heap.size + 1) 3 1 v zs.length (intCells zs) ∧ w.grownBy w' none := by
  have HC := Lib.hid (appendSeq_calls zs a c Bm w hm h hl)
  clear hm h hl
  go_enter Tryd.func51, Tryd.ntmps51
  go_wp2_with fail
  refine HC.out.mono ?_
  rintro e w' ⟨v, rfl, h1, h2⟩
  have HH := Lib.hid (And.intro h1 h2)
  clear h1 h2
  go_wp2_with fail
  go_ret
  exact ⟨v, rfl, HH.out.1, HH.out.2⟩
def msort (zs : List Int) : List Int := zs.mergeSort fun x y => decide (x ≤ y)
theorem msort_len (zs : List Int) : (msort zs).length = zs.length := (List.mergeSort_perm zs _).length_eq
set_option maxHeartbeats 2000000 in
theorem sorted_calls (zs : List Int) (a : Option Addr) (c Bm : Nat) (w : World) (hm : w.cell? ⟨Bm, 0, none⟩ = some (.slice a zs.length c)) (h : IntsW w a c zs) (hl : zs.length ≤ 100000) :
    Calls Tryd.prog 45 #[.func (.func 53) #[] #[.pointer (some ⟨Bm, 0, none⟩)]] w fun e w' => ∃ v, e = .returned v ∧ w'.ownsRow (w.heap.size + 1) 3 1 v zs.length (intCells (msort zs)) ∧ w.grownBy w' none := by
  have HC := Lib.hid (collect_calls zs a c Bm w hm h hl)
  have HL := Lib.hid hl
  clear hm h hl
  go_enter Tryd.func45, Tryd.ntmps45
  go_wp2_with fail
  refine HC.out.mono ?_
  rintro e W ⟨v, rfl, hrow, hgr⟩
  have HG := Lib.hid hgr
  clear hgr
  rcases hrow.2 with ⟨rfl, hz⟩ | ⟨gb, cap, cur, rfl, hbase, hgb, r1, r2, r3, r4⟩
  · have hss : zs = [] := List.eq_nil_of_length_eq_zero hz
    subst hss
    have HS := Lib.hid (AnyM.slices_Sort_int_none Tryd.sortA none 0 W)
    clear hrow
    go_wp2_with fail
    refine HS.out.mono ?_
    rintro e w' ⟨rfl, rfl⟩
    go_wp2_with fail
    go_ret
    exact ⟨_, rfl, by rw [show msort [] = [] from by simp [msort]]; exact World.ownsRow_nil _ _ _ _, HG.out⟩
  · have hH : Holds (Value.int .i64) W gb 0 zs.toArray := holds_of_block_i hgb (by simpa using r4)
    have hgl : gb < W.heap.size := (Array.getElem?_eq_some_iff.1 hgb).1
    have HS := Lib.hid (AnyM.slices_Sort_int Tryd.sortA gb 0 cap zs W hH hgl (by have := HL.out; omega))
    have HR := Lib.hid (And.intro hbase (And.intro hgb (And.intro r1 (And.intro r2 r3))))
    obtain ⟨p, hp⟩ : ∃ p, zs.length = p := ⟨_, rfl⟩
    rw [hp] at HS
    have HP := Lib.hid hp
    rw [hp]
    clear hrow hH hgl hbase hgb r1 r2 r3 r4 hp
    go_wp2_with fail
    refine HS.out.mono ?_
    rintro e w' ⟨rfl, nn, os, hw'⟩
    have HW := Lib.hid hw'
    clear hw'
    go_wp2_with fail
    go_ret
    have hw : w' = grow (putRow encZ (Sort.ahead W nn) gb 0 (msort zs).toArray) os := HW.out
    obtain ⟨hbase, hgb, r1, r2, r3⟩ := HR.out
    have ho : w'.ownsRow (w.heap.size + 1) 3 1 (.slice (some ⟨gb, 0, none⟩) zs.length cap) zs.length (intCells (msort zs)) := by rw [hw]; exact ownsRow_sorted_i (msort_len zs) hbase hgb r1 r2 r3
    exact ⟨_, rfl, by rw [← HP.out]; exact ho, grown_own HG.out (by rw [hw]; exact grownBy_sorted_i _) (fun k hk => by cases hk; omega)⟩
end Go.Proofs.YthkjjiijjedipaaDoor
