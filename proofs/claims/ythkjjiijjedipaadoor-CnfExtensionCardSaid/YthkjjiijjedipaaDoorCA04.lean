/- Texts of the proof: S2 S3 T0. -/
import Derived.Test.YthkjjiijjedipaaDoorCA03
import Derived.Shelf.Strings.Builder1
import Derived.Shelf.Strconv.Itoa0
import Derived.Shelf.Strconv.Itoa1
import Derived.Shelf.LaysM
import Derived.Shelf.Strconv.Itoa2
import Derived.Shelf.Strconv.Itoa3
import Derived.Lib.AppendIntMem
import Derived.OrdersHeld
import Derived.Deep.RegionHeld
namespace Go.Proofs.YthkjjiijjedipaaDoor
open Go.RowKit Go.Maps Go.Sort Go.Shelf

attribute [local go_sem] Oper.semAt_some

theorem own_quiet {W W' : World} {B Bq n k : Nat} {e : TypeId} {v : Value} {xs : List Value} (h : W.ownsRow B e k v n xs) (hq : Quiet Bq W W') : W'.ownsRow B e k v n xs := by
  obtain ⟨row, hg, hr⟩ := hq
  refine h.kept hg ?_
  rcases h.2 with ⟨rfl, _⟩ | ⟨g, cap, cur, rfl, _, hgb, _⟩
  · exact .inl rfl
  · refine .inr (fun e => ?_)
    obtain ⟨_, o, ho, hc⟩ := hr g e.symm
    rw [hgb] at ho
    cases ho
    cases hc
/-- Between two rounds: the box holds what has come. -/
structure ApI (W0 : World) (Bs : Nat) (s : List Int) (W : World) : Prop where
  ex : ∃ v, W.cell? ⟨Bs, 0, none⟩ = some v ∧ W.ownsRow (Bs + 1) 3 1 v s.length (intCells s)
  fr : W.frozen? ⟨Bs, 0, none⟩ = false
  grown : W0.grownBy W none
  low : W0.heap.size ≤ Bs ∧ Bs < W.heap.size
def ApS (Bs : Nat) (W : World) (b : Nat) : Prop := b < W.heap.size ∧ b ≠ Bs ∧ ∀ v, W.cell? ⟨Bs, 0, none⟩ = some v → v.ownBlock ≠ some b
theorem apI_abide (W0 : World) (Bs B : Nat) (hB : Bs < B) : AbideG B (ApI W0 Bs) (ApS Bs) := by
  refine ⟨?_, ?_, ?_⟩
  · rintro s A A' h hq
    obtain ⟨v, hc, ho⟩ := h.ex
    have hq2 := hq
    obtain ⟨row, hg, hr⟩ := hq
    exact ⟨⟨v, Quiet.cell hq2 hc, own_quiet ho hq2⟩, (World.frozen?_of_block (a := ⟨Bs, 0, none⟩) (hg.block Bs h.low.2 (fun e => by have := (hr _ e.symm).1; omega))).trans h.fr, grown_own h.grown hg (fun k hk => by have := (hr _ hk).1; have := h.low.1; omega), h.low.1, Nat.lt_of_lt_of_le h.low.2 hg.size⟩
  · rintro s A A' b h hq ⟨h1, h2, h3⟩
    obtain ⟨v, hc, ho⟩ := h.ex
    have hc' := Quiet.cell hq hc
    exact ⟨Nat.lt_of_lt_of_le h1 hq.size, h2, fun v' e => by rw [hc'] at e; cases e; exact h3 v hc⟩
  · rintro s A A' b h hq h1 h2
    obtain ⟨v, hc, ho⟩ := h.ex
    have hc' := Quiet.cell hq hc
    exact ⟨h2, by have := h.low.2; omega, fun v' e e2 => by rw [hc'] at e; cases e; have := (ho.lt b e2).2; omega⟩
theorem cell_int_new (w : World) (z : Int) (t : TypeId) : ∀ j u, [Value.int .i64 z][j]? = some u → (w.alloc (.cells #[.int .i64 z] t)).cell? ((⟨w.heap.size, 0, none⟩ : Addr).add j) = some u := by
  intro j u hj
  rcases j with _ | j
  · simp at hj; subst hj; rw [add_at]; exact (one_cell w _ t).2.1
  · simp at hj

set_option maxRecDepth 100000 in
set_option maxHeartbeats 8000000 in
theorem appendSeq_calls (zs : List Int) (a : Option Addr) (c Bm : Nat) (w : World) (hm : w.cell? ⟨Bm, 0, none⟩ = some (.slice a zs.length c)) (h : IntsW w a c zs) (hl : zs.length ≤ 100000) :
    Calls Tryd.prog 56 #[.slice none 0 0, .func (.func 53) #[] #[.pointer (some ⟨Bm, 0, none⟩)]] w fun e w' => ∃ v, e = .returned v ∧ w'.ownsRow (w.heap.size + 1) 3 1 v zs.length (intCells zs) ∧ w.grownBy w' none := by
  have hzw := intsW_span h
  have hg1 := World.grownBy_alloc w (.cells #[.slice none 0 0] 28) none
  have e1 := one_cell w (.slice none 0 0) 28
  obtain ⟨W1, hW1⟩ : ∃ W, w.alloc (.cells #[.slice none 0 0] 28) = W := ⟨_, rfl⟩
  have hs1 : W1.heap.size = w.heap.size + 1 := by rw [← hW1]; simp
  rw [hW1] at hg1 e1
  have HG := Lib.hid (And.intro hg1 (And.intro hs1 e1))
  have HM := Lib.hid (And.intro hm (And.intro hzw hl))
  have HIN : Hid (ApI w w.heap.size [] W1) := Lib.hid ⟨⟨_, e1.2.1, World.ownsRow_nil _ _ _ _⟩, e1.2.2, hg1, Nat.le_refl _, e1.1⟩
  have HCP : Hid (∀ b, b < w.heap.size → ApS w.heap.size W1 b) := Lib.hid (fun b hb => ⟨by omega, by omega, fun v e => by rw [e1.2.1] at e; cases e; simp [Value.ownBlock]⟩)
  clear hg1 e1 hs1 hm h hzw
  refine (callsIn_wide (n := 3)).1 ?_
  refine callsIn_of_wp_marks Tryd.func56 rfl trivial ?_ rfl
  simp only [Tryd.ntmps56, List.size_toArray, List.length_cons, List.length_nil, Nat.reduceAdd, Nat.reduceSub, Array.replicate_succ, Array.replicate_zero, List.push_toArray, List.append_toArray, List.nil_append, List.cons_append]
  refine wpIn_wide.2 ?_
  go_wp2_with fail
  clear hW1
  refine wpIn_wide.1 (rangeYesG (n := 3) (vals := oneV) (gf := 53) (lb := #[.pointer (some ⟨Bm, 0, none⟩)]) rfl rfl rfl trivial (enters_of Tryd.func53 (by kernel_rfl) rfl) (fun _ => rfl)
    (caps := fun b => b < w.heap.size) (xs := zs) (fun U g => values_gives zs a c Bm w.heap.size U (g.cell (HG.out.1.cell HM.out.1 (by simp)) (by simp)) ((HM.out.2.1.grown HG.out.1).grown g) HM.out.2.2)
    (ApI w w.heap.size) (ApS w.heap.size) (apI_abide w w.heap.size _ (by have := HG.out.2.1; omega)) HCP.out HIN.out ?round ?done)
  case round =>
    intro l' pre x V hF hpre
    have HPL := Lib.hid (show pre.length ≤ 100000 by
      have h1 := hpre.length_le
      have h2 := HM.out.2.2
      simp only [List.length_append, List.length_cons, List.length_nil] at h1
      omega)
    clear hF hpre
    simp only [oneV]
    gi_wp2
    refine ⟨trivial, fun W2 hF2 => ?_⟩
    obtain ⟨v2, hb, ho2⟩ := hF2.ex
    have hb' := hb
    have HF2 := Lib.hid (And.intro hF2 ho2); clear hF2
    obtain ⟨i0, hi0, hz0, hz1, hz2⟩ := info_parts info3
    have hnew := cell_int_new W2 x 3
    obtain ⟨p, hp⟩ : ∃ p, pre.length = p := ⟨_, rfl⟩
    obtain ⟨Lp, hLp⟩ : ∃ L, intCells pre = L := ⟨_, rfl⟩
    rw [hp, hLp] at ho2
    rw [hp] at HPL
    have HPE := Lib.hid (And.intro hp hLp)
    clear hp hLp
    gi_wp2_with (gi_at_builtin; refine wpListIn_append_own_at _ rfl _ _ 28 rfl (w.heap.size + 1) 3 i0 (.int .i64 0) 1 8 Tryd.underlying28 hi0 hz0 hz1 hz2 rfl (by decide) _ p Lp rfl (ho2.alloc _) ⟨W2.heap.size, 0, none⟩ 1 1 [.int .i64 x] rfl rfl hnew (fun u hu => by simp at hu; subst hu; rfl) (by have := HPL.out; unfold maxLen; omega) (by have := HPL.out; omega) (by have := HF2.out.1.low; simp; omega) ?_)
    intro v' w6 hown hgrow _ hat
    obtain ⟨rgA, rcA, rfl⟩ := own_shape hown
    have hga := World.grownBy_alloc W2 (.cells #[.int .i64 x] 3) none
    have neB : some w.heap.size ≠ v2.ownBlock := fun e => by have := (HF2.out.2.lt _ e.symm).1; omega
    have hltB : w.heap.size < W2.heap.size := HF2.out.1.low.2
    have r1 := hgrow.cell (hga.cell hb (by simp)) neB
    have r2 : w6.frozen? ⟨w.heap.size, 0, none⟩ = false := (World.frozen?_of_block (a := ⟨w.heap.size, 0, none⟩) (hgrow.block w.heap.size (Nat.lt_of_lt_of_le hltB hga.size) neB)).trans ((grown_frozen hga hltB 0).trans HF2.out.1.fr)
    have HST : Hid (ApI w w.heap.size (pre ++ [x]) (w6.setCell ⟨w.heap.size, 0, none⟩ (.slice rgA (p + 1) rcA)) ∧ Saved (ApS w.heap.size) W2 (w6.setCell ⟨w.heap.size, 0, none⟩ (.slice rgA (p + 1) rcA))) := Lib.hid (by
      have hs := grown_set w6 w.heap.size 0 (.slice rgA (p + 1) rcA)
      have hcs := World.cell?_setCell_same w6 ⟨w.heap.size, 0, none⟩ (.slice rgA (p + 1) rcA) r1
      have hlt' : ∀ g, (Value.slice rgA (p + 1) rcA).ownBlock = some g → w.heap.size + 1 ≤ g := fun g e => (hown.lt g e).1
      refine ⟨⟨⟨_, hcs, ?_⟩, by rw [World.frozen?_setCell]; exact r2, grown_own (grown_own (World.grownBy.trans HF2.out.1.grown hga) hgrow (fun k hk => by have := (HF2.out.2.lt k hk).1; omega)) hs (fun k hk => by cases hk; exact Nat.le_refl _), Nat.le_refl _, Nat.lt_of_lt_of_le hltB (Nat.le_trans hga.size (Nat.le_trans hgrow.size hs.size))⟩, fun b hb => ⟨?_, ?_⟩⟩
      · rw [List.length_append, HPE.out.1, intCells, List.map_append, ← intCells, HPE.out.2]
        exact hown.kept hs (by
          cases hv : (Value.slice rgA (p + 1) rcA).ownBlock with
          | none => exact .inl rfl
          | some g => exact .inr (fun e => by have := hlt' g hv; cases e; omega))
      · obtain ⟨h1, h2, h3⟩ := hb
        have nb := h3 v2 hb'
        exact (hs.block b (Nat.lt_of_lt_of_le h1 (Nat.le_trans hga.size hgrow.size)) (fun e => h2 (Option.some.inj e))).trans ((hgrow.block b (Nat.lt_of_lt_of_le h1 hga.size) (fun e => nb e.symm)).trans (hga.block b h1 (by simp)))
      · obtain ⟨h1, h2, h3⟩ := hb
        refine ⟨Nat.lt_of_lt_of_le h1 (Nat.le_trans hga.size (Nat.le_trans hgrow.size hs.size)), h2, fun v e e2 => ?_⟩
        rw [hcs] at e
        cases e
        rcases hat with q | q
        · exact h3 v2 hb' (by rw [← q]; exact e2)
        · rw [q] at e2; injection e2 with e2; omega)
    clear hown hgrow hat hnew hga
    gi_wp2_with fail
    exact HST.out
  case done =>
    intro D V hD hF hsD hdef
    obtain ⟨v, hb, ho⟩ := hF.ex
    have HF := Lib.hid (And.intro hF (And.intro ho (And.intro hsD (And.intro hdef hD))))
    clear hF hsD hdef hD ho
    go_wp2_with fail
    refine ⟨by simp, .inl ⟨D, _, rfl, run_takeDeferred HF.out.2.2.2.1, _, results_tmp rfl _ _ _, v, rfl, HF.out.2.1.kept (grownBy_putObj' V D (.deferred none)) (.inr (HF.out.2.2.1.2.2 v hb)), grown_own HF.out.1.grown (grownBy_putObj' V D (.deferred none)) (fun k hk => by cases hk; have h1 := HF.out.2.2.2.2; have h2 := HG.out.2.1; omega)⟩⟩
theorem collect_calls (zs : List Int) (a : Option Addr) (c Bm : Nat) (w : World) (hm : w.cell? ⟨Bm, 0, none⟩ = some (.slice a zs.length c)) (h : IntsW w a c zs) (hl : zs.length ≤ 100000) :
    Calls Tryd.prog 51 #[.func (.func 53) #[] #[.pointer (some ⟨Bm, 0, none⟩)]] w fun e w' => ∃ v, e = .returned v ∧ w'.ownsRow (w.heap.size + 1) 3 1 v zs.length (intCells zs) ∧ w.grownBy w' none := by
  have HC := Lib.hid (appendSeq_calls zs a c Bm w hm h hl)
  clear hm h hl
  go_enter Tryd.func51, Tryd.ntmps51
  go_wp2_with fail
  refine HC.out.mono ?_
  rintro e w' ⟨v, rfl, h1, h2⟩
  have HH := Lib.hid (And.intro h1 h2)
  clear h1 h2
  go_wp2_with fail
  go_ret
  exact ⟨v, rfl, HH.out.1, HH.out.2⟩
def msort (zs : List Int) : List Int := zs.mergeSort fun x y => decide (x ≤ y)
theorem msort_len (zs : List Int) : (msort zs).length = zs.length := (List.mergeSort_perm zs _).length_eq
set_option maxHeartbeats 2000000 in
theorem sorted_calls (zs : List Int) (a : Option Addr) (c Bm : Nat) (w : World) (hm : w.cell? ⟨Bm, 0, none⟩ = some (.slice a zs.length c)) (h : IntsW w a c zs) (hl : zs.length ≤ 100000) :
    Calls Tryd.prog 45 #[.func (.func 53) #[] #[.pointer (some ⟨Bm, 0, none⟩)]] w fun e w' => ∃ v, e = .returned v ∧ w'.ownsRow (w.heap.size + 1) 3 1 v zs.length (intCells (msort zs)) ∧ w.grownBy w' none := by
  have HC := Lib.hid (collect_calls zs a c Bm w hm h hl)
  have HL := Lib.hid hl
  clear hm h hl
  go_enter Tryd.func45, Tryd.ntmps45
  go_wp2_with fail
  refine HC.out.mono ?_
  rintro e W ⟨v, rfl, hrow, hgr⟩
  have HG := Lib.hid hgr
  clear hgr
  rcases hrow.2 with ⟨rfl, hz⟩ | ⟨gb, cap, cur, rfl, hbase, hgb, r1, r2, r3, r4⟩
  · have hss : zs = [] := List.eq_nil_of_length_eq_zero hz
    subst hss
    have HS := Lib.hid (AnyM.slices_Sort_int_none Tryd.sortA none 0 W)
    clear hrow
    go_wp2_with fail
    refine HS.out.mono ?_
    rintro e w' ⟨rfl, rfl⟩
    go_wp2_with fail
    go_ret
    exact ⟨_, rfl, by rw [show msort [] = [] from by simp [msort]]; exact World.ownsRow_nil _ _ _ _, HG.out⟩
  · have hH : Holds (Value.int .i64) W gb 0 zs.toArray := holds_of_block_i hgb (by simpa using r4)
    have hgl : gb < W.heap.size := (Array.getElem?_eq_some_iff.1 hgb).1
    have HS := Lib.hid (AnyM.slices_Sort_int Tryd.sortA gb 0 cap zs W hH hgl (by have := HL.out; omega))
    have HR := Lib.hid (And.intro hbase (And.intro hgb (And.intro r1 (And.intro r2 r3))))
    obtain ⟨p, hp⟩ : ∃ p, zs.length = p := ⟨_, rfl⟩
    rw [hp] at HS
    have HP := Lib.hid hp
    rw [hp]
    clear hrow hH hgl hbase hgb r1 r2 r3 r4 hp
    go_wp2_with fail
    refine HS.out.mono ?_
    rintro e w' ⟨rfl, nn, os, hw'⟩
    have HW := Lib.hid hw'
    clear hw'
    go_wp2_with fail
    go_ret
    have hw : w' = grow (putRow encZ (Sort.ahead W nn) gb 0 (msort zs).toArray) os := HW.out
    obtain ⟨hbase, hgb, r1, r2, r3⟩ := HR.out
    have ho : w'.ownsRow (w.heap.size + 1) 3 1 (.slice (some ⟨gb, 0, none⟩) zs.length cap) zs.length (intCells (msort zs)) := by rw [hw]; exact ownsRow_sorted_i (msort_len zs) hbase hgb r1 r2 r3
    exact ⟨_, rfl, by rw [← HP.out]; exact ho, grown_own HG.out (by rw [hw]; exact grownBy_sorted_i _) (fun k hk => by cases hk; omega)⟩
end Go.Proofs.YthkjjiijjedipaaDoor

namespace Go.Proofs
open Go.Shelf
def Tryd.lays169_ren : Go.Shelf.Ren := ⟨fun | 169 => 49 | n => n, fun | 70 => 72 | 9 => 9 | 0 => 0 | 72 => 75 | 37 => 73 | 127 => 88 | 3 => 3 | 5 => 5 | n => n, fun | n => n⟩
theorem Tryd.lays169 : Go.Proofs.Lays.n169 Tryd.prog Tryd.lays169_ren where
  mixed := by kernel_rfl
  f169 := Tryd.func49.trans (congrArg some (by kernel_rfl))
  t0 := Tryd.underlying0
  a0 := Tryd.isAgg0
  z0 := Tryd.sizeOf0
  v0 := Tryd.zeroValue0
  t3 := Tryd.underlying3
  a3 := Tryd.isAgg3
  z3 := Tryd.sizeOf3
  v3 := Tryd.zeroValue3
  t9 := Tryd.underlying9
  a9 := Tryd.isAgg9
  z9 := Tryd.sizeOf9
  v9 := Tryd.zeroValue9
  t37 := Tryd.underlying73
  a37 := Tryd.isAgg73
  z37 := Tryd.sizeOf73
  v37 := Tryd.zeroValue73
  t70 := Tryd.underlying72
  a70 := Tryd.isAgg72
  z70 := Tryd.sizeOf72
  v70 := Tryd.zeroValue72
  t72 := Tryd.underlying75
  a72 := Tryd.isAgg75
  z72 := Tryd.sizeOf75
  v72 := Tryd.zeroValue75
  t127 := Tryd.underlying88
  a127 := Tryd.isAgg88
  z127 := Tryd.sizeOf88
  v127 := Tryd.zeroValue88
def Tryd.laysM171_ren : Go.Shelf.Ren := ⟨fun | 171 => 48 | 243 => 55 | 246 => 60 | 283 => 72 | 284 => 73 | 285 => 74 | 286 => 75 | 129 => 71 | 317 => 82 | 318 => 83 | 319 => 84 | 320 => 85 | 337 => 87 | 338 => 88 | n => n, fun | 3 => 3 | 9 => 9 | 2 => 2 | 4 => 4 | 171 => 108 | 0 => 0 | 53 => 107 | 37 => 73 | 5 => 5 | 173 => 110 | 212 => 119 | 51 => 105 | 20 => 20 | 213 => 120 | 46 => 92 | 232 => 124 | 233 => 125 | n => n, fun | 17 => 0 | 18 => 1 | 19 => 2 | n => n⟩
theorem Tryd.laysM171 : Go.Proofs.LaysM.n171 Tryd.prog Tryd.laysM171_ren where
  mixed := by kernel_rfl
  f129 := Tryd.func71.trans (congrArg some (by kernel_rfl))
  f171 := Tryd.func48.trans (congrArg some (by kernel_rfl))
  f243 := Tryd.func55.trans (congrArg some (by kernel_rfl))
  f246 := Tryd.func60.trans (congrArg some (by kernel_rfl))
  f283 := Tryd.func72.trans (congrArg some (by kernel_rfl))
  f284 := Tryd.func73.trans (congrArg some (by kernel_rfl))
  f285 := Tryd.func74.trans (congrArg some (by kernel_rfl))
  f286 := Tryd.func75.trans (congrArg some (by kernel_rfl))
  f317 := Tryd.func82.trans (congrArg some (by kernel_rfl))
  f318 := Tryd.func83.trans (congrArg some (by kernel_rfl))
  f319 := Tryd.func84.trans (congrArg some (by kernel_rfl))
  f320 := Tryd.func85.trans (congrArg some (by kernel_rfl))
  f337 := Tryd.func87.trans (congrArg some (by kernel_rfl))
  f338 := Tryd.func88.trans (congrArg some (by kernel_rfl))
  t0 := Tryd.underlying0
  a0 := Tryd.isAgg0
  z0 := Tryd.sizeOf0
  v0 := Tryd.zeroValue0
  t2 := Tryd.underlying2
  a2 := Tryd.isAgg2
  z2 := Tryd.sizeOf2
  v2 := Tryd.zeroValue2
  t3 := Tryd.underlying3
  a3 := Tryd.isAgg3
  z3 := Tryd.sizeOf3
  v3 := Tryd.zeroValue3
  t4 := Tryd.underlying4
  a4 := Tryd.isAgg4
  z4 := Tryd.sizeOf4
  v4 := Tryd.zeroValue4
  t5 := Tryd.underlying5
  a5 := Tryd.isAgg5
  z5 := Tryd.sizeOf5
  v5 := Tryd.zeroValue5
  t9 := Tryd.underlying9
  a9 := Tryd.isAgg9
  z9 := Tryd.sizeOf9
  v9 := Tryd.zeroValue9
  t20 := Tryd.underlying20
  a20 := Tryd.isAgg20
  z20 := Tryd.sizeOf20
  v20 := Tryd.zeroValue20
  t37 := Tryd.underlying73
  a37 := Tryd.isAgg73
  z37 := Tryd.sizeOf73
  v37 := Tryd.zeroValue73
  t46 := Tryd.underlying92
  a46 := Tryd.isAgg92
  z46 := Tryd.sizeOf92
  v46 := Tryd.zeroValue92
  t51 := Tryd.underlying105
  a51 := Tryd.isAgg105
  z51 := Tryd.sizeOf105
  v51 := Tryd.zeroValue105
  t53 := Tryd.underlying107
  a53 := Tryd.isAgg107
  z53 := Tryd.sizeOf107
  v53 := Tryd.zeroValue107
  t171 := Tryd.underlying108
  a171 := Tryd.isAgg108
  z171 := Tryd.sizeOf108
  v171 := Tryd.zeroValue108
  t173 := Tryd.underlying110
  a173 := Tryd.isAgg110
  z173 := Tryd.sizeOf110
  v173 := Tryd.zeroValue110
  t212 := Tryd.underlying119
  a212 := Tryd.isAgg119
  z212 := Tryd.sizeOf119
  v212 := Tryd.zeroValue119
  t213 := Tryd.underlying120
  a213 := Tryd.isAgg120
  z213 := Tryd.sizeOf120
  t232 := Tryd.underlying124
  a232 := Tryd.isAgg124
  z232 := Tryd.sizeOf124
  v232 := Tryd.zeroValue124
  t233 := Tryd.underlying125
  a233 := Tryd.isAgg125
  z233 := Tryd.sizeOf125
  v233 := Tryd.zeroValue125
  g17 := by kernel_rfl
  g18 := by kernel_rfl
  g19 := by kernel_rfl
  i0 := by kernel_rfl
  i2 := by kernel_rfl
  i3 := by kernel_rfl
  i4 := by kernel_rfl
  i5 := by kernel_rfl
  i9 := by kernel_rfl
  i20 := by kernel_rfl
  i37 := by kernel_rfl
  i46 := by kernel_rfl
  i51 := by kernel_rfl
  i53 := by kernel_rfl
  i171 := by kernel_rfl
  i173 := by kernel_rfl
  i212 := by kernel_rfl
  i232 := by kernel_rfl
  i233 := by kernel_rfl
  m17 := by kernel_rfl
  m18 := by kernel_rfl
  m19 := by kernel_rfl

theorem Tryd.Builder_Extra_169 : Builder.Extra Tryd.prog Tryd.lays169_ren := {
  sizeBuilder := by kernel_rfl
  liesBuilder := by kernel_rfl
  t5 := Tryd.underlying5
  a5 := Tryd.isAgg5
  z5 := Tryd.sizeOf5
  v5 := Tryd.zeroValue5
  infoByte := by kernel_rfl
  cellsByte := by kernel_rfl
  sizeByte := by kernel_rfl
  neB5 := by decide }
open Go.RowKit in
theorem Tryd.Builder_String_any (B b : Nat) (l : List UInt8) (w : World) (h : Lib.IsBuilder 75 5 B b (Lib.byteCells l) w) (hBw : B ≤ w.heap.size) :
    Calls Tryd.prog 49 #[.pointer (some ⟨b, 0, none⟩)] w fun e w' => e = .returned (.string ⟨l.toArray⟩) ∧ Below B w w' := Any.Builder_String_any Tryd.lays169 Tryd.Builder_Extra_169 B b l w h hBw
open Go.RowKit Go.Sort Go.Lib in
theorem Tryd.strconv_Itoa (n : Int) (h0 : -9223372036854775808 ≤ n) (h1 : n ≤ 9223372036854775807) (w : World) (htab : Lib.TabIs Tryd.prog w "internal/strconv.uint64pow10" .u64 Lib.pow10Tab) :
    Calls Tryd.prog 48 #[.int .i64 n] w fun e w' => e = .returned (.string ⟨(Lib.itoa n).toArray⟩) ∧ ∃ k os, w' = grow (w.drewN k) os := Any.strconv_Itoa Tryd.laysM171 n h0 h1 w htab
end Go.Proofs
namespace Go.Proofs.YthkjjiijjedipaaDoor
set_option maxRecDepth 100000
open Go.RowKit Go.Sort

theorem lies75 : liesAt Tryd.prog Tryd.prog.depth 75 (2 / Tryd.prog.cellsOf 75) 0 75 1 = true := by kernel_rfl
theorem size75 : (Tryd.prog.info? 75).map (·.size) = some 2 := by kernel_rfl
theorem info5 : (Tryd.prog.info? 5).map (fun i => (i.zero, i.size, i.bytes)) = some (some (.int .u8 0), 1, 1) := by kernel_rfl

set_option maxHeartbeats 1000000 in
theorem copyCheck_used (b : Nat) (w : World) (h0 : w.cell? ⟨b, 0, none⟩ = some (.pointer (some ⟨b, 0, none⟩))) :
    Calls Tryd.prog 54 #[.pointer (some ⟨b, 0, none⟩)] w fun e w' => e = .returned (.tuple #[]) ∧ w' = w := by
  obtain ⟨j, hj, _⟩ := Option.map_eq_some_iff.1 size75
  go_enter Tryd.func54, Tryd.ntmps54
  go_wp2
  rw [Lib.run_neq_ptr_same w _ Tryd.underlying72 hj]
  go_wp2
  go_end0
  exact ⟨rfl, rfl⟩

set_option maxHeartbeats 1000000 in
theorem copyCheck_fresh (b : Nat) (w : World) (h0 : w.cell? ⟨b, 0, none⟩ = some (.pointer none)) (hsh : w.shape? b = some (75, 2)) (hfz : w.frozen? ⟨b, 0, none⟩ = false) :
    Calls Tryd.prog 54 #[.pointer (some ⟨b, 0, none⟩)] w fun e w' => e = .returned (.tuple #[]) ∧ w' = w.setCell ⟨b, 0, none⟩ (.pointer (some ⟨b, 0, none⟩)) := by
  obtain ⟨j, hj, hjs⟩ := Option.map_eq_some_iff.1 size75
  go_enter Tryd.func54, Tryd.ntmps54
  go_wp2
  rw [Lib.run_to_unsafe w ⟨b, 0, none⟩ Tryd.underlying72 Tryd.underlying93 hj (by rw [hjs]; decide) hsh (Nat.zero_lt_succ 1)]
  simp only [Result.andThen]
  rw [Oper.upon_value]
  go_wp2
  rw [run_callFunc_extern Tryd.func59 (by kernel_rfl) (by kernel_rfl) (by kernel_rfl) (e := Extern.AbiNoEscape.same) (by kernel_rfl)]
  rw [Lib.run_noEscape]
  simp only [Result.andThen]
  rw [Oper.upon_value]
  go_wp2
  rw [Lib.run_from_unsafe w ⟨b, 0, none⟩ Tryd.underlying93 Tryd.underlying72 hj hsh lies75]
  simp only [Result.andThen]
  rw [Oper.upon_value]
  go_wp2
  go_end0
  exact ⟨rfl, rfl⟩

/-- Blocks of other types than a builder's and a byte's are as they were. -/
def Kept75 (w w' : World) : Prop := ∀ (k : Nat) (cs : Array Value) (T : TypeId) (fr : Nat × Nat), w.heap[k]? = some (.cells cs T fr) → T ≠ 75 → T ≠ 5 → w'.heap[k]? = some (.cells cs T fr)
theorem Kept75.refl (w : World) : Kept75 w w := fun _ _ _ _ h _ _ => h
theorem Kept75.trans {a b c : World} (h : Kept75 a b) (k : Kept75 b c) : Kept75 a c := fun i cs T fr hi h1 h2 => k i cs T fr (h i cs T fr hi h1 h2) h1 h2
theorem Kept75.grown {w w' : World} {r : Option Nat} (hg : w.grownBy w' r) (hr : ∀ b, r = some b → ∀ cs T fr, w.heap[b]? = some (.cells cs T fr) → T = 75 ∨ T = 5) : Kept75 w w' := by
  intro k cs T fr hk h1 h2
  rw [hg.block k (Array.getElem?_eq_some_iff.1 hk).1 (fun e => by rcases hr k e.symm cs T fr hk with h | h; exact h1 h; exact h2 h)]
  exact hk
theorem own_type {w : World} {B n : Nat} {v : Value} {xs : List Value} (h : w.ownsRow B 5 1 v n xs) : ∀ b, v.ownBlock = some b → ∀ cs T fr, w.heap[b]? = some (.cells cs T fr) → T = 75 ∨ T = 5 := by
  intro b hb cs T fr hc
  rcases h.2 with ⟨rfl, _⟩ | ⟨g, cap, cur, rfl, _, hg, _⟩
  · simp [Value.ownBlock] at hb
  · simp only [Value.ownBlock, Option.some.injEq] at hb
    subst hb
    rw [hg] at hc
    simp only [Option.some.injEq, Obj.cells.injEq] at hc
    exact .inr hc.2.1.symm
theorem set_type {w : World} {b : Nat} {cs0 : Array Value} {fr0 : Nat × Nat} (h : w.heap[b]? = some (.cells cs0 75 fr0)) (o : Nat) (v : Value) : Kept75 w (w.setCell ⟨b, o, none⟩ v) :=
  .grown (grown_set w b o v) (fun k hk cs T fr hc => by cases hk; rw [h] at hc; simp only [Option.some.injEq, Obj.cells.injEq] at hc; exact .inl hc.2.1.symm)
theorem copyCheck_calls (B b : Nat) (bs : List Value) (w : World) (h : Lib.IsBuilder 75 5 B b bs w) :
    Calls Tryd.prog 54 #[.pointer (some ⟨b, 0, none⟩)] w fun e w' => e = .returned (.tuple #[]) ∧ (Lib.BuilderAt 75 5 B b (.pointer (some ⟨b, 0, none⟩)) bs w' ∧ Below B w w' ∧ Kept75 w w') := by
  rcases h with h | h
  · refine (copyCheck_fresh b w h.cell0 h.shape h.frozen0).mono ?_
    rintro e w' ⟨rfl, rfl⟩
    obtain ⟨v, hb, _⟩ := h.2
    exact ⟨rfl, h.used _, (Below.refl B w).setCell (p := ⟨b, 0, none⟩) h.1 _, set_type hb _ _⟩
  · refine (copyCheck_used b w h.cell0).mono ?_
    rintro e w' ⟨rfl, rfl⟩
    exact ⟨rfl, h, Below.refl B _, Kept75.refl _⟩

/-- What a builder's block gives behind an append. -/
theorem builder_at {w1 w2 : World} {b g : Nat} {v : Value} (hbk : w1.heap[b]? = some (.cells #[.pointer (some ⟨b, 0, none⟩), v] 75 (0, 0))) (hne : v.ownBlock ≠ some b) (hg : w1.grownBy w2 v.ownBlock) (_h : g = 0) :
    w2.heap[b]? = some (.cells #[.pointer (some ⟨b, 0, none⟩), v] 75 (0, 0)) ∧ w2.cell? ⟨b, 0, none⟩ = some (.pointer (some ⟨b, 0, none⟩)) ∧ w2.cell? ⟨b, 1, none⟩ = some v ∧ w2.frozen? ⟨b, 1, none⟩ = false := by
  have hlt : b < w1.heap.size := (Array.getElem?_eq_some_iff.1 hbk).1
  have hb2 : w2.heap[b]? = some (.cells #[.pointer (some ⟨b, 0, none⟩), v] 75 (0, 0)) := by rw [hg.block b hlt (fun e => hne e.symm)]; exact hbk
  exact ⟨hb2, by rw [Lib.cell_of_heap hb2]; rfl, by rw [Lib.cell_of_heap hb2]; rfl, Lib.frozen_of_heap hb2 1⟩

set_option maxHeartbeats 2000000 in
theorem writeString_calls (B b : Nat) (bs : List Value) (s : ByteArray) (w : World) (h : Lib.IsBuilder 75 5 B b bs w) (hlen : bs.length + s.size ≤ 140737488355328) (hBw : B ≤ w.heap.size) :
    Calls Tryd.prog 47 #[.pointer (some ⟨b, 0, none⟩), .string s] w fun e w' => e = .returned (.tuple #[.int .i64 s.size, .nilIface]) ∧ (Lib.BuilderAt 75 5 B b (.pointer (some ⟨b, 0, none⟩)) (bs ++ Lib.strCells s) w' ∧ Below B w w' ∧ Kept75 w w') := by
  obtain ⟨i0, hi, hz0, hz1, hz2⟩ := info_parts info5
  go_enter Tryd.func47, Tryd.ntmps47
  go_wp2_with fail
  refine (copyCheck_calls B b bs _ h).mono ?_
  rintro e w1 ⟨rfl, h1, hb1, hk1⟩
  obtain ⟨hB, v, hbk, hown, hne⟩ := h1
  have c0 : w1.cell? ⟨b, 0, none⟩ = some (.pointer (some ⟨b, 0, none⟩)) := by rw [Lib.cell_of_heap hbk]; rfl
  have c1 : w1.cell? ⟨b, 1, none⟩ = some v := by rw [Lib.cell_of_heap hbk]; rfl
  go_wp2_with (at_builtin; refine Lib.wpList_append_own_string _ rfl _ _ 73 9 rfl B 5 i0 Tryd.underlying73 Tryd.underlying9 hi hz0 hz1 hz2 _ _ _ rfl hown s rfl (by unfold maxLen; omega) (by omega) (by have := hb1.size; omega) ?_)
  intro v' w2 hown' hgrow _
  obtain ⟨hb2, d0, d1, f1⟩ := builder_at (g := 0) hbk hne hgrow rfl
  obtain ⟨ao, cap, rfl⟩ := own_shape hown'
  go_wp2
  go_ret2
  refine ⟨rfl, ?_, ?_, ?_⟩
  · exact Lib.BuilderAt.put (T := 75) (e := 5) hB hb2 (bs' := bs ++ Lib.strCells s) (by simpa [Lib.strCells_length] using hown') (by decide)
  · exact (hb1.grown hgrow (by have := hb1.size; omega) (fun k hk => (hown.lt k hk).1)).setCell (p := ⟨b, 1, none⟩) hB _
  · exact (hk1.trans (.grown hgrow (own_type hown))).trans (set_type hb2 _ _)

/-- The powers of ten that the library's Itoa reads. -/
def Tab (w : World) : Prop := Lib.TabIs Tryd.prog w "internal/strconv.uint64pow10" .u64 Lib.pow10Tab
theorem Tab.grown {w w' : World} (h : Tab w) (hg : w.grownBy w' none) : Tab w' := by
  unfold Tab Lib.TabIs World.var? at *
  cases hn : Tryd.prog.globalNamed "internal/strconv.uint64pow10" with
  | none => rw [hn] at h; simp at h
  | some g =>
    rw [hn] at h
    simp only [Option.bind_some] at h ⊢
    cases hh : w.heap[g]? with
    | none => rw [hh] at h; simp at h
    | some o =>
      rw [hg.block g (Array.getElem?_eq_some_iff.1 hh).1 (by simp), hh]
      rw [hh] at h
      exact h
theorem builder_grown {w w' : World} {B b : Nat} {bs : List Value} (h : Lib.IsBuilder 75 5 B b bs w) (hg : w.grownBy w' none) : Lib.IsBuilder 75 5 B b bs w' := by
  have key : ∀ p, Lib.BuilderAt 75 5 B b p bs w → Lib.BuilderAt 75 5 B b p bs w' := by
    rintro p ⟨hB, v, hb, hown, hne⟩
    exact ⟨hB, v, by rw [hg.block b (Array.getElem?_eq_some_iff.1 hb).1 (by simp)]; exact hb, hown.kept hg (by cases hv : v.ownBlock <;> simp), hne⟩
  rcases h with h | h
  · exact .inl (key _ h)
  · exact .inr (key _ h)
theorem grown_below {w0 w w' : World} {B : Nat} (h : w0.grownBy w none) (hb : Below B w w') (hB : w0.heap.size ≤ B) : w0.grownBy w' none :=
  ⟨hb.os.trans h.os, hb.tape.trans h.tape, hb.output.trans h.output, Nat.le_trans h.size hb.size, fun k hk _ => by rw [hb.block k (by omega)]; exact h.block k hk (by simp)⟩
theorem grown_grow (w : World) (k : Nat) (os : Array Obj) : w.grownBy (grow (w.drewN k) os) none :=
  ⟨rfl, rfl, rfl, Lib.size_grow w k os, fun g hg _ => Lib.heap_grow_old w k os g hg⟩
theorem strCells_of (s : ByteArray) (l : List UInt8) (h : s.data.toList = l) : Lib.strCells s = Lib.byteCells l := by unfold Lib.strCells Lib.byteCells; rw [h]

end Go.Proofs.YthkjjiijjedipaaDoor

namespace Go.Proofs.YthkjjiijjedipaaDoor

section
variable {P : Program} {ops : Array Oper} {Q : Exit → Act → World → Prop} {md : Region.Mode} {S : World → Prop}
theorem tk (i : Nat) (oi : Oper) (v : Value) {fuel : Nat} {listed : Array Bool} {a : Act} {w : World} (hi : ops[i]? = some oi)
    (hb : (Region.noSelect ops && (Region.free md ops listed i && (Region.ready md ops listed).contains i)) = true)
    (hQ : ∀ c a w, Q (.panic c) (a.put oi.dst v) w → Q (.panic c) a w) (hw : Region.wanted oi (yielded ops a.tmps) = true) (hy : ∀ w, S w → (execOp a.eval oi).run P w = .ok (.value v) w) (hS : S w)
    (h : wpAnyH P md ops Q S fuel (listed.setIfInBounds i true) (a.put oi.dst v) w) : wpAnyH P md ops Q S (fuel + 1) listed a w := by
  rw [Bool.and_eq_true, Bool.and_eq_true] at hb
  exact wpAnyH_take hi hb.1 hb.2.1 hb.2.2 hQ (.inl ⟨hw, hy⟩) hS h
theorem tku (i : Nat) (oi : Oper) {fuel : Nat} {listed : Array Bool} {a : Act} {w : World} (hi : ops[i]? = some oi)
    (hb : (Region.noSelect ops && (Region.free md ops listed i && (Region.ready md ops listed).contains i)) = true)
    (hQ : ∀ c a w, Q (.panic c) (a.put oi.dst undef) w → Q (.panic c) a w) (hw : Region.wanted oi (yielded ops a.tmps) = false) (hS : S w)
    (h : wpAnyH P md ops Q S fuel (listed.setIfInBounds i true) (a.put oi.dst undef) w) : wpAnyH P md ops Q S (fuel + 1) listed a w := by
  rw [Bool.and_eq_true, Bool.and_eq_true] at hb
  exact wpAnyH_take hi hb.1 hb.2.1 hb.2.2 hQ (.inr ⟨hw, rfl⟩) hS h
end
end Go.Proofs.YthkjjiijjedipaaDoor
