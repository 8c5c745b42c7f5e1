/- Texts of the proof: RP C2 RO RQ RJ. -/
import Derived.Test.YthdhmflodiincaaCD12
import Derived.Test.YthdhmflodiincaaCD03
import Derived.Test.YthdhmflodiincaaRows
import Derived.Test.YthdhmflodiincaaCD05
import Derived.Test.YthdhmflodiincaaCD01
import Derived.ProofKit
import Derived.OpenShut
import Derived.Stop.Joined
import Derived.SevenTiedAt
import Derived.Deep.Slices
import Derived.Deep.Strs
import Derived.ChangeSame
import Derived.Lib.SmallJoins
import Derived.Test.YthdhmflodiincaaCD08
import Derived.Test.YthdhmflodiincaaCD02
set_option maxRecDepth 100000
set_option maxHeartbeats 8000000
namespace Go.Proofs.Ythdhmflodiincaa
open Lib (hid)
open Go.RowKit Go.Maps

def U8W (w : World) (a : Option Addr) (c : Nat) (zs : List Nat) : Prop :=
 zs.length ≤ c ∧ (zs = [] ∨ ∃ b o, a = some ⟨b, o, none⟩ ∧ ∀ (j : Nat) (z : Nat), zs[j]? = some z → w.cell? ⟨b, o + j, none⟩ = some (.int .u8 (z : Int)))
theorem U8W.grown {w w' : World} {a : Option Addr} {c : Nat} {zs : List Nat} (h : U8W w a c zs) (hg : w.grownBy w' none) : U8W w' a c zs := by
 obtain ⟨hc, h | ⟨b, o, ha, hz⟩⟩ := h
 · exact ⟨hc, .inl h⟩
 · exact ⟨hc, .inr ⟨b, o, ha, fun j z hj => hg.cell (hz j z hj) (by simp)⟩⟩
theorem U8W.at {w : World} {a : Option Addr} {c : Nat} {zs : List Nat} (h : U8W w a c zs) {i : Nat} {z : Nat} (hz : zs[i]? = some z) : ∃ b o, a = some ⟨b, o, none⟩ ∧ w.cell? ⟨b, o + i, none⟩ = some (.int .u8 (z : Int)) := by
 obtain ⟨_, h | ⟨b, o, ha, hc⟩⟩ := h
 · rw [h] at hz; simp at hz
 · exact ⟨b, o, ha, hc i z hz⟩
def madeC (refs : List Int) (raw : List Nat) (k : Nat) : List Cl :=
 (List.range k).filterMap fun i => if (raw.getD i 0) % 2 = 1 ∧ pickL refs (raw.getD i 0 / 2) ≠ 1 then some ((i : Int), pickL refs (raw.getD i 0 / 2)) else none
theorem madeC_snoc {refs : List Int} {raw : List Nat} {k v : Nat} (h : raw[k]? = some v) : madeC refs raw (k + 1) = if v % 2 = 1 ∧ pickL refs (v / 2) ≠ 1 then madeC refs raw k ++ [((k : Int), pickL refs (v / 2))] else madeC refs raw k := by
 unfold madeC
 have e : raw.getD k 0 = v := by rw [List.getD_eq_getElem?_getD, h]; rfl
 rw [List.range_succ, List.filterMap_append]
 by_cases hc : v % 2 = 1 ∧ pickL refs (v / 2) ≠ 1
 · rw [if_pos hc, List.filterMap_cons, List.filterMap_nil, e, if_pos hc]
 · rw [if_neg hc, List.filterMap_cons, List.filterMap_nil, e, if_neg hc, List.append_nil]
theorem resMade (tmps : Array Value) (w : World) (b : Nat) (x y : Value) (ht : tmps.getD 8 undef = .pointer (some ⟨b, 0, none⟩)) (h0 : w.cell? ⟨b, 0, none⟩ = some x) (h1 : w.cell? ⟨b, 1, none⟩ = some y) :
  (results Try.f15 tmps).run Try.prog w = .ok (.agg #[x, y]) w := by
 have ht' : tmps[8]?.getD undef = .pointer (some ⟨b, 0, none⟩) := by simpa using ht
 simp [results, ht', go_sem, h0, h1, Result.andThen]
theorem made_calls (refs : List Int) (n ar : Nat) (raw : List Nat) (ra : Option Addr) (rc : Nat) (wa : Option Addr) (wc : Nat) (w : World) (h : IntsW w ra rc refs) (hw : U8W w wa wc raw) (hl : refs.length ≤ 1000) (hl2 : raw.length ≤ 9223372036854775807) (hb : ∀ r ∈ refs, r ≤ 9223372036854775807) (hraw : ∀ v ∈ raw, v < 256) (hn : n ≤ 4) (hn1 : 1 ≤ n) (har : ar ≤ 3) (har1 : 1 ≤ ar) :
  Calls Try.prog 15 #[.slice ra refs.length rc, .int .i64 (n : Int), .int .i64 (ar : Int), .slice wa raw.length wc] w fun e w' => ∃ b d m, e = .returned (.agg #[.int .i64 (ar : Int), .slice b m d]) ∧ (madeC refs raw (min (n ^ ar) raw.length)).length = m ∧ CellsW w' b d (madeC refs raw (min (n ^ ar) raw.length)) ∧ w.grownBy w' none := by
 obtain ⟨nr, hnr⟩ : ∃ z, refs.length = z := ⟨_, rfl⟩
 obtain ⟨nw, hnw⟩ : ∃ z, raw.length = z := ⟨_, rfl⟩
 have HP := hid (fun (U : World) (v : Nat) (hU : w.grownBy U none) (hv : v < 256) => pick_calls refs v ra rc U (h.grown hU) hl hv hb)
 rw [hnr] at HP
 have HU := hid hw
 have HRW := hid hraw
 have HN := hid hnw
 have htot : n ^ ar ≤ 64 := by
  have h1 : n ^ ar ≤ 4 ^ ar := Nat.pow_le_pow_left hn _
  have h2 : 4 ^ ar ≤ 4 ^ 3 := Nat.pow_le_pow_right (by omega) har
  omega
 rw [hnw] at hl2
 rw [hnr, hnw]
 clear h hw hl hb hraw hnr hnw
 obtain ⟨i0, hi0, hz0, hz1, hz2⟩ := info_parts infoCl
 have g1 := gAl w (.cells #[.int .i64 0, .slice none 0 0] 26) none
 have c1 := one_cells w (.int .i64 0) (.slice none 0 0) 26
 obtain ⟨W1, hW1⟩ : ∃ z, w.alloc (.cells #[.int .i64 0, .slice none 0 0] 26) = z := ⟨_, rfl⟩
 have s1 : W1.heap.size = w.heap.size + 1 := by rw [← hW1]; simp
 rw [hW1] at g1 c1
 obtain ⟨br, hbr⟩ : ∃ z, w.heap.size = z := ⟨_, rfl⟩
 have HW1 := hid (show Rc W1 br 0 (.int .i64 0) ∧ Rc W1 br 1 (.slice none 0 0) ∧ w.grownBy W1 none ∧ W1.heap.size = br + 1 ∧ w.heap.size = br from ⟨⟨by rw [← hbr]; exact c1.2.1, by rw [← hbr]; exact c1.2.2.2.1⟩, ⟨by rw [← hbr]; exact c1.2.2.1, by rw [← hbr]; exact c1.2.2.2.2⟩, g1, by omega, hbr⟩)
 clear g1 c1 s1
 go_enter Try.func15, Try.ntmps15
 go_wp2_with fail
 clear hW1
 go_loopg [9, 10] ar (fun gk s9 s10 wr => ∃ (i t : Nat), s9 = .int .i64 (t : Int) ∧ s10 = .int .i64 (i : Int) ∧ gk = ar + 1 - i ∧ i ≤ ar ∧ t = n ^ i ∧ wr = W1)
 case atStart => exact ⟨1, n, rfl, rfl, by omega, har1, by simp, rfl⟩
 case round =>
  obtain ⟨i, t, rfl, rfl, hgk, hi, ht, rfl⟩ := hrel
  have htl : t ≤ 64 := by rw [ht]; exact Nat.le_trans (Nat.pow_le_pow_right hn1 hi) htot
  by_cases hia : i < ar
  ·
   have f1 : decide (i < ar) = true := decide_eq_true hia
   have f2 : decide ((i : Int) < (ar : Int)) = true := decide_eq_true (by omega)
   have hk1 : IntKind.i64.wrap ((i : Int) + 1) = ((i + 1 : Nat) : Int) := by rw [IntWalk.i64_in _ (by omega)]; omega
   obtain ⟨t2, ht2⟩ : ∃ z, t * n = z := ⟨_, rfl⟩
   have htl2 : t2 ≤ 256 := by rw [← ht2]; exact Nat.mul_le_mul htl hn
   have hw4 : IntKind.i64.wrap ((t : Int) * (n : Int)) = (t2 : Int) := by rw [show (t : Int) * (n : Int) = (t2 : Int) by rw [← ht2]; simp]; exact IntWalk.i64_in _ (by omega)
   have HT := hid (show t2 = n ^ (i + 1) from by rw [← ht2, ht, Nat.pow_succ])
   have HGK := hid hgk
   clear hgk ht ht2
   go_wp2_with fail
   go_roundg (ar + 1 - (i + 1))
   case measure => rw [HGK.out]; omega
   case rel => exact ⟨i + 1, t2, rfl, rfl, rfl, by omega, HT.out, rfl⟩
  ·
   have f1 : decide (i < ar) = false := decide_eq_false hia
   have f2 : decide ((i : Int) < (ar : Int)) = false := decide_eq_false (by omega)
   have hia2 : i = ar := by omega
   have HT := hid (show t = n ^ ar from by rw [ht, hia2])
   clear ht hia hgk hia2
   go_upto_region 7 with fail
   have g2 := gAl wr (.cells #[.int .i64 (ar : Int), .slice none 0 0] 26) none
   have c2 := one_cells wr (.int .i64 (ar : Int)) (.slice none 0 0) 26
   obtain ⟨W2, hW2⟩ : ∃ z, wr.alloc (.cells #[.int .i64 (ar : Int), .slice none 0 0] 26) = z := ⟨_, rfl⟩
   have s2 : W2.heap.size = wr.heap.size + 1 := by rw [← hW2]; simp
   rw [hW2] at g2 c2 ⊢
   obtain ⟨bb, hbb⟩ : ∃ z, wr.heap.size = z := ⟨_, rfl⟩
   obtain ⟨BZ, hBZ⟩ : ∃ z, W2.heap.size = z := ⟨_, rfl⟩
   rw [hbb] at c2 ⊢
   have HW := hid (show w.heap.size = br ∧ br < bb ∧ bb < BZ ∧ W2.heap.size = BZ ∧ w.grownBy W2 none from by have h1 := HW1.out.2.2.2; exact ⟨h1.2, by omega, by omega, hBZ, gT HW1.out.2.2.1 g2⟩)
   have HR := hid (show Rc W2 br 0 (.int .i64 0) ∧ Rc W2 br 1 (.slice none 0 0) from ⟨HW1.out.1.step (Off.of g2 (M := fun _ => False) (fun k e => by cases e)) (fun e => e), HW1.out.2.1.step (Off.of g2 (M := fun _ => False) (fun k e => by cases e)) (fun e => e)⟩)
   have HB := hid (show Rc W2 bb 0 (.int .i64 (ar : Int)) ∧ Rc W2 bb 1 (.slice none 0 0) from ⟨⟨c2.2.1, c2.2.2.2.1⟩, ⟨c2.2.2.1, c2.2.2.2.2⟩⟩)
   obtain ⟨wz, rfl⟩ : ∃ z, z = wr := ⟨_, rfl⟩
   clear hW2 s2 g2 c2 hbb hBZ hi
   go_wp2_with fail
   go_loopg [12] t (fun gk s12 wr => ∃ (k nk : Nat) (ya : Option Addr) (yc : Nat), s12 = .int .i64 (k : Int) ∧ gk = t - k ∧ k ≤ min t nw ∧ Rc wr bb 0 (.int .i64 (ar : Int)) ∧ Rc wr bb 1 (.slice ya nk yc) ∧ wr.ownsRow BZ 71 2 (.slice ya nk yc) nk (clCells (madeC refs raw k)) ∧ Off (fun k => k = bb) W2 wr ∧ (madeC refs raw k).length = nk ∧ nk ≤ k)
   case atStart => exact ⟨0, 0, _, _, rfl, rfl, Nat.zero_le _, HB.out.1, HB.out.2, World.ownsRow_nil _ _ _ _, ⟨rfl, rfl, rfl, Nat.le_refl _, fun _ _ _ => rfl⟩, rfl, Nat.le_refl _⟩
   case round =>
    obtain ⟨k, nk, ya, yc, rfl, hgk, hk, hb0, hb1, hown, hof, hnk, hkk⟩ := hrel
    have HI := hid (And.intro hgk (And.intro hb0 (And.intro hb1 (And.intro hnk hkk)))); clear hgk hb0 hb1 hnk hkk
    have HO := hid hown; clear hown
    have HOF := hid hof; clear hof
    have HG := hid (HOF.out.grown HW.out.2.2.2.2 (fun q e => by have e' : q = bb := e; have := HW.out; omega))
    have HSZ := hid (show BZ ≤ wr.heap.size from by have h1 := HOF.out.size; have h2 := HW.out; omega)
    have hkt : k ≤ t := Nat.le_trans hk (Nat.min_le_left _ _)
    have hkw : k ≤ nw := Nat.le_trans hk (Nat.min_le_right _ _)
    clear hk
    by_cases hkn : k < t ∧ k < nw
    ·
     have f1 : decide (k < t) = true := decide_eq_true hkn.1
     have f2 : decide ((k : Int) < (t : Int)) = true := decide_eq_true (by omega)
     have f3 : decide (k < nw) = true := decide_eq_true hkn.2
     have f4 : decide ((k : Int) < (nw : Int)) = true := decide_eq_true (by omega)
     have hk1 : IntKind.i64.wrap ((k : Int) + 1) = ((k + 1 : Nat) : Int) := by rw [IntWalk.i64_in _ (by omega)]; omega
     have hj0 : (0 : Int) ≤ (k : Int) := by omega
     have hj1 : (k : Int) < (nw : Int) := by omega
     obtain ⟨v, hv⟩ : ∃ r, raw[k]? = some r := ⟨_, List.getElem?_eq_getElem (by rw [HN.out]; exact hkn.2)⟩
     obtain ⟨ba, oa, rfl, x0⟩ := (HU.out.grown HG.out).at hv
     have hvb := HRW.out v (List.mem_of_getElem? hv)
     have HSN := hid (madeC_snoc (refs := refs) hv)
     obtain ⟨Lk, hLk⟩ : ∃ L, madeC refs raw k = L := ⟨_, rfl⟩
     rw [hLk] at HO HSN HI
     clear hv hLk
     obtain ⟨r, hr⟩ : ∃ z, v % 2 = z := ⟨_, rfl⟩
     obtain ⟨q, hq⟩ : ∃ z, v / 2 = z := ⟨_, rfl⟩
     rw [hr, hq] at HSN
     have hr2 : r < 2 := by omega
     have hq2 : q < 256 := by omega
     have hm : (v : Int).tmod 2 = (r : Int) := by rw [Int.tmod_eq_emod_of_nonneg (by omega)]; omega
     have hd : (v : Int) / 2 = (q : Int) := by omega
     clear hr hq
     have hv2 : ((r : Int) == 1) = decide (r = 1) := by rcases (show r = 0 ∨ r = 1 by omega) with e | e <;> rw [e] <;> rfl
     have hv3 : (r == 1) = decide (r = 1) := by rcases (show r = 0 ∨ r = 1 by omega) with e | e <;> rw [e] <;> rfl
     obtain ⟨f, hf⟩ : ∃ z, pickL refs q = z := ⟨_, rfl⟩
     have HPP := hid (HP.out wr q HG.out hq2)
     rw [hf] at HPP HSN
     clear hf
     by_cases hr1 : r = 1
     ·
      have g1 : decide (r = 1) = true := decide_eq_true hr1
      rw [g1] at hv2 hv3
      by_cases hf1 : f = 1
      ·
       have g2 : (f == 1) = true := by rw [hf1]; rfl
       have g3 : (f != 1) = false := by rw [hf1]; rfl
       have hc : ¬ (r = 1 ∧ f ≠ 1) := fun e => e.2 hf1
       go_wp2_with fail
       refine HPP.out.mono ?_
       rintro e w9 ⟨rfl, hw9⟩
       rw [hw9]
       clear hw9 w9
       go_wp2_with fail
       go_roundg (t - (k + 1))
       case measure => rw [HI.out.1]; omega
       case rel => exact ⟨k + 1, nk, ya, yc, rfl, rfl, by omega, HI.out.2.1, HI.out.2.2.1, (by rw [HSN.out, if_neg hc]; exact HO.out), HOF.out, (by rw [HSN.out, if_neg hc]; exact HI.out.2.2.2.1), Nat.le_succ_of_le HI.out.2.2.2.2⟩
      ·
       have g2 : (f == 1) = false := by simpa using hf1
       have g3 : (f != 1) = true := by simpa using hf1
       have hc : r = 1 ∧ f ≠ 1 := ⟨hr1, hf1⟩
       have HSM := hid (show madeC refs raw (k + 1) = Lk ++ [((k : Int), f)] from by rw [HSN.out, if_pos hc])
       have d0 := HI.out.2.2.1.1
       have hnew := cells_new_at wr ((k : Int), f)
       have HLL := hid (show (clCells Lk).length = nk * 2 from by rw [clCells_len, HI.out.2.2.2.1])
       have hkk := HI.out.2.2.2.2
       obtain ⟨LC, hLC⟩ : ∃ L, clCells Lk = L := ⟨_, rfl⟩
       have HLC := hid hLC
       rw [hLC] at HO HLL
       clear hLC hc hf1 hr1
       go_wp2_with fail
       refine HPP.out.mono ?_
       rintro e w9 ⟨rfl, hw9⟩
       rw [hw9]
       clear hw9 w9
       go_wp2_with (at_builtin; refine wpList_append_own_at _ rfl _ _ 24 rfl BZ 71 i0 (.agg #[.int .i64 0, .int .i64 0]) 2 16 Try.underlying24 hi0 hz0 hz1 hz2 rfl (by decide) _ nk LC rfl (HO.out.alloc _) ⟨wr.heap.size, 0, none⟩ 1 1 [.int .i64 (k : Int), .int .i64 f] rfl rfl hnew (fun u hu => by simp at hu; rcases hu with rfl | rfl <;> rfl) (by unfold maxLen; omega) (by omega) (by have := HSZ.out; simp; omega) ?_)
       intro v' w6 hown' hgrow6 _ hat6
       obtain ⟨rgA, rcA, rfl⟩ := own_shape hown'
       have hga := gAl wr (.cells #[.int .i64 (k : Int), .int .i64 f] 71) none
       have ho6 : Off (fun k => BZ ≤ k) wr w6 := (Off.of hga (fun k e => by cases e)).trans (Off.of hgrow6 (M := fun k => BZ ≤ k) (fun k e => (HO.out.lt k e).1)) (fun _ _ e => e)
       have hnB : ¬ BZ ≤ bb := by have := HW.out; omega
       have r0 := HI.out.2.1.step ho6 hnB
       have r1 := HI.out.2.2.1.step ho6 hnB
       have hown7 : (w6.setCell ⟨bb, 1, none⟩ (.slice rgA (nk + 1) rcA)).ownsRow BZ 71 2 (.slice rgA (nk + 1) rcA) (nk + 1) (clCells (madeC refs raw (k + 1))) := by
        rw [HSM.out, clCells_app, HLC.out]
        refine hown'.kept (grown_set w6 bb 1 _) ?_
        cases hob : (Value.slice rgA (nk + 1) rcA).ownBlock with
        | none => exact .inl rfl
        | some b => exact .inr (fun e => by injection e with e; subst e; exact hnB (hown'.lt b hob).1)
       have HN7 := hid (And.intro (r0.other (o' := 1) (by decide) (.slice rgA (nk + 1) rcA)) (And.intro (r1.set (.slice rgA (nk + 1) rcA)) (And.intro hown7 (show Off (fun k => k = bb) W2 (w6.setCell ⟨bb, 1, none⟩ (.slice rgA (nk + 1) rcA)) from (HOF.out.trans ho6 (fun q hq e => by have h1 := HW.out; omega)).trans (off_set w6 bb 1 _) (fun q hq e => e)))))
       have q1 := r1.1
       have q2 := r1.2
       clear hown' hgrow6 hat6 hga ho6 hnB r0 r1 hown7 d0 x0 hnew
       go_wp2_with fail
       go_roundg (t - (k + 1))
       case measure => rw [HI.out.1]; omega
       case rel => exact ⟨k + 1, nk + 1, rgA, rcA, rfl, rfl, by omega, HN7.out.1, HN7.out.2.1, HN7.out.2.2.1, HN7.out.2.2.2, (by rw [HSM.out, List.length_append, HI.out.2.2.2.1]; rfl), Nat.succ_le_succ hkk⟩
     ·
      have g1 : decide (r = 1) = false := decide_eq_false hr1
      rw [g1] at hv2 hv3
      have hc : ¬ (r = 1 ∧ f ≠ 1) := fun e => hr1 e.1
      go_wp2_with fail
      refine HPP.out.mono ?_
      rintro e w9 ⟨rfl, hw9⟩
      rw [hw9]
      clear hw9 w9
      go_wp2_with fail
      go_roundg (t - (k + 1))
      case measure => rw [HI.out.1]; omega
      case rel => exact ⟨k + 1, nk, ya, yc, rfl, rfl, by omega, HI.out.2.1, HI.out.2.2.1, (by rw [HSN.out, if_neg hc]; exact HO.out), HOF.out, (by rw [HSN.out, if_neg hc]; exact HI.out.2.2.2.1), Nat.le_succ_of_le HI.out.2.2.2.2⟩
    ·
     have hkm : k = min t nw := by omega
     have hall : madeC refs raw k = madeC refs raw (min (n ^ ar) nw) := by rw [← HT.out, hkm]
     have d0 := HI.out.2.1.1
     have d1 := HI.out.2.2.1.1
     have hne : ¬ br = bb := by have := HW.out; omega
     have q0 := HR.out.1.step HOF.out hne
     have q1 := HR.out.2.step HOF.out hne
     have HQ := hid (And.intro q0 q1)
     have e0 := q0.1
     have e1 := q0.2
     have e2 := q1.1
     have e3 := q1.2
     have HLN := hid (show (madeC refs raw (min (n ^ ar) nw)).length = nk from by rw [← hall]; exact HI.out.2.2.2.1)
     have HROW := hid (show Span BZ wr.heap.size wr (fun W => CellsW W ya yc (madeC refs raw (min (n ^ ar) nw))) from by
      have h := HO.out
      rw [hall, ← HLN.out] at h
      obtain ⟨a9, c9, e9, hs9⟩ := cells_span h
      cases e9
      exact hs9)
     by_cases hkt2 : k < t
     ·
      have f1 : decide (k < t) = true := decide_eq_true hkt2
      have f2 : decide ((k : Int) < (t : Int)) = true := decide_eq_true (by omega)
      have f3 : decide (k < nw) = false := decide_eq_false (by omega)
      have f4 : decide ((k : Int) < (nw : Int)) = false := decide_eq_false (by omega)
      clear hkn hne q0 q1 hall hkm
      go_wp2_with fail
      have hof := off_set2 wr br (.int .i64 (ar : Int)) (.slice ya nk yc)
      exact bodyPost_ret (resMade _ _ br (.int .i64 (ar : Int)) (.slice ya nk yc) rfl ((HQ.out.1.set (.int .i64 (ar : Int))).other (o' := 1) (by decide) (.slice ya nk yc)).1 ((HQ.out.2.other (o' := 0) (by decide) (.int .i64 (ar : Int))).set (.slice ya nk yc)).1) rfl ⟨ya, yc, nk, rfl, HLN.out, (HROW.out.away hof (fun q e => by have e' : q = br := e; have := HW.out; omega)).here, hof.grown HG.out (fun q e => by have e' : q = br := e; have := HW.out; omega)⟩
     ·
      have f1 : decide (k < t) = false := decide_eq_false hkt2
      have f2 : decide ((k : Int) < (t : Int)) = false := decide_eq_false (by omega)
      clear hkn hne q0 q1 hall hkm
      go_wp2_with fail
      have hof := off_set2 wr br (.int .i64 (ar : Int)) (.slice ya nk yc)
      exact bodyPost_ret (resMade _ _ br (.int .i64 (ar : Int)) (.slice ya nk yc) rfl ((HQ.out.1.set (.int .i64 (ar : Int))).other (o' := 1) (by decide) (.slice ya nk yc)).1 ((HQ.out.2.other (o' := 0) (by decide) (.int .i64 (ar : Int))).set (.slice ya nk yc)).1) rfl ⟨ya, yc, nk, rfl, HLN.out, (HROW.out.away hof (fun q e => by have e' : q = br := e; have := HW.out; omega)).here, hof.grown HG.out (fun q e => by have e' : q = br := e; have := HW.out; omega)⟩
end Go.Proofs.Ythdhmflodiincaa
namespace Go.Proofs.Ythdhmflodiincaa
open Lib (hid)
open Go.ChangeShapes Go.WideShapes Go.ChangeAt Go.WideMaps Go.WideElems Go.RowKit Go.Deep Go.Joins

theorem own : ownKnob Try.prog.godebug = none := by kernel_rfl
theorem below_of {w w' : World} (h : w.grownBy w' none) : Below w.heap.size w w' := ⟨h.os, h.tape, h.output, h.size, fun k hk => h.block k hk (by simp)⟩
theorem laidOut : laidOutB Try.prog = true := by kernel_rfl
theorem trodAll_below' {H : Type} {enc : TypeId × Value → H} {P : Program} (hl : laidOutB P = true) {W W' : World} (hb : Below W.heap.size W W') : ∀ {ts : List TypeId} {vs : List Value} {ds : List (DataW H)} {ps : List MemPlace},
  (ts.all fun t => P.readableRec t && decide (t < P.types.size)) = true → DataW.TrodAll enc P W 0 (fun _ => true) true ts vs ds ps → (∀ x ∈ ps, x.block < W.heap.size) →
  DataW.TrodAll enc P W' 0 (fun b => decide (b < W.heap.size)) true ts vs ds ps
 | [], _, _, _, _, h, _ => by
  obtain ⟨rfl, rfl, rfl⟩ := trodAll_nil h
  exact trodAll_mk0
 | t :: ts, vs, ds, ps, ht, h, hlt => by
  obtain ⟨v, vs', d, ds', p, q, rfl, rfl, rfl, hd, hrest⟩ := trodAll_cons h
  simp only [List.all_cons, Bool.and_eq_true, decide_eq_true_eq] at ht
  exact ⟨p, q, Below.trod hl ht.1.1 ht.1.2 hd hb (fun x hx => hlt x (by simp [hx])), trodAll_below' hl hb (by simpa using ht.2) hrest (fun x hx => hlt x (by simp [hx])), rfl⟩
theorem trodAll_below {H : Type} {enc : TypeId × Value → H} {W W' : World} (hb : Below W.heap.size W W') {ts : List TypeId} {vs : List Value} {ds : List (DataW H)} {ps : List MemPlace}
  (ht : (ts.all fun t => Try.prog.readableRec t && decide (t < Try.prog.types.size)) = true) (h : DataW.TrodAll enc Try.prog W 0 (fun _ => true) true ts vs ds ps) (hlt : ∀ x ∈ ps, x.block < W.heap.size) :
  DataW.TrodAll enc Try.prog W' 0 (fun b => decide (b < W.heap.size)) true ts vs ds ps := trodAll_below' laidOut hb ht h hlt

set_option maxRecDepth 100000
section
variable {H : Type} {enc : TypeId × Value → H} {W : World}
theorem add_off (b o j : Nat) : (⟨b, o, none⟩ : Addr).add j = ⟨b, o + j, none⟩ := by unfold Addr.add; split <;> simp_all
theorem slice_open {t e k : Nat} {α : Type} [Inhabited α] (P : α → Nat → Nat → Prop) (ht : Try.prog.underlying t = some (.slice e)) (hk : Try.prog.cellsOf e = k)
  (each : ∀ (n : Nat) (a : Addr) (cs : List Value) (x : DataW H × List MemPlace), W.cells? 0 a k = some cs → DataW.trod enc Try.prog W 0 (fun _ => true) true n e cs = some x → ∃ (y : α) (b o : Nat), a = ⟨b, o, none⟩ ∧ P y b o)
  {n : Nat} {v : Value} {x : DataW H × List MemPlace} (h : DataW.trod enc Try.prog W 0 (fun _ => true) true n t [v] = some x) :
  ∃ (l : List α) (a : Option Addr) (c : Nat), v = .slice a l.length c ∧ l.length ≤ c ∧ (l.length : Int) ≤ 9223372036854775807 ∧ ∀ (j : Nat) (y : α), l[j]? = some y → ∃ b o, a = some ⟨b, o, none⟩ ∧ P y b (o + j * k) := by
 rcases open_slice ht h with ⟨hcs, _⟩ | ⟨a, len, cap, m, n', D, Pl, hcs, _, hl, hm, hmm, _, hx⟩
 ·
  injection hcs with hcs _
  subst hcs
  exact ⟨[], none, 0, rfl, Nat.le_refl _, by simp, fun j y hj => by simp at hj⟩
 ·
  injection hcs with hcs _
  subst hcs
  simp only [if_true] at hmm
  subst hmm
  have h1 : ∀ i, i < len → ∃ y : α, ∃ b o, a.add (i * k) = ⟨b, o, none⟩ ∧ P y b o := by
   intro i hi
   obtain ⟨cs', hc, ht'⟩ := hx i (by omega)
   rw [hk] at hc
   exact each _ _ _ _ hc ht'
  obtain ⟨f, hf⟩ := choose_lt h1
  have hlen : ((List.range len).map f).length = len := by simp
  refine ⟨(List.range len).map f, some a, m, by rw [hlen], by rw [hlen]; exact hl, by rw [hlen]; unfold maxLen at hm; omega, fun j y hj => ?_⟩
  have hjl : j < len := by have := (List.getElem?_eq_some_iff.1 hj).1; rwa [hlen] at this
  rw [List.getElem?_map, List.getElem?_range hjl] at hj
  simp only [Option.map_some, Option.some.injEq] at hj
  subst hj
  obtain ⟨b0, o0, e0, _⟩ := hf 0 (by omega)
  rw [Nat.zero_mul, show a.add 0 = a from rfl] at e0
  subst e0
  obtain ⟨b, o, e, hp⟩ := hf j hjl
  rw [add_off] at e
  simp only [Addr.mk.injEq, and_true] at e
  obtain ⟨rfl, rfl⟩ := e
  exact ⟨b0, o0, rfl, hp⟩
theorem trod_u8 {n : Nat} {v : Value} {y : DataW H × List MemPlace} (h : DataW.trod enc Try.prog W 0 (fun _ => true) true n 5 [v] = some y) : ∃ z : Nat, v = .int .u8 (z : Int) ∧ z < 256 := by
 obtain ⟨z, e0, _, wx⟩ := DataW.trod_int Try.underlying5 h
 injection e0 with e0 _
 subst e0
 have hw : 0 ≤ z ∧ z < 256 := by
  simp [Lit.wf, IntKind.min, IntKind.max, IntKind.bits, IntKind.signed] at wx
  omega
 exact ⟨z.toNat, by rw [Int.toNat_of_nonneg hw.1], by omega⟩
theorem addr_plain {a : Addr} {w : World} {v : Value} {j : Nat} (h : w.cell? (a.add j) = some v) (hj : j = 0) : ∃ b o, a = ⟨b, o, none⟩ := by
 subst hj
 obtain ⟨b, o, spot⟩ := a
 have hspot : spot = none := by simpa [Addr.add] using World.cell?_spot h
 subst hspot
 exact ⟨b, o, rfl⟩
theorem three_at {t0 t1 t2 : TypeId} {n : Nat} {a : Addr} {cs : List Value} {k : TypeId} {f0 f1 f2 : Field} {x : DataW H × List MemPlace} (hu : Try.prog.underlying k = some (.struct #[f0, f1, f2])) (o0 : f0.offset = 0 ∧ f0.type = t0) (o1 : f1.offset = 1 ∧ f1.type = t1) (o2 : f2.offset = 2 ∧ f2.type = t2)
  (k0 : Try.prog.cellsOf t0 = 1) (k1 : Try.prog.cellsOf t1 = 1) (k2 : Try.prog.cellsOf t2 = 1) (hc : W.cells? 0 a 3 = some cs) (h : DataW.trod enc Try.prog W 0 (fun _ => true) true n k cs = some x) :
  ∃ (b o : Nat) (v0 v1 v2 : Value) (m : Nat) (y0 y1 y2 : DataW H × List MemPlace), a = ⟨b, o, none⟩ ∧ W.cell? ⟨b, o, none⟩ = some v0 ∧ W.cell? ⟨b, o + 1, none⟩ = some v1 ∧ W.cell? ⟨b, o + 2, none⟩ = some v2 ∧
   DataW.trod enc Try.prog W 0 (fun _ => true) true m t0 [v0] = some y0 ∧ DataW.trod enc Try.prog W 0 (fun _ => true) true m t1 [v1] = some y1 ∧ DataW.trod enc Try.prog W 0 (fun _ => true) true m t2 [v2] = some y2 := by
 obtain ⟨_, hlen, hat⟩ := World.cells?_some hc
 match cs, hlen with
 | [c0, c1, c2], _ =>
  have a0 := hat 0 (by omega)
  obtain ⟨b, o, rfl⟩ := addr_plain a0 rfl
  have a1 := hat 1 (by omega)
  have a2 := hat 2 (by omega)
  obtain ⟨xs, m, _, _, _, hl, hf⟩ := DataW.trod_struct hu h
  match xs, hl, hf with
  | [y0, y1, y2], _, hf =>
   have f0 := hf 0 _ rfl
   have f1 := hf 1 _ rfl
   have f2 := hf 2 _ rfl
   exact ⟨b, o, c0, c1, c2, m, y0, y1, y2, rfl, by simpa [Addr.add] using a0, by simpa [Addr.add] using a1, by simpa [Addr.add] using a2, by simpa [o0.1, o0.2, k0] using f0, by simpa [o1.1, o1.2, k1] using f1, by simpa [o2.1, o2.2, k2] using f2⟩
theorem c5 : Try.prog.cellsOf 5 = 1 := by kernel_rfl
theorem c3 : Try.prog.cellsOf 3 = 1 := by kernel_rfl
theorem stps_open {n : Nat} {v : Value} {x : DataW H × List MemPlace} (h : DataW.trod enc Try.prog W 0 (fun _ => true) true n 22 [v] = some x) :
  ∃ (l : List Stp) (a : Option Addr) (c : Nat), v = .slice a l.length c ∧ StpsW W a c l ∧ (∀ s ∈ l, StpOk s) ∧ (l.length : Int) ≤ 9223372036854775807 := by
 obtain ⟨l, a, c, e, hc, hm, hl⟩ := slice_open (α := Stp) (k := 3) (fun s b o => StpOk s ∧ StpAt W b o s) Try.underlying22 (by kernel_rfl) (fun n a cs x hc h => by
  obtain ⟨b, o, v0, v1, v2, m, y0, y1, y2, rfl, q0, q1, q2, h0, h1, h2⟩ := three_at (t0 := 5) (t1 := 5) (t2 := 5) Try.underlying75 ⟨rfl, rfl⟩ ⟨rfl, rfl⟩ ⟨rfl, rfl⟩ c5 c5 c5 hc h
  obtain ⟨z0, rfl, w0⟩ := trod_u8 h0
  obtain ⟨z1, rfl, w1⟩ := trod_u8 h1
  obtain ⟨z2, rfl, w2⟩ := trod_u8 h2
  exact ⟨(z0, z1, z2), b, o, rfl, ⟨w0, w1, w2⟩, ⟨q0, q1, q2⟩⟩) h
 refine ⟨l, a, c, e, ⟨hc, ?_⟩, fun s hs => ?_, hm⟩
 ·
  cases l with
  | nil => exact .inl rfl
  | cons z l =>
   obtain ⟨b, o, rfl, _⟩ := hl 0 z rfl
   refine .inr ⟨b, o, rfl, fun j y hj => ?_⟩
   obtain ⟨b', o', e', _, hc'⟩ := hl j y hj
   cases e'
   exact hc'
 ·
  obtain ⟨j, hj⟩ := List.mem_iff_getElem?.1 hs
  obtain ⟨_, _, _, h1, _⟩ := hl j s hj
  exact h1
theorem u8s_open {n : Nat} {v : Value} {x : DataW H × List MemPlace} (h : DataW.trod enc Try.prog W 0 (fun _ => true) true n 23 [v] = some x) :
  ∃ (l : List Nat) (a : Option Addr) (c : Nat), v = .slice a l.length c ∧ U8W W a c l ∧ (∀ z ∈ l, z < 256) ∧ (l.length : Int) ≤ 9223372036854775807 := by
 obtain ⟨l, a, c, e, hc, hm, hl⟩ := slice_open (α := Nat) (k := 1) (fun z b o => z < 256 ∧ W.cell? ⟨b, o, none⟩ = some (.int .u8 (z : Int))) Try.underlying23 (by kernel_rfl) (fun n a cs x hc h => by
  obtain ⟨_, hlen, hat⟩ := World.cells?_some hc
  match cs, hlen with
  | [c0], _ =>
   obtain ⟨z, rfl, hz⟩ := trod_u8 h
   have a0 := hat 0 (by omega)
   obtain ⟨b, o, rfl⟩ := addr_plain a0 rfl
   exact ⟨z, b, o, rfl, hz, by simpa [Addr.add] using a0⟩) h
 refine ⟨l, a, c, e, ⟨hc, ?_⟩, fun s hs => ?_, hm⟩
 ·
  cases l with
  | nil => exact .inl rfl
  | cons z l =>
   obtain ⟨b, o, rfl, _⟩ := hl 0 z rfl
   refine .inr ⟨b, o, rfl, fun j y hj => ?_⟩
   obtain ⟨b', o', e', _, hc'⟩ := hl j y hj
   cases e'
   rw [Nat.mul_one] at hc'
   exact hc'
 ·
  obtain ⟨j, hj⟩ := List.mem_iff_getElem?.1 hs
  obtain ⟨_, _, _, h1, _⟩ := hl j s hj
  exact h1
theorem open_u8 {v : Value} {d : DataW H} {ps : List MemPlace} {base : Nat} (hv : Value.okWide Try.prog W .any base 5 v) (h : DataW.Trod enc Try.prog W 0 (fun _ => true) true 5 v d ps) : ∃ z : Nat, v = .int .u8 (z : Int) ∧ z < 256 := by
 obtain ⟨x, rfl, _, _, wx⟩ := open_int Try.underlying5 hv h
 have hw : 0 ≤ x ∧ x < 256 := by
  simp [Lit.wf, IntKind.min, IntKind.max, IntKind.bits, IntKind.signed] at wx
  omega
 exact ⟨x.toNat, by rw [Int.toNat_of_nonneg hw.1], by omega⟩
theorem open_stps {v : Value} {d : DataW H} {ps : List MemPlace} {base : Nat} (hv : Value.okWide Try.prog W .any base 22 v) (h : DataW.Trod enc Try.prog W 0 (fun _ => true) true 22 v d ps) :
  ∃ (l : List Stp) (a : Option Addr) (c : Nat), v = .slice a l.length c ∧ StpsW W a c l ∧ (∀ s ∈ l, StpOk s) ∧ (l.length : Int) ≤ 9223372036854775807 := by
 obtain ⟨ra, rn, rc, rfl⟩ := okWide_slice Try.underlying22 hv
 obtain ⟨fuel, hf⟩ := h
 exact stps_open hf
theorem open_u8s {v : Value} {d : DataW H} {ps : List MemPlace} {base : Nat} (hv : Value.okWide Try.prog W .any base 23 v) (h : DataW.Trod enc Try.prog W 0 (fun _ => true) true 23 v d ps) :
  ∃ (l : List Nat) (a : Option Addr) (c : Nat), v = .slice a l.length c ∧ U8W W a c l ∧ (∀ z ∈ l, z < 256) ∧ (l.length : Int) ≤ 9223372036854775807 := by
 obtain ⟨ra, rn, rc, rfl⟩ := okWide_slice Try.underlying23 hv
 obtain ⟨fuel, hf⟩ := h
 exact u8s_open hf
end
end Go.Proofs.Ythdhmflodiincaa
namespace Go.Proofs.Ythdhmflodiincaa
open Lib (hid)
open Go.RowKit Go.Maps

theorem atoms_calls (s : Nat) (hs : s < 256) (w : World) :
  Calls Try.prog 14 #[.int .u8 (s : Int)] w fun e w' => e = .returned (.tuple #[.int .i64 ((s % 3 + 1 : Nat) : Int), .int .i64 ((s / 3 % 2 + 1 : Nat) : Int), .int .i64 ((s / 6 % 2 + 1 : Nat) : Int)]) ∧ w' = w := by
 obtain ⟨r3, h3⟩ : ∃ z, s % 3 = z := ⟨_, rfl⟩
 obtain ⟨q3, hq3⟩ : ∃ z, s / 3 = z := ⟨_, rfl⟩
 obtain ⟨q6, hq6⟩ : ∃ z, s / 6 = z := ⟨_, rfl⟩
 rw [h3, hq3, hq6]
 obtain ⟨r, hr⟩ : ∃ z, q3 % 2 = z := ⟨_, rfl⟩
 obtain ⟨t, ht⟩ : ∃ z, q6 % 2 = z := ⟨_, rfl⟩
 rw [hr, ht]
 have e1 : (s : Int).tmod 3 = (r3 : Int) := by rw [Int.tmod_eq_emod_of_nonneg (by omega)]; omega
 have e2 : (s : Int) / 3 = (q3 : Int) := by omega
 have e3 : (s : Int) / 6 = (q6 : Int) := by omega
 have e4 : (q3 : Int).tmod 2 = (r : Int) := by rw [Int.tmod_eq_emod_of_nonneg (by omega)]; omega
 have e5 : (q6 : Int).tmod 2 = (t : Int) := by rw [Int.tmod_eq_emod_of_nonneg (by omega)]; omega
 have b1 : r3 < 3 := by omega
 have b2 : r < 2 := by omega
 have b3 : t < 2 := by omega
 have k1 : IntKind.i64.wrap ((r3 : Int) + 1) = ((r3 + 1 : Nat) : Int) := by rw [IntWalk.i64_in _ (by omega)]; omega
 have k2 : IntKind.i64.wrap ((r : Int) + 1) = ((r + 1 : Nat) : Int) := by rw [IntWalk.i64_in _ (by omega)]; omega
 have k3 : IntKind.i64.wrap ((t : Int) + 1) = ((t + 1 : Nat) : Int) := by rw [IntWalk.i64_in _ (by omega)]; omega
 have b4 : q3 < 256 := by omega
 have b5 : q6 < 256 := by omega
 clear h3 hq3 hq6 hr ht
 go_enter Try.func14, Try.ntmps14
 go_wp2_with fail
 refine bodyPost_ret (v := .tuple #[.int .i64 ((r3 + 1 : Nat) : Int), .int .i64 ((r + 1 : Nat) : Int), .int .i64 ((t + 1 : Nat) : Int)]) ?_ rfl ⟨rfl, rfl⟩
 simp [results, Try.results14, go_sem]
end Go.Proofs.Ythdhmflodiincaa
namespace Go.Proofs.Ythdhmflodiincaa
open Lib (hid)
open Go.RowKit
set_option maxRecDepth 100000

abbrev Rl := Int × List Int
theorem list_ne {α : Type} {xs ys : List α} {i : Nat} {x y : α} (hx : xs[i]? = some x) (hy : ys[i]? = some y) (h : x ≠ y) : xs ≠ ys := by
 rintro rfl; rw [hx] at hy; cases hy; exact h rfl
theorem list_eq {α : Type} {xs ys : List α} {n : Nat} (hx : xs.length = n) (hy : ys.length = n) (h : ∀ j, j < n → xs[j]? = ys[j]?) : xs = ys := by
 apply List.ext_getElem?
 intro j
 by_cases hj : j < n
 · exact h j hj
 · rw [List.getElem?_eq_none (by omega), List.getElem?_eq_none (by omega)]
theorem agree_step {α : Type} {xs ys : List α} {i : Nat} (h : ∀ j, j < i → xs[j]? = ys[j]?) (hi : xs[i]? = ys[i]?) : ∀ j, j < i + 1 → xs[j]? = ys[j]? := by
 intro j hj
 by_cases hji : j < i
 · exact h j hji
 ·
  have : j = i := by omega
  subst this; exact hi

theorem equalInts_calls (xs ys : List Int) (a a' : Option Addr) (c c' : Nat) (w : World) (h : IntsW w a c xs) (h' : IntsW w a' c' ys) (hl : (xs.length : Int) ≤ 9223372036854775807) :
  Calls Try.prog 91 #[.slice a xs.length c, .slice a' ys.length c'] w fun e w' => e = .returned (.bool (decide (xs = ys))) ∧ ∃ q, w' = w.drewN q := by
 obtain ⟨n, hn⟩ : ∃ n, xs.length = n := ⟨_, rfl⟩
 obtain ⟨m, hm⟩ : ∃ m, ys.length = m := ⟨_, rfl⟩
 rw [hn] at hl ⊢
 rw [hm]
 have HN := hid (And.intro hn hm)
 have HH := hid (And.intro h h'); clear h h'
 by_cases hnm : n = m
 ·
  have hB : ((n : Int) != (m : Int)) = false := by simp; omega
  subst hnm
  clear hn hm
  go_enter Try.func91, Try.ntmps91
  go_wp2
  go_loopg [13] n (fun g s5 wr => ∃ i : Nat, s5 = .int .i64 (i : Int) ∧ g = n - i ∧ i ≤ n ∧ (∀ j, j < i → xs[j]? = ys[j]?) ∧ ∃ q, wr = w.drewN q)
  case atStart => exact ⟨0, rfl, rfl, Nat.zero_le _, fun j hj => absurd hj (Nat.not_lt_zero _), 0, rfl⟩
  case round =>
   obtain ⟨i, rfl, hgi, hi, hok, q, rfl⟩ := hrel
   have HGI := hid (And.intro hgi hok); clear hgi hok
   by_cases hin : i < n
   ·
    have hinB : decide (i < n) = true := by simpa using hin
    have hinI : (i : Int) < (n : Int) := by omega
    obtain ⟨x, hx⟩ : ∃ x, xs[i]? = some x := ⟨_, List.getElem?_eq_getElem (by rw [HN.out.1]; exact hin)⟩
    obtain ⟨y, hy⟩ : ∃ y, ys[i]? = some y := ⟨_, List.getElem?_eq_getElem (by rw [HN.out.2]; exact hin)⟩
    obtain ⟨b, o, rfl, hcell⟩ := HH.out.1.at hx
    obtain ⟨b', o', rfl, hcell'⟩ := HH.out.2.at hy
    have HX := hid (And.intro hx hy); clear hx hy
    by_cases hxy : x = y
    ·
     subst hxy
     have hb2 : (x != x) = false := by simp
     go_wp2
     go_quiet (fail)
     go_wp2
     go_roundg (n - (i + 1))
     case measure => rw [HGI.out.1]; omega
     case rel => exact ⟨i + 1, rfl, rfl, by omega, agree_step HGI.out.2 (by rw [HX.out.1, HX.out.2]), _, rfl⟩
    ·
     have hb2 : (x != y) = true := by simpa using hxy
     have HR : Hid (decide (xs = ys) = false) := hid (decide_eq_false (list_ne HX.out.1 HX.out.2 hxy))
     clear hxy
     go_wp2
     go_quiet (fail)
     go_wp2
     go_ret
     exact ⟨by rw [HR.out]; rfl, _, World.drewN_drewN _ _ _⟩
   ·
    have hie : i = n := by omega
    subst hie
    have hinB : decide (i < i) = false := by simp
    have HR : Hid (decide (xs = ys) = true) := hid (decide_eq_true (list_eq HN.out.1 HN.out.2 HGI.out.2))
    go_wp2
    go_ret
    exact ⟨by rw [HR.out]; rfl, _, rfl⟩
 ·
  have hB : ((n : Int) != (m : Int)) = true := by simp; omega
  have HR : Hid (decide (xs = ys) = false) := hid (decide_eq_false (by rintro rfl; omega))
  clear hn hm
  go_enter Try.func91, Try.ntmps91
  go_wp2
  go_ret
  exact ⟨by rw [HR.out]; rfl, 0, rfl⟩
theorem relEqual_calls (x y : Rl) (a a' : Option Addr) (c c' : Nat) (w : World) (h : IntsW w a c x.2) (h' : IntsW w a' c' y.2) (hl : (x.2.length : Int) ≤ 9223372036854775807) :
  Calls Try.prog 37 #[.agg #[.int .i64 x.1, .slice a x.2.length c], .agg #[.int .i64 y.1, .slice a' y.2.length c']] w
   fun e w' => e = .returned (.bool (decide (x = y))) ∧ w.grownBy w' none := by
 obtain ⟨kx, lx⟩ := x
 obtain ⟨ky, ly⟩ := y
 simp only at h h' hl ⊢
 obtain ⟨n, hn⟩ : ∃ n, lx.length = n := ⟨_, rfl⟩
 obtain ⟨m, hm⟩ : ∃ m, ly.length = m := ⟨_, rfl⟩
 have HL := hid hl; clear hl
 have HH := hid (And.intro h h'); clear h h'
 have hg : w.grownBy ((w.alloc (.cells #[.int .i64 kx, .slice a lx.length c] 47)).alloc (.cells #[.int .i64 ky, .slice a' ly.length c'] 47)) none := (gAl _ _ none).trans (gAl _ _ none)
 rw [hn, hm] at hg ⊢
 have HG := hid hg; clear hg
 have HN := hid (And.intro hn hm); clear hn hm
 by_cases hk : kx = ky
 ·
  have k1 : (kx == ky) = true := by simpa using hk
  subst hk
  go_enter Try.func37, Try.ntmps37
  go_wp2_with fail
  have hc := equalInts_calls lx ly a a' c c' _ (HH.out.1.grown HG.out) (HH.out.2.grown HG.out) HL.out
  rw [HN.out.1, HN.out.2] at hc
  refine hc.mono ?_
  clear hc
  rintro e w' ⟨rfl, q, rfl⟩
  have HR : Hid (decide ((kx, lx) = (kx, ly)) = decide (lx = ly)) := hid (by congr 1; simp)
  go_wp2
  go_ret
  exact ⟨by rw [HR.out]; rfl, HG.out.trans (grown_drewN _ _ _)⟩
 ·
  have k1 : (kx == ky) = false := by simpa using hk
  have HR : Hid (decide ((kx, lx) = (ky, ly)) = false) := hid (decide_eq_false (by intro e; injection e with e _; exact hk e))
  clear hk
  go_enter Try.func37, Try.ntmps37
  go_wp2_with fail
  go_ret
  exact ⟨by rw [HR.out]; rfl, HG.out⟩

end Go.Proofs.Ythdhmflodiincaa
namespace Go.Proofs.Ythdhmflodiincaa
open Lib (hid)
open Go.RowKit Go.Maps

def valE (gs : List Gt) (v : List Bool) (m : List Cl) : List Int := (m.filter fun c => evalC gs v c.2).map (·.1)
theorem valE_snoc {gs : List Gt} {v : List Bool} {m : List Cl} {k : Nat} {x : Cl} (h : m[k]? = some x) : valE gs v (m.take (k + 1)) = if evalC gs v x.2 = true then valE gs v (m.take k) ++ [x.1] else valE gs v (m.take k) := by
 unfold valE
 rw [List.take_add_one, h, Option.toList_some, List.filter_append, List.map_append]
 by_cases e : evalC gs v x.2 = true
 · rw [if_pos e]; simp [e]
 · rw [if_neg e]; simp [e]
theorem results34 (tmps : Array Value) (w : World) (b : Nat) (x y : Value) (ht : tmps.getD 6 undef = .pointer (some ⟨b, 0, none⟩)) (h0 : w.cell? ⟨b, 0, none⟩ = some x) (h1 : w.cell? ⟨b, 1, none⟩ = some y) :
  (results Try.f34 tmps).run Try.prog w = .ok (.agg #[x, y]) w := by
 have ht' : tmps[6]?.getD undef = .pointer (some ⟨b, 0, none⟩) := by simpa using ht
 simp [results, ht', go_sem, h0, h1, Result.andThen]
theorem mvalue_calls (gs : List Gt) (m : List Cl) (vals : List Bool) (ar : Int) (xa : Option Addr) (xc : Nat) (ma : Option Addr) (mc : Nat) (va : Option Addr) (vc : Nat) (w : World) (h : GatesW w xa xc gs) (hm : CellsW w ma mc m) (hv : BoolsW w va vc vals) (hl : gs.length ≤ 1000) (hl2 : m.length ≤ 1000) (hl3 : vals.length ≤ 1000)
  (hb : ∀ g ∈ gs, g.2.1 ≤ 9223372036854775807 ∧ g.2.2 ≤ 9223372036854775807) (hr : ∀ x ∈ m, x.2 ≤ 9223372036854775807) :
  Calls Try.prog 34 #[.agg #[.slice xa gs.length xc], .agg #[.int .i64 ar, .slice ma m.length mc], .slice va vals.length vc] w fun e w' => ∃ b d, e = .returned (.agg #[.int .i64 ar, .slice b (valE gs vals m).length d]) ∧ Ints w' b d (valE gs vals m) ∧ w.grownBy w' none := by
 obtain ⟨ng, hng⟩ : ∃ n, gs.length = n := ⟨_, rfl⟩
 obtain ⟨n, hn⟩ : ∃ n, m.length = n := ⟨_, rfl⟩
 obtain ⟨nv, hnv⟩ : ∃ n, vals.length = n := ⟨_, rfl⟩
 have HE := hid (fun (U : World) (r : Int) (hU : w.grownBy U none) (hr : r ≤ 9223372036854775807) => eval_calls gs vals r xa xc va vc U (h.grown hU) (hv.grown hU) hl hl3 hb hr)
 rw [hng, hnv] at HE
 have HN := hid hn
 have HRB := hid hr
 rw [hn] at hl2 ⊢
 rw [hng, hnv]
 have HM := hid hm
 clear h hn hm hv hl hl3 hb hng hnv hr
 obtain ⟨i0, hi0, hz0, hz1, hz2⟩ := info_parts info3
 go_enter Try.func34, Try.ntmps34
 go_upto_region 2 with fail
 have g1 := gAl w (.cells #[.slice xa ng xc] 30) none
 have c1 := one_cell w (.slice xa ng xc) 30
 obtain ⟨W1, hW1⟩ : ∃ z, w.alloc (.cells #[.slice xa ng xc] 30) = z := ⟨_, rfl⟩
 have s1 : W1.heap.size = w.heap.size + 1 := by rw [← hW1]; simp
 rw [hW1] at g1 c1 ⊢
 have g2 := gAl W1 (.cells #[.int .i64 ar, .slice ma n mc] 26) none
 have c2 := one_cells W1 (.int .i64 ar) (.slice ma n mc) 26
 obtain ⟨W2, hW2⟩ : ∃ z, W1.alloc (.cells #[.int .i64 ar, .slice ma n mc] 26) = z := ⟨_, rfl⟩
 have s2 : W2.heap.size = W1.heap.size + 1 := by rw [← hW2]; simp
 rw [hW2] at g2 c2 ⊢
 have g3 := gAl W2 (.cells #[.int .i64 0, .slice none 0 0] 47) none
 have c3 := one_cells W2 (.int .i64 0) (.slice none 0 0) 47
 obtain ⟨W3, hW3⟩ : ∃ z, W2.alloc (.cells #[.int .i64 0, .slice none 0 0] 47) = z := ⟨_, rfl⟩
 have s3 : W3.heap.size = W2.heap.size + 1 := by rw [← hW3]; simp
 rw [hW3] at g3 c3 ⊢
 have g4 := gAl W3 (.cells #[.int .i64 ar, .slice none 0 0] 47) none
 have c4 := one_cells W3 (.int .i64 ar) (.slice none 0 0) 47
 obtain ⟨W4, hW4⟩ : ∃ z, W3.alloc (.cells #[.int .i64 ar, .slice none 0 0] 47) = z := ⟨_, rfl⟩
 have s4 : W4.heap.size = W3.heap.size + 1 := by rw [← hW4]; simp
 rw [hW4] at g4 c4 ⊢
 obtain ⟨b0, hb0⟩ : ∃ z, w.heap.size = z := ⟨_, rfl⟩
 obtain ⟨b4, hb4⟩ : ∃ z, w.heap.size + 1 = z := ⟨_, rfl⟩
 obtain ⟨br, hbr⟩ : ∃ z, w.heap.size + 1 + 1 = z := ⟨_, rfl⟩
 obtain ⟨bb, hbb⟩ : ∃ z, w.heap.size + 1 + 1 + 1 = z := ⟨_, rfl⟩
 obtain ⟨BZ, hBZ⟩ : ∃ z, W4.heap.size = z := ⟨_, rfl⟩
 rw [s1, hb4] at c2
 rw [s2, s1, hbr] at c3
 rw [s3, s2, s1, hbb] at c4
 rw [hb0] at c1
 rw [hbb, hbr, hb4, hb0]
 have g14 := gT g1 (gT g2 (gT g3 g4))
 have HW := hid (show w.heap.size = b0 ∧ b0 < b4 ∧ b4 < br ∧ br < bb ∧ bb < BZ ∧ W4.heap.size = BZ ∧ w.grownBy W4 none from ⟨by omega, by omega, by omega, by omega, by omega, by omega, g14⟩)
 have HR := hid (show Rc W4 br 0 (.int .i64 0) ∧ Rc W4 br 1 (.slice none 0 0) from ⟨⟨g4.cell c3.2.1 (by simp), (grown_frozen g4 (lies_lt c3.2.1) 0).trans c3.2.2.2.1⟩, ⟨g4.cell c3.2.2.1 (by simp), (grown_frozen g4 (lies_lt c3.2.1) 1).trans c3.2.2.2.2⟩⟩)
 have HB := hid (show Rc W4 bb 0 (.int .i64 ar) ∧ Rc W4 bb 1 (.slice none 0 0) from ⟨⟨c4.2.1, c4.2.2.2.1⟩, ⟨c4.2.2.1, c4.2.2.2.2⟩⟩)
 have HX := hid (show W4.cell? ⟨b0, 0, none⟩ = some (.slice xa ng xc) from (gT g2 (gT g3 g4)).cell c1.2.1 (by simp))
 have y1 := (gT g3 g4).cell c2.2.2.1 (by simp)
 clear hb0 hb4 hbr hbb hBZ s1 s2 s3 s4 g1 g2 g3 g4 c1 c2 c3 c4 hW1 hW2 hW3 hW4 g14
 go_wp2_with fail
 clear y1
 go_loopg [16] n (fun gk s16 wr => ∃ (k nk : Nat) (ya : Option Addr) (yc : Nat), s16 = .int .i64 (k : Int) ∧ gk = n - k ∧ k ≤ n ∧ Rc wr bb 0 (.int .i64 ar) ∧ Rc wr bb 1 (.slice ya nk yc) ∧ wr.ownsRow BZ 3 1 (.slice ya nk yc) nk (intCells (valE gs vals (m.take k))) ∧ Off (fun k => k = bb) W4 wr ∧ (valE gs vals (m.take k)).length = nk ∧ nk ≤ k)
 case atStart => exact ⟨0, 0, _, _, rfl, rfl, Nat.zero_le _, HB.out.1, HB.out.2, World.ownsRow_nil _ _ _ _, ⟨rfl, rfl, rfl, Nat.le_refl _, fun _ _ _ => rfl⟩, rfl, Nat.le_refl _⟩
 case round =>
  obtain ⟨k, nk, ya, yc, rfl, hgk, hk, hb0, hb1, hown, hof, hnk, hkk⟩ := hrel
  have HI := hid (And.intro hgk (And.intro hb0 (And.intro hb1 (And.intro hnk hkk)))); clear hgk hb0 hb1 hnk hkk
  have HO := hid hown; clear hown
  have HOF := hid hof; clear hof
  have HG := hid (HOF.out.grown HW.out.2.2.2.2.2.2 (fun q e => by have e' : q = bb := e; have := HW.out; omega))
  have HSZ := hid (show BZ ≤ wr.heap.size from by have h1 := HOF.out.size; have h2 := HW.out; omega)
  by_cases hkn : k < n
  ·
   have f1 : decide (k < n) = true := decide_eq_true hkn
   have f2 : decide ((k : Int) < (n : Int)) = true := decide_eq_true (by omega)
   have hk1 : IntKind.i64.wrap ((k : Int) + 1) = ((k + 1 : Nat) : Int) := by rw [IntWalk.i64_in _ (by omega)]; omega
   have hj0 : (0 : Int) ≤ (k : Int) := by omega
   have hj1 : (k : Int) < (n : Int) := by omega
   obtain ⟨x, hx⟩ : ∃ r, m[k]? = some r := ⟨_, List.getElem?_eq_getElem (by rw [HN.out]; exact hkn)⟩
   obtain ⟨ba, oa, rfl, x0, x1⟩ := (HM.out.grown HG.out).at hx
   have HSN := hid (valE_snoc (gs := gs) (v := vals) hx)
   have HXB := hid (HRB.out x (List.mem_of_getElem? hx))
   obtain ⟨Lk, hLk⟩ : ∃ L, valE gs vals (m.take k) = L := ⟨_, rfl⟩
   rw [hLk] at HO HSN HI
   clear hx hLk
   go_upto_region 5 with fail
   have g5 := gAl wr (.cells #[.int .i64 x.1, .int .i64 x.2] 71) none
   have hc5 := one_cells wr (.int .i64 x.1) (.int .i64 x.2) 71
   obtain ⟨U, hU⟩ : ∃ z, wr.alloc (.cells #[.int .i64 x.1, .int .i64 x.2] 71) = z := ⟨_, rfl⟩
   rw [hU] at g5 hc5 ⊢
   obtain ⟨bx, hbx⟩ : ∃ z, wr.heap.size = z := ⟨_, rfl⟩
   rw [hbx] at hc5 ⊢
   have z1 := hc5.2.2.1
   have z0 := g5.cell (HOF.out.cell HX.out (fun e => by have e' : b0 = bb := e; have := HW.out; omega)) (by simp)
   have HC5 := hid (And.intro hc5.2.1 g5)
   clear hU hbx g5 hc5 x0 x1
   go_wp2_with fail
   refine (HE.out U x.2 (gT HG.out HC5.out.2) HXB.out).mono ?_
   rintro e V ⟨rfl, hgV⟩
   have HGV := hid (gT HC5.out.2 hgV)
   have d0 := hgV.cell HC5.out.1 (by simp)
   have r0 := HI.out.2.1.step (Off.of HGV.out (M := fun _ => False) (fun k e => by cases e)) (fun e => e)
   have r1 := HI.out.2.2.1.step (Off.of HGV.out (M := fun _ => False) (fun k e => by cases e)) (fun e => e)
   have HR1 := hid (And.intro r0 r1)
   have d1 := r1.1
   have HOV := hid (own_grown HO.out HGV.out)
   have HOFV := hid (show Off (fun k => k = bb) W4 V from HOF.out.trans (Off.of HGV.out (M := fun _ => False) (fun k e => by cases e)) (fun q _ e => e.elim))
   have HSV := hid (Nat.le_trans HSZ.out HGV.out.size)
   have hnB : ¬ BZ ≤ bb := by have := HW.out; omega
   clear hgV z0 z1 r0 r1
   cases hev : evalC gs vals x.2 with
   | false =>
    rw [hev] at HSN
    go_wp2_with fail
    go_roundg (n - (k + 1))
    case measure => rw [HI.out.1]; omega
    case rel => exact ⟨k + 1, nk, ya, yc, rfl, rfl, by omega, HR1.out.1, HR1.out.2, (by rw [HSN.out]; exact HOV.out), HOFV.out, (by rw [HSN.out]; exact HI.out.2.2.2.1), Nat.le_succ_of_le HI.out.2.2.2.2⟩
   | true =>
    rw [hev] at HSN
    have hkk := HI.out.2.2.2.2
    go_wp2_with (at_builtin; refine wpList_append_own_at _ rfl _ _ 31 rfl BZ 3 i0 (.int .i64 0) 1 8 Try.underlying31 hi0 hz0 hz1 hz2 rfl (by decide) _ nk (intCells Lk) rfl (HOV.out.alloc _) ⟨V.heap.size, 0, none⟩ 1 1 [.int .i64 x.1] rfl rfl (cell_one_new _ _ _) (fun u hu => by simp at hu; subst hu; rfl) (by unfold maxLen; omega) (by omega) (by have := HSV.out; simp; omega) ?_)
    intro v' w6 hown' hgrow6 _ hat6
    obtain ⟨rgA, rcA, rfl⟩ := own_shape hown'
    have hga := gAl V (.cells #[.int .i64 x.1] 3) none
    have ho6 : Off (fun k => BZ ≤ k) V w6 := (Off.of hga (fun k e => by cases e)).trans (Off.of hgrow6 (M := fun k => BZ ≤ k) (fun k e => (HOV.out.lt k e).1)) (fun _ _ e => e)
    have r0 := HR1.out.1.step ho6 hnB
    have r1 := HR1.out.2.step ho6 hnB
    have hown7 : (w6.setCell ⟨bb, 1, none⟩ (.slice rgA (nk + 1) rcA)).ownsRow BZ 3 1 (.slice rgA (nk + 1) rcA) (nk + 1) (intCells (valE gs vals (m.take (k + 1)))) := by
     rw [HSN.out, if_pos trivial, intCells, List.map_append]
     refine hown'.kept (grown_set w6 bb 1 _) ?_
     cases hob : (Value.slice rgA (nk + 1) rcA).ownBlock with
     | none => exact .inl rfl
     | some b => exact .inr (fun e => by injection e with e; subst e; exact hnB (hown'.lt b hob).1)
    have HN7 := hid (And.intro (r0.other (o' := 1) (by decide) (.slice rgA (nk + 1) rcA)) (And.intro (r1.set (.slice rgA (nk + 1) rcA)) (And.intro hown7 (show Off (fun k => k = bb) W4 (w6.setCell ⟨bb, 1, none⟩ (.slice rgA (nk + 1) rcA)) from (HOFV.out.trans ho6 (fun q hq e => by have h1 := HW.out; omega)).trans (off_set w6 bb 1 _) (fun q hq e => e)))))
    have e1 := r1.1
    have e2 := r1.2
    clear hown' hgrow6 hat6 hga ho6 r0 r1 hown7 d0 d1
    go_wp2_with fail
    go_roundg (n - (k + 1))
    case measure => rw [HI.out.1]; omega
    case rel => exact ⟨k + 1, nk + 1, rgA, rcA, rfl, rfl, by omega, HN7.out.1, HN7.out.2.1, HN7.out.2.2.1, HN7.out.2.2.2, (by rw [HSN.out, if_pos trivial, List.length_append, HI.out.2.2.2.1]; rfl), Nat.succ_le_succ hkk⟩
  ·
   have f1 : decide (k < n) = false := decide_eq_false hkn
   have f2 : decide ((k : Int) < (n : Int)) = false := decide_eq_false (by omega)
   have hkn2 : k = n := by omega
   have d0 := HI.out.2.1.1
   have d1 := HI.out.2.2.1.1
   have hne : ¬ br = bb := by have := HW.out; omega
   have q0 := HR.out.1.step HOF.out hne
   have q1 := HR.out.2.step HOF.out hne
   have HQ := hid (And.intro q0 q1)
   have e0 := q0.1
   have e1 := q0.2
   have e2 := q1.1
   have e3 := q1.2
   have hall : valE gs vals (m.take k) = valE gs vals m := by rw [List.take_of_length_le (by rw [HN.out]; omega)]
   have HLN := hid (show (valE gs vals m).length = nk from by rw [← hall]; exact HI.out.2.2.2.1)
   have HROW := hid (show Span BZ wr.heap.size wr (fun W => Ints W ya yc (valE gs vals m)) from by
    have h := HO.out
    rw [hall, ← HLN.out] at h
    obtain ⟨a9, c9, e9, hs9⟩ := ints_span h
    cases e9
    exact hs9)
   clear hkn hne q0 q1 hall
   go_wp2_with fail
   have hof := off_set2 wr br (.int .i64 ar) (.slice ya nk yc)
   refine bodyPost_ret (results34 _ _ br (.int .i64 ar) (.slice ya nk yc) rfl ((HQ.out.1.set (.int .i64 ar)).other (o' := 1) (by decide) (.slice ya nk yc)).1 ((HQ.out.2.other (o' := 0) (by decide) (.int .i64 ar)).set (.slice ya nk yc)).1) rfl ⟨ya, yc, by rw [HLN.out], (HROW.out.away hof (fun q e => by have e' : q = br := e; have := HW.out; omega)).here, hof.grown HG.out (fun q e => by have e' : q = br := e; have := HW.out; omega)⟩
end Go.Proofs.Ythdhmflodiincaa
