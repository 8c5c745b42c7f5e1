/- Texts of the proof: RP C2 RN RJ RD KJ. -/
import Derived.Test.YthdhmflodiincaaGreatCB12
import Derived.Test.YthdhmflodiincaaGreatCB03
import Derived.Test.YthdhmflodiincaaGreatRows
import Derived.Test.YthdhmflodiincaaGreatCB05
import Derived.Test.YthdhmflodiincaaGreatCB01
import Derived.ProofKit
import Derived.OpenShut
import Derived.Stop.Joined
import Derived.SevenTiedAt
import Derived.Deep.Slices
import Derived.Deep.Strs
import Derived.ChangeSame
import Derived.Lib.SmallJoins
import Derived.Test.YthdhmflodiincaaGreatCB02
import Derived.Test.YthdhmflodiincaaGreatCB09
import Derived.Maps.RangeWalk
set_option maxRecDepth 100000
set_option maxHeartbeats 8000000
namespace Go.Proofs.YthdhmflodiincaaGreat
open Go.RowKit Go.Maps

def U8W (w : World) (a : Option Addr) (c : Nat) (zs : List Nat) : Prop :=
  zs.length ≤ c ∧ (zs = [] ∨ ∃ b o, a = some ⟨b, o, none⟩ ∧ ∀ (j : Nat) (z : Nat), zs[j]? = some z → w.cell? ⟨b, o + j, none⟩ = some (.int .u8 (z : Int)))
theorem U8W.grown {w w' : World} {a : Option Addr} {c : Nat} {zs : List Nat} (h : U8W w a c zs) (hg : w.grownBy w' none) : U8W w' a c zs := by
  obtain ⟨hc, h | ⟨b, o, ha, hz⟩⟩ := h
  · exact ⟨hc, .inl h⟩
  · exact ⟨hc, .inr ⟨b, o, ha, fun j z hj => hg.cell (hz j z hj) (by simp)⟩⟩
theorem U8W.at {w : World} {a : Option Addr} {c : Nat} {zs : List Nat} (h : U8W w a c zs) {i : Nat} {z : Nat} (hz : zs[i]? = some z) : ∃ b o, a = some ⟨b, o, none⟩ ∧ w.cell? ⟨b, o + i, none⟩ = some (.int .u8 (z : Int)) := by
  obtain ⟨_, h | ⟨b, o, ha, hc⟩⟩ := h
  · rw [h] at hz; simp at hz
  · exact ⟨b, o, ha, hc i z hz⟩
def madeC (refs : List Int) (raw : List Nat) (k : Nat) : List Cl :=
  (List.range k).filterMap fun i => if (raw.getD i 0) % 2 = 1 ∧ pickL refs (raw.getD i 0 / 2) ≠ 1 then some ((i : Int), pickL refs (raw.getD i 0 / 2)) else none
theorem madeC_snoc {refs : List Int} {raw : List Nat} {k v : Nat} (h : raw[k]? = some v) : madeC refs raw (k + 1) = if v % 2 = 1 ∧ pickL refs (v / 2) ≠ 1 then madeC refs raw k ++ [((k : Int), pickL refs (v / 2))] else madeC refs raw k := by
  unfold madeC
  have e : raw.getD k 0 = v := by rw [List.getD_eq_getElem?_getD, h]; rfl
  rw [List.range_succ, List.filterMap_append]
  by_cases hc : v % 2 = 1 ∧ pickL refs (v / 2) ≠ 1
  · rw [if_pos hc, List.filterMap_cons, List.filterMap_nil, e, if_pos hc]
  · rw [if_neg hc, List.filterMap_cons, List.filterMap_nil, e, if_neg hc, List.append_nil]
theorem resMade (tmps : Array Value) (w : World) (b : Nat) (x y : Value) (ht : tmps.getD 8 undef = .pointer (some ⟨b, 0, none⟩)) (h0 : w.cell? ⟨b, 0, none⟩ = some x) (h1 : w.cell? ⟨b, 1, none⟩ = some y) :
    (results Tryz.f10 tmps).run Tryz.prog w = .ok (.agg #[x, y]) w := by
  have ht' : tmps[8]?.getD undef = .pointer (some ⟨b, 0, none⟩) := by simpa using ht
  simp [results, ht', go_sem, h0, h1, Result.andThen]
theorem made_calls (refs : List Int) (n ar : Nat) (raw : List Nat) (ra : Option Addr) (rc : Nat) (wa : Option Addr) (wc : Nat) (w : World) (h : IntsW w ra rc refs) (hw : U8W w wa wc raw) (hl : refs.length ≤ 1000) (hl2 : raw.length ≤ 9223372036854775807) (hb : ∀ r ∈ refs, r ≤ 9223372036854775807) (hraw : ∀ v ∈ raw, v < 256) (hn : n ≤ 4) (hn1 : 1 ≤ n) (har : ar ≤ 3) (har1 : 1 ≤ ar) :
    Calls Tryz.prog 10 #[.slice ra refs.length rc, .int .i64 (n : Int), .int .i64 (ar : Int), .slice wa raw.length wc] w fun e w' => ∃ b d m, e = .returned (.agg #[.int .i64 (ar : Int), .slice b m d]) ∧ (madeC refs raw (min (n ^ ar) raw.length)).length = m ∧ CellsW w' b d (madeC refs raw (min (n ^ ar) raw.length)) ∧ w.grownBy w' none := by
  obtain ⟨nr, hnr⟩ : ∃ z, refs.length = z := ⟨_, rfl⟩
  obtain ⟨nw, hnw⟩ : ∃ z, raw.length = z := ⟨_, rfl⟩
  have HP := Lib.hid (fun (U : World) (v : Nat) (hU : w.grownBy U none) (hv : v < 256) => pick_calls refs v ra rc U (h.grown hU) hl hv hb)
  rw [hnr] at HP
  have HU := Lib.hid hw
  have HRW := Lib.hid hraw
  have HN := Lib.hid hnw
  have htot : n ^ ar ≤ 64 := by
    have h1 : n ^ ar ≤ 4 ^ ar := Nat.pow_le_pow_left hn _
    have h2 : 4 ^ ar ≤ 4 ^ 3 := Nat.pow_le_pow_right (by omega) har
    omega
  rw [hnw] at hl2
  rw [hnr, hnw]
  clear h hw hl hb hraw hnr hnw
  obtain ⟨i0, hi0, hz0, hz1, hz2⟩ := info_parts infoCl
  have g1 := World.grownBy_alloc w (.cells #[.int .i64 0, .slice none 0 0] 35) none
  have c1 := one_cells w (.int .i64 0) (.slice none 0 0) 35
  obtain ⟨W1, hW1⟩ : ∃ z, w.alloc (.cells #[.int .i64 0, .slice none 0 0] 35) = z := ⟨_, rfl⟩
  have s1 : W1.heap.size = w.heap.size + 1 := by rw [← hW1]; simp
  rw [hW1] at g1 c1
  obtain ⟨br, hbr⟩ : ∃ z, w.heap.size = z := ⟨_, rfl⟩
  have HW1 := Lib.hid (show Rc W1 br 0 (.int .i64 0) ∧ Rc W1 br 1 (.slice none 0 0) ∧ w.grownBy W1 none ∧ W1.heap.size = br + 1 ∧ w.heap.size = br from ⟨⟨by rw [← hbr]; exact c1.2.1, by rw [← hbr]; exact c1.2.2.2.1⟩, ⟨by rw [← hbr]; exact c1.2.2.1, by rw [← hbr]; exact c1.2.2.2.2⟩, g1, by omega, hbr⟩)
  clear g1 c1 s1
  go_enter Tryz.func10, Tryz.ntmps10
  go_wp2_with fail
  clear hW1
  go_loopg [9, 10] ar (fun gk s9 s10 wr => ∃ (i t : Nat), s9 = .int .i64 (t : Int) ∧ s10 = .int .i64 (i : Int) ∧ gk = ar + 1 - i ∧ i ≤ ar ∧ t = n ^ i ∧ wr = W1)
  case atStart => exact ⟨1, n, rfl, rfl, by omega, har1, by simp, rfl⟩
  case round =>
    obtain ⟨i, t, rfl, rfl, hgk, hi, ht, rfl⟩ := hrel
    have htl : t ≤ 64 := by rw [ht]; exact Nat.le_trans (Nat.pow_le_pow_right hn1 hi) htot
    by_cases hia : i < ar
    · have f1 : decide (i < ar) = true := decide_eq_true hia
      have f2 : decide ((i : Int) < (ar : Int)) = true := decide_eq_true (by omega)
      have hk1 : IntKind.i64.wrap ((i : Int) + 1) = ((i + 1 : Nat) : Int) := by rw [IntWalk.i64_in _ (by omega)]; omega
      obtain ⟨t2, ht2⟩ : ∃ z, t * n = z := ⟨_, rfl⟩
      have htl2 : t2 ≤ 256 := by rw [← ht2]; exact Nat.mul_le_mul htl hn
      have hw4 : IntKind.i64.wrap ((t : Int) * (n : Int)) = (t2 : Int) := by rw [show (t : Int) * (n : Int) = (t2 : Int) by rw [← ht2]; simp]; exact IntWalk.i64_in _ (by omega)
      have HT := Lib.hid (show t2 = n ^ (i + 1) from by rw [← ht2, ht, Nat.pow_succ])
      have HGK := Lib.hid hgk
      clear hgk ht ht2
      go_wp2_with fail
      go_roundg (ar + 1 - (i + 1))
      case measure => rw [HGK.out]; omega
      case rel => exact ⟨i + 1, t2, rfl, rfl, rfl, by omega, HT.out, rfl⟩
    · have f1 : decide (i < ar) = false := decide_eq_false hia
      have f2 : decide ((i : Int) < (ar : Int)) = false := decide_eq_false (by omega)
      have hia2 : i = ar := by omega
      have HT := Lib.hid (show t = n ^ ar from by rw [ht, hia2])
      clear ht hia hgk hia2
      go_upto_region 7 with fail
      have g2 := World.grownBy_alloc wr (.cells #[.int .i64 (ar : Int), .slice none 0 0] 35) none
      have c2 := one_cells wr (.int .i64 (ar : Int)) (.slice none 0 0) 35
      obtain ⟨W2, hW2⟩ : ∃ z, wr.alloc (.cells #[.int .i64 (ar : Int), .slice none 0 0] 35) = z := ⟨_, rfl⟩
      have s2 : W2.heap.size = wr.heap.size + 1 := by rw [← hW2]; simp
      rw [hW2] at g2 c2 ⊢
      obtain ⟨bb, hbb⟩ : ∃ z, wr.heap.size = z := ⟨_, rfl⟩
      obtain ⟨BZ, hBZ⟩ : ∃ z, W2.heap.size = z := ⟨_, rfl⟩
      rw [hbb] at c2 ⊢
      have HW := Lib.hid (show w.heap.size = br ∧ br < bb ∧ bb < BZ ∧ W2.heap.size = BZ ∧ w.grownBy W2 none from by have h1 := HW1.out.2.2.2; exact ⟨h1.2, by omega, by omega, hBZ, World.grownBy.trans HW1.out.2.2.1 g2⟩)
      have HR := Lib.hid (show Rc W2 br 0 (.int .i64 0) ∧ Rc W2 br 1 (.slice none 0 0) from ⟨HW1.out.1.step (Off.of g2 (M := fun _ => False) (fun k e => by cases e)) (fun e => e), HW1.out.2.1.step (Off.of g2 (M := fun _ => False) (fun k e => by cases e)) (fun e => e)⟩)
      have HB := Lib.hid (show Rc W2 bb 0 (.int .i64 (ar : Int)) ∧ Rc W2 bb 1 (.slice none 0 0) from ⟨⟨c2.2.1, c2.2.2.2.1⟩, ⟨c2.2.2.1, c2.2.2.2.2⟩⟩)
      obtain ⟨wz, rfl⟩ : ∃ z, z = wr := ⟨_, rfl⟩
      clear hW2 s2 g2 c2 hbb hBZ hi
      go_wp2_with fail
      go_loopg [12] t (fun gk s12 wr => ∃ (k nk : Nat) (ya : Option Addr) (yc : Nat), s12 = .int .i64 (k : Int) ∧ gk = t - k ∧ k ≤ min t nw ∧ Rc wr bb 0 (.int .i64 (ar : Int)) ∧ Rc wr bb 1 (.slice ya nk yc) ∧ wr.ownsRow BZ 70 2 (.slice ya nk yc) nk (clCells (madeC refs raw k)) ∧ Off (fun k => k = bb) W2 wr ∧ (madeC refs raw k).length = nk ∧ nk ≤ k)
      case atStart => exact ⟨0, 0, _, _, rfl, rfl, Nat.zero_le _, HB.out.1, HB.out.2, World.ownsRow_nil _ _ _ _, ⟨rfl, rfl, rfl, Nat.le_refl _, fun _ _ _ => rfl⟩, rfl, Nat.le_refl _⟩
      case round =>
        obtain ⟨k, nk, ya, yc, rfl, hgk, hk, hb0, hb1, hown, hof, hnk, hkk⟩ := hrel
        have HI := Lib.hid (And.intro hgk (And.intro hb0 (And.intro hb1 (And.intro hnk hkk)))); clear hgk hb0 hb1 hnk hkk
        have HO := Lib.hid hown; clear hown
        have HOF := Lib.hid hof; clear hof
        have HG := Lib.hid (HOF.out.grown HW.out.2.2.2.2 (fun q e => by have e' : q = bb := e; have := HW.out; omega))
        have HSZ := Lib.hid (show BZ ≤ wr.heap.size from by have h1 := HOF.out.size; have h2 := HW.out; omega)
        have hkt : k ≤ t := Nat.le_trans hk (Nat.min_le_left _ _)
        have hkw : k ≤ nw := Nat.le_trans hk (Nat.min_le_right _ _)
        clear hk
        by_cases hkn : k < t ∧ k < nw
        · have f1 : decide (k < t) = true := decide_eq_true hkn.1
          have f2 : decide ((k : Int) < (t : Int)) = true := decide_eq_true (by omega)
          have f3 : decide (k < nw) = true := decide_eq_true hkn.2
          have f4 : decide ((k : Int) < (nw : Int)) = true := decide_eq_true (by omega)
          have hk1 : IntKind.i64.wrap ((k : Int) + 1) = ((k + 1 : Nat) : Int) := by rw [IntWalk.i64_in _ (by omega)]; omega
          have hj0 : (0 : Int) ≤ (k : Int) := by omega
          have hj1 : (k : Int) < (nw : Int) := by omega
          obtain ⟨v, hv⟩ : ∃ r, raw[k]? = some r := ⟨_, List.getElem?_eq_getElem (by rw [HN.out]; exact hkn.2)⟩
          obtain ⟨ba, oa, rfl, x0⟩ := (HU.out.grown HG.out).at hv
          have hvb := HRW.out v (List.mem_of_getElem? hv)
          have HSN := Lib.hid (madeC_snoc (refs := refs) hv)
          obtain ⟨Lk, hLk⟩ : ∃ L, madeC refs raw k = L := ⟨_, rfl⟩
          rw [hLk] at HO HSN HI
          clear hv hLk
          obtain ⟨r, hr⟩ : ∃ z, v % 2 = z := ⟨_, rfl⟩
          obtain ⟨q, hq⟩ : ∃ z, v / 2 = z := ⟨_, rfl⟩
          rw [hr, hq] at HSN
          have hr2 : r < 2 := by omega
          have hq2 : q < 256 := by omega
          have hm : (v : Int).tmod 2 = (r : Int) := by rw [Int.tmod_eq_emod_of_nonneg (by omega)]; omega
          have hd : (v : Int) / 2 = (q : Int) := by omega
          clear hr hq
          have hv2 : ((r : Int) == 1) = decide (r = 1) := by rcases (show r = 0 ∨ r = 1 by omega) with e | e <;> rw [e] <;> rfl
          have hv3 : (r == 1) = decide (r = 1) := by rcases (show r = 0 ∨ r = 1 by omega) with e | e <;> rw [e] <;> rfl
          obtain ⟨f, hf⟩ : ∃ z, pickL refs q = z := ⟨_, rfl⟩
          have HPP := Lib.hid (HP.out wr q HG.out hq2)
          rw [hf] at HPP HSN
          clear hf
          by_cases hr1 : r = 1
          · have g1 : decide (r = 1) = true := decide_eq_true hr1
            rw [g1] at hv2 hv3
            by_cases hf1 : f = 1
            · have g2 : (f == 1) = true := by rw [hf1]; rfl
              have g3 : (f != 1) = false := by rw [hf1]; rfl
              have hc : ¬ (r = 1 ∧ f ≠ 1) := fun e => e.2 hf1
              go_wp2_with fail
              refine HPP.out.mono ?_
              rintro e w9 ⟨rfl, hw9⟩
              rw [hw9]
              clear hw9 w9
              go_wp2_with fail
              go_roundg (t - (k + 1))
              case measure => rw [HI.out.1]; omega
              case rel => exact ⟨k + 1, nk, ya, yc, rfl, rfl, by omega, HI.out.2.1, HI.out.2.2.1, (by rw [HSN.out, if_neg hc]; exact HO.out), HOF.out, (by rw [HSN.out, if_neg hc]; exact HI.out.2.2.2.1), Nat.le_succ_of_le HI.out.2.2.2.2⟩
            · have g2 : (f == 1) = false := by simpa using hf1
              have g3 : (f != 1) = true := by simpa using hf1
              have hc : r = 1 ∧ f ≠ 1 := ⟨hr1, hf1⟩
              have HSM := Lib.hid (show madeC refs raw (k + 1) = Lk ++ [((k : Int), f)] from by rw [HSN.out, if_pos hc])
              have d0 := HI.out.2.2.1.1
              have hnew := cells_new_at wr ((k : Int), f)
              have HLL := Lib.hid (show (clCells Lk).length = nk * 2 from by rw [clCells_len, HI.out.2.2.2.1])
              have hkk := HI.out.2.2.2.2
              obtain ⟨LC, hLC⟩ : ∃ L, clCells Lk = L := ⟨_, rfl⟩
              have HLC := Lib.hid hLC
              rw [hLC] at HO HLL
              clear hLC hc hf1 hr1
              go_wp2_with fail
              refine HPP.out.mono ?_
              rintro e w9 ⟨rfl, hw9⟩
              rw [hw9]
              clear hw9 w9
              go_wp2_with (at_builtin; refine wpList_append_own_at _ rfl _ _ 33 rfl BZ 70 i0 (.agg #[.int .i64 0, .int .i64 0]) 2 16 Tryz.underlying33 hi0 hz0 hz1 hz2 rfl (by decide) _ nk LC rfl (HO.out.alloc _) ⟨wr.heap.size, 0, none⟩ 1 1 [.int .i64 (k : Int), .int .i64 f] rfl rfl hnew (fun u hu => by simp at hu; rcases hu with rfl | rfl <;> rfl) (by unfold maxLen; omega) (by omega) (by have := HSZ.out; simp; omega) ?_)
              intro v' w6 hown' hgrow6 _ hat6
              obtain ⟨rgA, rcA, rfl⟩ := own_shape hown'
              have hga := World.grownBy_alloc wr (.cells #[.int .i64 (k : Int), .int .i64 f] 70) none
              have ho6 : Off (fun k => BZ ≤ k) wr w6 := (Off.of hga (fun k e => by cases e)).trans (Off.of hgrow6 (M := fun k => BZ ≤ k) (fun k e => (HO.out.lt k e).1)) (fun _ _ e => e)
              have hnB : ¬ BZ ≤ bb := by have := HW.out; omega
              have r0 := HI.out.2.1.step ho6 hnB
              have r1 := HI.out.2.2.1.step ho6 hnB
              have hown7 : (w6.setCell ⟨bb, 1, none⟩ (.slice rgA (nk + 1) rcA)).ownsRow BZ 70 2 (.slice rgA (nk + 1) rcA) (nk + 1) (clCells (madeC refs raw (k + 1))) := by
                rw [HSM.out, clCells_app, HLC.out]
                refine hown'.kept (grown_set w6 bb 1 _) ?_
                cases hob : (Value.slice rgA (nk + 1) rcA).ownBlock with
                | none => exact .inl rfl
                | some b => exact .inr (fun e => by injection e with e; subst e; exact hnB (hown'.lt b hob).1)
              have HN7 := Lib.hid (And.intro (r0.other (o' := 1) (by decide) (.slice rgA (nk + 1) rcA)) (And.intro (r1.set (.slice rgA (nk + 1) rcA)) (And.intro hown7 (show Off (fun k => k = bb) W2 (w6.setCell ⟨bb, 1, none⟩ (.slice rgA (nk + 1) rcA)) from (HOF.out.trans ho6 (fun q hq e => by have h1 := HW.out; omega)).trans (off_set w6 bb 1 _) (fun q hq e => e)))))
              have q1 := r1.1
              have q2 := r1.2
              clear hown' hgrow6 hat6 hga ho6 hnB r0 r1 hown7 d0 x0 hnew
              go_wp2_with fail
              go_roundg (t - (k + 1))
              case measure => rw [HI.out.1]; omega
              case rel => exact ⟨k + 1, nk + 1, rgA, rcA, rfl, rfl, by omega, HN7.out.1, HN7.out.2.1, HN7.out.2.2.1, HN7.out.2.2.2, (by rw [HSM.out, List.length_append, HI.out.2.2.2.1]; rfl), Nat.succ_le_succ hkk⟩
          · have g1 : decide (r = 1) = false := decide_eq_false hr1
            rw [g1] at hv2 hv3
            have hc : ¬ (r = 1 ∧ f ≠ 1) := fun e => hr1 e.1
            go_wp2_with fail
            refine HPP.out.mono ?_
            rintro e w9 ⟨rfl, hw9⟩
            rw [hw9]
            clear hw9 w9
            go_wp2_with fail
            go_roundg (t - (k + 1))
            case measure => rw [HI.out.1]; omega
            case rel => exact ⟨k + 1, nk, ya, yc, rfl, rfl, by omega, HI.out.2.1, HI.out.2.2.1, (by rw [HSN.out, if_neg hc]; exact HO.out), HOF.out, (by rw [HSN.out, if_neg hc]; exact HI.out.2.2.2.1), Nat.le_succ_of_le HI.out.2.2.2.2⟩
        · have hkm : k = min t nw := by omega
          have hall : madeC refs raw k = madeC refs raw (min (n ^ ar) nw) := by rw [← HT.out, hkm]
          have d0 := HI.out.2.1.1
          have d1 := HI.out.2.2.1.1
          have hne : ¬ br = bb := by have := HW.out; omega
          have q0 := HR.out.1.step HOF.out hne
          have q1 := HR.out.2.step HOF.out hne
          have HQ := Lib.hid (And.intro q0 q1)
          have e0 := q0.1
          have e1 := q0.2
          have e2 := q1.1
          have e3 := q1.2
          have HLN := Lib.hid (show (madeC refs raw (min (n ^ ar) nw)).length = nk from by rw [← hall]; exact HI.out.2.2.2.1)
          have HROW := Lib.hid (show Span BZ wr.heap.size wr (fun W => CellsW W ya yc (madeC refs raw (min (n ^ ar) nw))) from by
            have h := HO.out
            rw [hall, ← HLN.out] at h
            obtain ⟨a9, c9, e9, hs9⟩ := cells_span h
            cases e9
            exact hs9)
          by_cases hkt2 : k < t
          · have f1 : decide (k < t) = true := decide_eq_true hkt2
            have f2 : decide ((k : Int) < (t : Int)) = true := decide_eq_true (by omega)
            have f3 : decide (k < nw) = false := decide_eq_false (by omega)
            have f4 : decide ((k : Int) < (nw : Int)) = false := decide_eq_false (by omega)
            clear hkn hne q0 q1 hall hkm
            go_wp2_with fail
            have hof := off_set2 wr br (.int .i64 (ar : Int)) (.slice ya nk yc)
            exact bodyPost_ret (resMade _ _ br (.int .i64 (ar : Int)) (.slice ya nk yc) rfl ((HQ.out.1.set (.int .i64 (ar : Int))).other (o' := 1) (by decide) (.slice ya nk yc)).1 ((HQ.out.2.other (o' := 0) (by decide) (.int .i64 (ar : Int))).set (.slice ya nk yc)).1) rfl ⟨ya, yc, nk, rfl, HLN.out, (HROW.out.away hof (fun q e => by have e' : q = br := e; have := HW.out; omega)).here, hof.grown HG.out (fun q e => by have e' : q = br := e; have := HW.out; omega)⟩
          · have f1 : decide (k < t) = false := decide_eq_false hkt2
            have f2 : decide ((k : Int) < (t : Int)) = false := decide_eq_false (by omega)
            clear hkn hne q0 q1 hall hkm
            go_wp2_with fail
            have hof := off_set2 wr br (.int .i64 (ar : Int)) (.slice ya nk yc)
            exact bodyPost_ret (resMade _ _ br (.int .i64 (ar : Int)) (.slice ya nk yc) rfl ((HQ.out.1.set (.int .i64 (ar : Int))).other (o' := 1) (by decide) (.slice ya nk yc)).1 ((HQ.out.2.other (o' := 0) (by decide) (.int .i64 (ar : Int))).set (.slice ya nk yc)).1) rfl ⟨ya, yc, nk, rfl, HLN.out, (HROW.out.away hof (fun q e => by have e' : q = br := e; have := HW.out; omega)).here, hof.grown HG.out (fun q e => by have e' : q = br := e; have := HW.out; omega)⟩
end Go.Proofs.YthdhmflodiincaaGreat

namespace Go.Proofs.YthdhmflodiincaaGreat
open Go.ChangeShapes Go.WideShapes Go.ChangeAt Go.WideMaps Go.WideElems Go.RowKit Go.Deep Go.Joins

theorem own : ownKnob Tryz.prog.godebug = none := by kernel_rfl
theorem below_of {w w' : World} (h : w.grownBy w' none) : Below w.heap.size w w' := ⟨h.os, h.tape, h.output, h.size, fun k hk => h.block k hk (by simp)⟩
theorem laidOut : laidOutB Tryz.prog = true := by kernel_rfl
theorem trodAll_below' {H : Type} {enc : TypeId × Value → H} {P : Program} (hl : laidOutB P = true) {W W' : World} (hb : Below W.heap.size W W') : ∀ {ts : List TypeId} {vs : List Value} {ds : List (DataW H)} {ps : List MemPlace},
    (ts.all fun t => P.readableRec t && decide (t < P.types.size)) = true → DataW.TrodAll enc P W 0 (fun _ => true) true ts vs ds ps → (∀ x ∈ ps, x.block < W.heap.size) →
    DataW.TrodAll enc P W' 0 (fun b => decide (b < W.heap.size)) true ts vs ds ps
  | [], _, _, _, _, h, _ => by
    obtain ⟨rfl, rfl, rfl⟩ := trodAll_nil h
    exact trodAll_mk0
  | t :: ts, vs, ds, ps, ht, h, hlt => by
    obtain ⟨v, vs', d, ds', p, q, rfl, rfl, rfl, hd, hrest⟩ := trodAll_cons h
    simp only [List.all_cons, Bool.and_eq_true, decide_eq_true_eq] at ht
    exact ⟨p, q, Below.trod hl ht.1.1 ht.1.2 hd hb (fun x hx => hlt x (by simp [hx])), trodAll_below' hl hb (by simpa using ht.2) hrest (fun x hx => hlt x (by simp [hx])), rfl⟩
theorem trodAll_below {H : Type} {enc : TypeId × Value → H} {W W' : World} (hb : Below W.heap.size W W') {ts : List TypeId} {vs : List Value} {ds : List (DataW H)} {ps : List MemPlace}
    (ht : (ts.all fun t => Tryz.prog.readableRec t && decide (t < Tryz.prog.types.size)) = true) (h : DataW.TrodAll enc Tryz.prog W 0 (fun _ => true) true ts vs ds ps) (hlt : ∀ x ∈ ps, x.block < W.heap.size) :
    DataW.TrodAll enc Tryz.prog W' 0 (fun b => decide (b < W.heap.size)) true ts vs ds ps := trodAll_below' laidOut hb ht h hlt

set_option maxRecDepth 100000
section
variable {H : Type} {enc : TypeId × Value → H} {W : World}
theorem add_off (b o j : Nat) : (⟨b, o, none⟩ : Addr).add j = ⟨b, o + j, none⟩ := by unfold Addr.add; split <;> simp_all
theorem slice_open {t e k : Nat} {α : Type} [Inhabited α] (P : α → Nat → Nat → Prop) (ht : Tryz.prog.underlying t = some (.slice e)) (hk : Tryz.prog.cellsOf e = k)
    (each : ∀ (n : Nat) (a : Addr) (cs : List Value) (x : DataW H × List MemPlace), W.cells? 0 a k = some cs → DataW.trod enc Tryz.prog W 0 (fun _ => true) true n e cs = some x → ∃ (y : α) (b o : Nat), a = ⟨b, o, none⟩ ∧ P y b o)
    {n : Nat} {v : Value} {x : DataW H × List MemPlace} (h : DataW.trod enc Tryz.prog W 0 (fun _ => true) true n t [v] = some x) :
    ∃ (l : List α) (a : Option Addr) (c : Nat), v = .slice a l.length c ∧ l.length ≤ c ∧ (l.length : Int) ≤ 9223372036854775807 ∧ ∀ (j : Nat) (y : α), l[j]? = some y → ∃ b o, a = some ⟨b, o, none⟩ ∧ P y b (o + j * k) := by
  rcases open_slice ht h with ⟨hcs, _⟩ | ⟨a, len, cap, m, n', D, Pl, hcs, _, hl, hm, hmm, _, hx⟩
  · injection hcs with hcs _
    subst hcs
    exact ⟨[], none, 0, rfl, Nat.le_refl _, by simp, fun j y hj => by simp at hj⟩
  · injection hcs with hcs _
    subst hcs
    simp only [if_true] at hmm
    subst hmm
    have h1 : ∀ i, i < len → ∃ y : α, ∃ b o, a.add (i * k) = ⟨b, o, none⟩ ∧ P y b o := by
      intro i hi
      obtain ⟨cs', hc, ht'⟩ := hx i (by omega)
      rw [hk] at hc
      exact each _ _ _ _ hc ht'
    obtain ⟨f, hf⟩ := choose_lt h1
    have hlen : ((List.range len).map f).length = len := by simp
    refine ⟨(List.range len).map f, some a, m, by rw [hlen], by rw [hlen]; exact hl, by rw [hlen]; unfold maxLen at hm; omega, fun j y hj => ?_⟩
    have hjl : j < len := by have := (List.getElem?_eq_some_iff.1 hj).1; rwa [hlen] at this
    rw [List.getElem?_map, List.getElem?_range hjl] at hj
    simp only [Option.map_some, Option.some.injEq] at hj
    subst hj
    obtain ⟨b0, o0, e0, _⟩ := hf 0 (by omega)
    rw [Nat.zero_mul, show a.add 0 = a from rfl] at e0
    subst e0
    obtain ⟨b, o, e, hp⟩ := hf j hjl
    rw [add_off] at e
    simp only [Addr.mk.injEq, and_true] at e
    obtain ⟨rfl, rfl⟩ := e
    exact ⟨b0, o0, rfl, hp⟩
theorem trod_u8 {n : Nat} {v : Value} {y : DataW H × List MemPlace} (h : DataW.trod enc Tryz.prog W 0 (fun _ => true) true n 5 [v] = some y) : ∃ z : Nat, v = .int .u8 (z : Int) ∧ z < 256 := by
  obtain ⟨z, e0, _, wx⟩ := DataW.trod_int Tryz.underlying5 h
  injection e0 with e0 _
  subst e0
  have hw : 0 ≤ z ∧ z < 256 := by
    simp [Lit.wf, IntKind.min, IntKind.max, IntKind.bits, IntKind.signed] at wx
    omega
  exact ⟨z.toNat, by rw [Int.toNat_of_nonneg hw.1], by omega⟩
theorem addr_plain {a : Addr} {w : World} {v : Value} {j : Nat} (h : w.cell? (a.add j) = some v) (hj : j = 0) : ∃ b o, a = ⟨b, o, none⟩ := by
  subst hj
  obtain ⟨b, o, spot⟩ := a
  have hspot : spot = none := by simpa [Addr.add] using World.cell?_spot h
  subst hspot
  exact ⟨b, o, rfl⟩
theorem three_at {t0 t1 t2 : TypeId} {n : Nat} {a : Addr} {cs : List Value} {k : TypeId} {f0 f1 f2 : Field} {x : DataW H × List MemPlace} (hu : Tryz.prog.underlying k = some (.struct #[f0, f1, f2])) (o0 : f0.offset = 0 ∧ f0.type = t0) (o1 : f1.offset = 1 ∧ f1.type = t1) (o2 : f2.offset = 2 ∧ f2.type = t2)
    (k0 : Tryz.prog.cellsOf t0 = 1) (k1 : Tryz.prog.cellsOf t1 = 1) (k2 : Tryz.prog.cellsOf t2 = 1) (hc : W.cells? 0 a 3 = some cs) (h : DataW.trod enc Tryz.prog W 0 (fun _ => true) true n k cs = some x) :
    ∃ (b o : Nat) (v0 v1 v2 : Value) (m : Nat) (y0 y1 y2 : DataW H × List MemPlace), a = ⟨b, o, none⟩ ∧ W.cell? ⟨b, o, none⟩ = some v0 ∧ W.cell? ⟨b, o + 1, none⟩ = some v1 ∧ W.cell? ⟨b, o + 2, none⟩ = some v2 ∧
      DataW.trod enc Tryz.prog W 0 (fun _ => true) true m t0 [v0] = some y0 ∧ DataW.trod enc Tryz.prog W 0 (fun _ => true) true m t1 [v1] = some y1 ∧ DataW.trod enc Tryz.prog W 0 (fun _ => true) true m t2 [v2] = some y2 := by
  obtain ⟨_, hlen, hat⟩ := World.cells?_some hc
  match cs, hlen with
  | [c0, c1, c2], _ =>
    have a0 := hat 0 (by omega)
    obtain ⟨b, o, rfl⟩ := addr_plain a0 rfl
    have a1 := hat 1 (by omega)
    have a2 := hat 2 (by omega)
    obtain ⟨xs, m, _, _, _, hl, hf⟩ := DataW.trod_struct hu h
    match xs, hl, hf with
    | [y0, y1, y2], _, hf =>
      have f0 := hf 0 _ rfl
      have f1 := hf 1 _ rfl
      have f2 := hf 2 _ rfl
      exact ⟨b, o, c0, c1, c2, m, y0, y1, y2, rfl, by simpa [Addr.add] using a0, by simpa [Addr.add] using a1, by simpa [Addr.add] using a2, by simpa [o0.1, o0.2, k0] using f0, by simpa [o1.1, o1.2, k1] using f1, by simpa [o2.1, o2.2, k2] using f2⟩
theorem c5 : Tryz.prog.cellsOf 5 = 1 := by kernel_rfl
theorem c3 : Tryz.prog.cellsOf 3 = 1 := by kernel_rfl
theorem stps_open {n : Nat} {v : Value} {x : DataW H × List MemPlace} (h : DataW.trod enc Tryz.prog W 0 (fun _ => true) true n 22 [v] = some x) :
    ∃ (l : List Stp) (a : Option Addr) (c : Nat), v = .slice a l.length c ∧ StpsW W a c l ∧ (∀ s ∈ l, StpOk s) ∧ (l.length : Int) ≤ 9223372036854775807 := by
  obtain ⟨l, a, c, e, hc, hm, hl⟩ := slice_open (α := Stp) (k := 3) (fun s b o => StpOk s ∧ StpAt W b o s) Tryz.underlying22 (by kernel_rfl) (fun n a cs x hc h => by
    obtain ⟨b, o, v0, v1, v2, m, y0, y1, y2, rfl, q0, q1, q2, h0, h1, h2⟩ := three_at (t0 := 5) (t1 := 5) (t2 := 5) Tryz.underlying75 ⟨rfl, rfl⟩ ⟨rfl, rfl⟩ ⟨rfl, rfl⟩ c5 c5 c5 hc h
    obtain ⟨z0, rfl, w0⟩ := trod_u8 h0
    obtain ⟨z1, rfl, w1⟩ := trod_u8 h1
    obtain ⟨z2, rfl, w2⟩ := trod_u8 h2
    exact ⟨(z0, z1, z2), b, o, rfl, ⟨w0, w1, w2⟩, ⟨q0, q1, q2⟩⟩) h
  refine ⟨l, a, c, e, ⟨hc, ?_⟩, fun s hs => ?_, hm⟩
  · cases l with
    | nil => exact .inl rfl
    | cons z l =>
      obtain ⟨b, o, rfl, _⟩ := hl 0 z rfl
      refine .inr ⟨b, o, rfl, fun j y hj => ?_⟩
      obtain ⟨b', o', e', _, hc'⟩ := hl j y hj
      cases e'
      exact hc'
  · obtain ⟨j, hj⟩ := List.mem_iff_getElem?.1 hs
    obtain ⟨_, _, _, h1, _⟩ := hl j s hj
    exact h1
theorem u8s_open {n : Nat} {v : Value} {x : DataW H × List MemPlace} (h : DataW.trod enc Tryz.prog W 0 (fun _ => true) true n 23 [v] = some x) :
    ∃ (l : List Nat) (a : Option Addr) (c : Nat), v = .slice a l.length c ∧ U8W W a c l ∧ (∀ z ∈ l, z < 256) ∧ (l.length : Int) ≤ 9223372036854775807 := by
  obtain ⟨l, a, c, e, hc, hm, hl⟩ := slice_open (α := Nat) (k := 1) (fun z b o => z < 256 ∧ W.cell? ⟨b, o, none⟩ = some (.int .u8 (z : Int))) Tryz.underlying23 (by kernel_rfl) (fun n a cs x hc h => by
    obtain ⟨_, hlen, hat⟩ := World.cells?_some hc
    match cs, hlen with
    | [c0], _ =>
      obtain ⟨z, rfl, hz⟩ := trod_u8 h
      have a0 := hat 0 (by omega)
      obtain ⟨b, o, rfl⟩ := addr_plain a0 rfl
      exact ⟨z, b, o, rfl, hz, by simpa [Addr.add] using a0⟩) h
  refine ⟨l, a, c, e, ⟨hc, ?_⟩, fun s hs => ?_, hm⟩
  · cases l with
    | nil => exact .inl rfl
    | cons z l =>
      obtain ⟨b, o, rfl, _⟩ := hl 0 z rfl
      refine .inr ⟨b, o, rfl, fun j y hj => ?_⟩
      obtain ⟨b', o', e', _, hc'⟩ := hl j y hj
      cases e'
      rw [Nat.mul_one] at hc'
      exact hc'
  · obtain ⟨j, hj⟩ := List.mem_iff_getElem?.1 hs
    obtain ⟨_, _, _, h1, _⟩ := hl j s hj
    exact h1
theorem open_u8 {v : Value} {d : DataW H} {ps : List MemPlace} {base : Nat} (hv : Value.okWide Tryz.prog W .any base 5 v) (h : DataW.Trod enc Tryz.prog W 0 (fun _ => true) true 5 v d ps) : ∃ z : Nat, v = .int .u8 (z : Int) ∧ z < 256 := by
  obtain ⟨x, rfl, _, _, wx⟩ := open_int Tryz.underlying5 hv h
  have hw : 0 ≤ x ∧ x < 256 := by
    simp [Lit.wf, IntKind.min, IntKind.max, IntKind.bits, IntKind.signed] at wx
    omega
  exact ⟨x.toNat, by rw [Int.toNat_of_nonneg hw.1], by omega⟩
theorem open_stps {v : Value} {d : DataW H} {ps : List MemPlace} {base : Nat} (hv : Value.okWide Tryz.prog W .any base 22 v) (h : DataW.Trod enc Tryz.prog W 0 (fun _ => true) true 22 v d ps) :
    ∃ (l : List Stp) (a : Option Addr) (c : Nat), v = .slice a l.length c ∧ StpsW W a c l ∧ (∀ s ∈ l, StpOk s) ∧ (l.length : Int) ≤ 9223372036854775807 := by
  obtain ⟨ra, rn, rc, rfl⟩ := okWide_slice Tryz.underlying22 hv
  obtain ⟨fuel, hf⟩ := h
  exact stps_open hf
theorem open_u8s {v : Value} {d : DataW H} {ps : List MemPlace} {base : Nat} (hv : Value.okWide Tryz.prog W .any base 23 v) (h : DataW.Trod enc Tryz.prog W 0 (fun _ => true) true 23 v d ps) :
    ∃ (l : List Nat) (a : Option Addr) (c : Nat), v = .slice a l.length c ∧ U8W W a c l ∧ (∀ z ∈ l, z < 256) ∧ (l.length : Int) ≤ 9223372036854775807 := by
  obtain ⟨ra, rn, rc, rfl⟩ := okWide_slice Tryz.underlying23 hv
  obtain ⟨fuel, hf⟩ := h
  exact u8s_open hf
end
end Go.Proofs.YthdhmflodiincaaGreat

namespace Go.Proofs.YthdhmflodiincaaGreat
open Go.RowKit Go.Maps

def valsL (x : Nat) : List Bool := (List.range 8).map fun i => decide ((x / 2 ^ i) % 2 = 1)
theorem valsL_len (x : Nat) : (valsL x).length = 8 := by simp [valsL]
theorem valsL_snoc (x : Nat) {k : Nat} (hk : k < 8) : (valsL x).take (k + 1) = (valsL x).take k ++ [decide ((x / 2 ^ k) % 2 = 1)] := by
  have h : (valsL x)[k]? = some (decide ((x / 2 ^ k) % 2 = 1)) := by simp [valsL, hk]
  rw [List.take_add_one, h]
  rfl
end Go.Proofs.YthdhmflodiincaaGreat

namespace Go.Proofs.YthdhmflodiincaaGreat
open Go.RowKit Go.Maps

def valE (gs : List Gt) (v : List Bool) (m : List Cl) : List Int := (m.filter fun c => evalC gs v c.2).map (·.1)
theorem valE_snoc {gs : List Gt} {v : List Bool} {m : List Cl} {k : Nat} {x : Cl} (h : m[k]? = some x) : valE gs v (m.take (k + 1)) = if evalC gs v x.2 = true then valE gs v (m.take k) ++ [x.1] else valE gs v (m.take k) := by
  unfold valE
  rw [List.take_add_one, h, Option.toList_some, List.filter_append, List.map_append]
  by_cases e : evalC gs v x.2 = true
  · rw [if_pos e]; simp [e]
  · rw [if_neg e]; simp [e]
theorem results34 (tmps : Array Value) (w : World) (b : Nat) (x y : Value) (ht : tmps.getD 6 undef = .pointer (some ⟨b, 0, none⟩)) (h0 : w.cell? ⟨b, 0, none⟩ = some x) (h1 : w.cell? ⟨b, 1, none⟩ = some y) :
    (results Tryz.f12 tmps).run Tryz.prog w = .ok (.agg #[x, y]) w := by
  have ht' : tmps[6]?.getD undef = .pointer (some ⟨b, 0, none⟩) := by simpa using ht
  simp [results, ht', go_sem, h0, h1, Result.andThen]
theorem mvalue_calls (gs : List Gt) (m : List Cl) (vals : List Bool) (ar : Int) (xa : Option Addr) (xc : Nat) (ma : Option Addr) (mc : Nat) (va : Option Addr) (vc : Nat) (w : World) (h : GatesW w xa xc gs) (hm : CellsW w ma mc m) (hv : BoolsW w va vc vals) (hl : gs.length ≤ 1000) (hl2 : m.length ≤ 1000) (hl3 : vals.length ≤ 1000)
    (hb : ∀ g ∈ gs, g.2.1 ≤ 9223372036854775807 ∧ g.2.2 ≤ 9223372036854775807) (hr : ∀ x ∈ m, x.2 ≤ 9223372036854775807) :
    Calls Tryz.prog 12 #[.agg #[.slice xa gs.length xc], .agg #[.int .i64 ar, .slice ma m.length mc], .slice va vals.length vc] w fun e w' => ∃ b d, e = .returned (.agg #[.int .i64 ar, .slice b (valE gs vals m).length d]) ∧ Ints w' b d (valE gs vals m) ∧ w.grownBy w' none := by
  obtain ⟨ng, hng⟩ : ∃ n, gs.length = n := ⟨_, rfl⟩
  obtain ⟨n, hn⟩ : ∃ n, m.length = n := ⟨_, rfl⟩
  obtain ⟨nv, hnv⟩ : ∃ n, vals.length = n := ⟨_, rfl⟩
  have HE := Lib.hid (fun (U : World) (r : Int) (hU : w.grownBy U none) (hr : r ≤ 9223372036854775807) => eval_calls gs vals r xa xc va vc U (h.grown hU) (hv.grown hU) hl hl3 hb hr)
  rw [hng, hnv] at HE
  have HN := Lib.hid hn
  have HRB := Lib.hid hr
  rw [hn] at hl2 ⊢
  rw [hng, hnv]
  have HM := Lib.hid hm
  clear h hn hm hv hl hl3 hb hng hnv hr
  obtain ⟨i0, hi0, hz0, hz1, hz2⟩ := info_parts info3
  go_enter Tryz.func12, Tryz.ntmps12
  go_upto_region 2 with fail
  have g1 := World.grownBy_alloc w (.cells #[.slice xa ng xc] 27) none
  have c1 := one_cell w (.slice xa ng xc) 27
  obtain ⟨W1, hW1⟩ : ∃ z, w.alloc (.cells #[.slice xa ng xc] 27) = z := ⟨_, rfl⟩
  have s1 : W1.heap.size = w.heap.size + 1 := by rw [← hW1]; simp
  rw [hW1] at g1 c1 ⊢
  have g2 := World.grownBy_alloc W1 (.cells #[.int .i64 ar, .slice ma n mc] 35) none
  have c2 := one_cells W1 (.int .i64 ar) (.slice ma n mc) 35
  obtain ⟨W2, hW2⟩ : ∃ z, W1.alloc (.cells #[.int .i64 ar, .slice ma n mc] 35) = z := ⟨_, rfl⟩
  have s2 : W2.heap.size = W1.heap.size + 1 := by rw [← hW2]; simp
  rw [hW2] at g2 c2 ⊢
  have g3 := World.grownBy_alloc W2 (.cells #[.int .i64 0, .slice none 0 0] 40) none
  have c3 := one_cells W2 (.int .i64 0) (.slice none 0 0) 40
  obtain ⟨W3, hW3⟩ : ∃ z, W2.alloc (.cells #[.int .i64 0, .slice none 0 0] 40) = z := ⟨_, rfl⟩
  have s3 : W3.heap.size = W2.heap.size + 1 := by rw [← hW3]; simp
  rw [hW3] at g3 c3 ⊢
  have g4 := World.grownBy_alloc W3 (.cells #[.int .i64 ar, .slice none 0 0] 40) none
  have c4 := one_cells W3 (.int .i64 ar) (.slice none 0 0) 40
  obtain ⟨W4, hW4⟩ : ∃ z, W3.alloc (.cells #[.int .i64 ar, .slice none 0 0] 40) = z := ⟨_, rfl⟩
  have s4 : W4.heap.size = W3.heap.size + 1 := by rw [← hW4]; simp
  rw [hW4] at g4 c4 ⊢
  obtain ⟨b0, hb0⟩ : ∃ z, w.heap.size = z := ⟨_, rfl⟩
  obtain ⟨b4, hb4⟩ : ∃ z, w.heap.size + 1 = z := ⟨_, rfl⟩
  obtain ⟨br, hbr⟩ : ∃ z, w.heap.size + 1 + 1 = z := ⟨_, rfl⟩
  obtain ⟨bb, hbb⟩ : ∃ z, w.heap.size + 1 + 1 + 1 = z := ⟨_, rfl⟩
  obtain ⟨BZ, hBZ⟩ : ∃ z, W4.heap.size = z := ⟨_, rfl⟩
  rw [s1, hb4] at c2
  rw [s2, s1, hbr] at c3
  rw [s3, s2, s1, hbb] at c4
  rw [hb0] at c1
  rw [hbb, hbr, hb4, hb0]
  have g14 := World.grownBy.trans g1 (World.grownBy.trans g2 (World.grownBy.trans g3 g4))
  have HW := Lib.hid (show w.heap.size = b0 ∧ b0 < b4 ∧ b4 < br ∧ br < bb ∧ bb < BZ ∧ W4.heap.size = BZ ∧ w.grownBy W4 none from ⟨by omega, by omega, by omega, by omega, by omega, by omega, g14⟩)
  have HR := Lib.hid (show Rc W4 br 0 (.int .i64 0) ∧ Rc W4 br 1 (.slice none 0 0) from ⟨⟨g4.cell c3.2.1 (by simp), (grown_frozen g4 (lies_lt c3.2.1) 0).trans c3.2.2.2.1⟩, ⟨g4.cell c3.2.2.1 (by simp), (grown_frozen g4 (lies_lt c3.2.1) 1).trans c3.2.2.2.2⟩⟩)
  have HB := Lib.hid (show Rc W4 bb 0 (.int .i64 ar) ∧ Rc W4 bb 1 (.slice none 0 0) from ⟨⟨c4.2.1, c4.2.2.2.1⟩, ⟨c4.2.2.1, c4.2.2.2.2⟩⟩)
  have HX := Lib.hid (show W4.cell? ⟨b0, 0, none⟩ = some (.slice xa ng xc) from (World.grownBy.trans g2 (World.grownBy.trans g3 g4)).cell c1.2.1 (by simp))
  have y1 := (World.grownBy.trans g3 g4).cell c2.2.2.1 (by simp)
  clear hb0 hb4 hbr hbb hBZ s1 s2 s3 s4 g1 g2 g3 g4 c1 c2 c3 c4 hW1 hW2 hW3 hW4 g14
  go_wp2_with fail
  clear y1
  go_loopg [16] n (fun gk s16 wr => ∃ (k nk : Nat) (ya : Option Addr) (yc : Nat), s16 = .int .i64 (k : Int) ∧ gk = n - k ∧ k ≤ n ∧ Rc wr bb 0 (.int .i64 ar) ∧ Rc wr bb 1 (.slice ya nk yc) ∧ wr.ownsRow BZ 3 1 (.slice ya nk yc) nk (intCells (valE gs vals (m.take k))) ∧ Off (fun k => k = bb) W4 wr ∧ (valE gs vals (m.take k)).length = nk ∧ nk ≤ k)
  case atStart => exact ⟨0, 0, _, _, rfl, rfl, Nat.zero_le _, HB.out.1, HB.out.2, World.ownsRow_nil _ _ _ _, ⟨rfl, rfl, rfl, Nat.le_refl _, fun _ _ _ => rfl⟩, rfl, Nat.le_refl _⟩
  case round =>
    obtain ⟨k, nk, ya, yc, rfl, hgk, hk, hb0, hb1, hown, hof, hnk, hkk⟩ := hrel
    have HI := Lib.hid (And.intro hgk (And.intro hb0 (And.intro hb1 (And.intro hnk hkk)))); clear hgk hb0 hb1 hnk hkk
    have HO := Lib.hid hown; clear hown
    have HOF := Lib.hid hof; clear hof
    have HG := Lib.hid (HOF.out.grown HW.out.2.2.2.2.2.2 (fun q e => by have e' : q = bb := e; have := HW.out; omega))
    have HSZ := Lib.hid (show BZ ≤ wr.heap.size from by have h1 := HOF.out.size; have h2 := HW.out; omega)
    by_cases hkn : k < n
    · have f1 : decide (k < n) = true := decide_eq_true hkn
      have f2 : decide ((k : Int) < (n : Int)) = true := decide_eq_true (by omega)
      have hk1 : IntKind.i64.wrap ((k : Int) + 1) = ((k + 1 : Nat) : Int) := by rw [IntWalk.i64_in _ (by omega)]; omega
      have hj0 : (0 : Int) ≤ (k : Int) := by omega
      have hj1 : (k : Int) < (n : Int) := by omega
      obtain ⟨x, hx⟩ : ∃ r, m[k]? = some r := ⟨_, List.getElem?_eq_getElem (by rw [HN.out]; exact hkn)⟩
      obtain ⟨ba, oa, rfl, x0, x1⟩ := (HM.out.grown HG.out).at hx
      have HSN := Lib.hid (valE_snoc (gs := gs) (v := vals) hx)
      have HXB := Lib.hid (HRB.out x (List.mem_of_getElem? hx))
      obtain ⟨Lk, hLk⟩ : ∃ L, valE gs vals (m.take k) = L := ⟨_, rfl⟩
      rw [hLk] at HO HSN HI
      clear hx hLk
      go_upto_region 5 with fail
      have g5 := World.grownBy_alloc wr (.cells #[.int .i64 x.1, .int .i64 x.2] 70) none
      have hc5 := one_cells wr (.int .i64 x.1) (.int .i64 x.2) 70
      obtain ⟨U, hU⟩ : ∃ z, wr.alloc (.cells #[.int .i64 x.1, .int .i64 x.2] 70) = z := ⟨_, rfl⟩
      rw [hU] at g5 hc5 ⊢
      obtain ⟨bx, hbx⟩ : ∃ z, wr.heap.size = z := ⟨_, rfl⟩
      rw [hbx] at hc5 ⊢
      have z1 := hc5.2.2.1
      have z0 := g5.cell (HOF.out.cell HX.out (fun e => by have e' : b0 = bb := e; have := HW.out; omega)) (by simp)
      have HC5 := Lib.hid (And.intro hc5.2.1 g5)
      clear hU hbx g5 hc5 x0 x1
      go_wp2_with fail
      refine (HE.out U x.2 (World.grownBy.trans HG.out HC5.out.2) HXB.out).mono ?_
      rintro e V ⟨rfl, hgV⟩
      have HGV := Lib.hid (World.grownBy.trans HC5.out.2 hgV)
      have d0 := hgV.cell HC5.out.1 (by simp)
      have r0 := HI.out.2.1.step (Off.of HGV.out (M := fun _ => False) (fun k e => by cases e)) (fun e => e)
      have r1 := HI.out.2.2.1.step (Off.of HGV.out (M := fun _ => False) (fun k e => by cases e)) (fun e => e)
      have HR1 := Lib.hid (And.intro r0 r1)
      have d1 := r1.1
      have HOV := Lib.hid (own_grown HO.out HGV.out)
      have HOFV := Lib.hid (show Off (fun k => k = bb) W4 V from HOF.out.trans (Off.of HGV.out (M := fun _ => False) (fun k e => by cases e)) (fun q _ e => e.elim))
      have HSV := Lib.hid (Nat.le_trans HSZ.out HGV.out.size)
      have hnB : ¬ BZ ≤ bb := by have := HW.out; omega
      clear hgV z0 z1 r0 r1
      cases hev : evalC gs vals x.2 with
      | false =>
        rw [hev] at HSN
        go_wp2_with fail
        go_roundg (n - (k + 1))
        case measure => rw [HI.out.1]; omega
        case rel => exact ⟨k + 1, nk, ya, yc, rfl, rfl, by omega, HR1.out.1, HR1.out.2, (by rw [HSN.out]; exact HOV.out), HOFV.out, (by rw [HSN.out]; exact HI.out.2.2.2.1), Nat.le_succ_of_le HI.out.2.2.2.2⟩
      | true =>
        rw [hev] at HSN
        have hkk := HI.out.2.2.2.2
        go_wp2_with (at_builtin; refine wpList_append_own_at _ rfl _ _ 28 rfl BZ 3 i0 (.int .i64 0) 1 8 Tryz.underlying28 hi0 hz0 hz1 hz2 rfl (by decide) _ nk (intCells Lk) rfl (HOV.out.alloc _) ⟨V.heap.size, 0, none⟩ 1 1 [.int .i64 x.1] rfl rfl (cell_one_new _ _ _) (fun u hu => by simp at hu; subst hu; rfl) (by unfold maxLen; omega) (by omega) (by have := HSV.out; simp; omega) ?_)
        intro v' w6 hown' hgrow6 _ hat6
        obtain ⟨rgA, rcA, rfl⟩ := own_shape hown'
        have hga := World.grownBy_alloc V (.cells #[.int .i64 x.1] 3) none
        have ho6 : Off (fun k => BZ ≤ k) V w6 := (Off.of hga (fun k e => by cases e)).trans (Off.of hgrow6 (M := fun k => BZ ≤ k) (fun k e => (HOV.out.lt k e).1)) (fun _ _ e => e)
        have r0 := HR1.out.1.step ho6 hnB
        have r1 := HR1.out.2.step ho6 hnB
        have hown7 : (w6.setCell ⟨bb, 1, none⟩ (.slice rgA (nk + 1) rcA)).ownsRow BZ 3 1 (.slice rgA (nk + 1) rcA) (nk + 1) (intCells (valE gs vals (m.take (k + 1)))) := by
          rw [HSN.out, if_pos trivial, intCells, List.map_append]
          refine hown'.kept (grown_set w6 bb 1 _) ?_
          cases hob : (Value.slice rgA (nk + 1) rcA).ownBlock with
          | none => exact .inl rfl
          | some b => exact .inr (fun e => by injection e with e; subst e; exact hnB (hown'.lt b hob).1)
        have HN7 := Lib.hid (And.intro (r0.other (o' := 1) (by decide) (.slice rgA (nk + 1) rcA)) (And.intro (r1.set (.slice rgA (nk + 1) rcA)) (And.intro hown7 (show Off (fun k => k = bb) W4 (w6.setCell ⟨bb, 1, none⟩ (.slice rgA (nk + 1) rcA)) from (HOFV.out.trans ho6 (fun q hq e => by have h1 := HW.out; omega)).trans (off_set w6 bb 1 _) (fun q hq e => e)))))
        have e1 := r1.1
        have e2 := r1.2
        clear hown' hgrow6 hat6 hga ho6 r0 r1 hown7 d0 d1
        go_wp2_with fail
        go_roundg (n - (k + 1))
        case measure => rw [HI.out.1]; omega
        case rel => exact ⟨k + 1, nk + 1, rgA, rcA, rfl, rfl, by omega, HN7.out.1, HN7.out.2.1, HN7.out.2.2.1, HN7.out.2.2.2, (by rw [HSN.out, if_pos trivial, List.length_append, HI.out.2.2.2.1]; rfl), Nat.succ_le_succ hkk⟩
    · have f1 : decide (k < n) = false := decide_eq_false hkn
      have f2 : decide ((k : Int) < (n : Int)) = false := decide_eq_false (by omega)
      have hkn2 : k = n := by omega
      have d0 := HI.out.2.1.1
      have d1 := HI.out.2.2.1.1
      have hne : ¬ br = bb := by have := HW.out; omega
      have q0 := HR.out.1.step HOF.out hne
      have q1 := HR.out.2.step HOF.out hne
      have HQ := Lib.hid (And.intro q0 q1)
      have e0 := q0.1
      have e1 := q0.2
      have e2 := q1.1
      have e3 := q1.2
      have hall : valE gs vals (m.take k) = valE gs vals m := by rw [List.take_of_length_le (by rw [HN.out]; omega)]
      have HLN := Lib.hid (show (valE gs vals m).length = nk from by rw [← hall]; exact HI.out.2.2.2.1)
      have HROW := Lib.hid (show Span BZ wr.heap.size wr (fun W => Ints W ya yc (valE gs vals m)) from by
        have h := HO.out
        rw [hall, ← HLN.out] at h
        obtain ⟨a9, c9, e9, hs9⟩ := ints_span h
        cases e9
        exact hs9)
      clear hkn hne q0 q1 hall
      go_wp2_with fail
      have hof := off_set2 wr br (.int .i64 ar) (.slice ya nk yc)
      refine bodyPost_ret (results34 _ _ br (.int .i64 ar) (.slice ya nk yc) rfl ((HQ.out.1.set (.int .i64 ar)).other (o' := 1) (by decide) (.slice ya nk yc)).1 ((HQ.out.2.other (o' := 0) (by decide) (.int .i64 ar)).set (.slice ya nk yc)).1) rfl ⟨ya, yc, by rw [HLN.out], (HROW.out.away hof (fun q e => by have e' : q = br := e; have := HW.out; omega)).here, hof.grown HG.out (fun q e => by have e' : q = br := e; have := HW.out; omega)⟩
end Go.Proofs.YthdhmflodiincaaGreat

namespace Go.Proofs.YthdhmflodiincaaGreat
set_option maxRecDepth 100000
open Go.RowKit Go.Maps

def wfK (k : Int) : Prop := (Lit.int .i64 k).wf = true
theorem keyed3 : Keyed Tryz.prog 3 := int_keyed Tryz.underlying3
def MapT (w : World) (b n : Nat) (T : Int → Bool) (t : Int → Int) : Prop :=
  ∃ D : DataW Unit, w.ownsMap Tryz.prog 3 (plainElem Tryz.prog 3) b n D ∧ ∀ k : Int, wfK k → Maps.has D (.int .i64 k) = T k ∧ (T k = true → ∀ z, D.atKey (.int .i64 k) z = .lit (.int .i64 (t k)))
theorem MapT.made (w : World) (t : Int → Int) : MapT (w.alloc (.map #[] 0)) w.heap.size 0 (fun _ => false) t :=
  ⟨.map [], World.ownsMap_made w _ _ _, fun k _ => ⟨by simp [Maps.has], fun h => by cases h⟩⟩
theorem MapT.kept {w w' : World} {b n : Nat} {T : Int → Bool} {t : Int → Int} {r : Option Nat} (h : MapT w b n T t) (hg : w.grownBy w' r) (hr : some b ≠ r) : MapT w' b n T t := by
  obtain ⟨D, hD, hk⟩ := h
  exact ⟨D, hD.kept hg hr, hk⟩
theorem MapT.lt {w : World} {b n : Nat} {T : Int → Bool} {t : Int → Int} (h : MapT w b n T t) : b < w.heap.size := by
  obtain ⟨D, ⟨es, clock, hb, _⟩, _⟩ := h
  exact (Array.getElem?_eq_some_iff.1 hb).1
theorem MapT.not_cells {w : World} {b n : Nat} {T : Int → Bool} {t : Int → Int} (h : MapT w b n T t) {o : Nat} {v : Value} : w.cell? ⟨b, o, none⟩ ≠ some v := fun hv => by
  obtain ⟨D, ⟨es, clock, hb, _⟩, _⟩ := h
  unfold World.cell? at hv
  rw [hb] at hv
  cases hv
theorem MapT.look {w : World} {b n : Nat} {T : Int → Bool} {t : Int → Int} (h : MapT w b n T t) {k : Int} (hk : wfK k) : ∃ c : Int, (Instr.lookup 79 (.map (some b)) (.int .i64 k) true).run Tryz.prog w = .ok (.tuple #[.int .i64 c, .bool (T k)]) w ∧ (T k = true → c = t k) := by
  obtain ⟨D, hD, ha⟩ := h
  obtain ⟨v, ps, hr, hv⟩ := hD.look_ok keyed3 Tryz.underlying79 (zero3 w) (plainElem_int Tryz.underlying3 (by decide)) (keyOf_int_mk Tryz.underlying3 hk)
  obtain ⟨c, rfl, hc, _⟩ := plainElem_int_inv Tryz.underlying3 hv
  refine ⟨c, by rw [hr, (ha k hk).1], fun hT => ?_⟩
  have h1 := (ha k hk).2 hT (.lit (.int .i64 0))
  have h2 := congrArg Prod.fst hc
  simp only at h2
  rw [h1] at h2
  injection h2 with h2
  injection h2 with _ h2
  exact h2.symm
theorem MapT.store {w : World} {b n : Nat} {T : Int → Bool} {t : Int → Int} (h : MapT w b n T t) (hl : n ≤ 1000000) {k v : Int} (hk : wfK k) (hv : wfK v) :
    ∃ w', (Instr.mapUpdate 79 (.map (some b)) (.int .i64 k) (.int .i64 v)).run Tryz.prog w = .ok () w' ∧ MapT w' b (n + 1) (fun j => j == k || T j) (fun j => if j = k then v else t j) ∧ w.grownBy w' (some b) := by
  obtain ⟨D, hD, ha⟩ := h
  have hkl := keyOf_int_mk Tryz.underlying3 hk
  obtain ⟨w', hr, ho, ht⟩ := hD.store keyed3 Tryz.underlying79 (by unfold maxLen; omega) hkl (plainElem_int Tryz.underlying3 hv)
  refine ⟨w', hr, ⟨_, ho, fun j hj => ?_⟩, ht.grown⟩
  by_cases e : j = k
  · subst e
    refine ⟨by rw [Maps.has_put_same hD.isMap (keyed3.key hkl)]; simp, fun _ z => ?_⟩
    rw [Maps.atKey_put_same hD.isMap (keyed3.key hkl)]
    show _ = DataW.lit (.int .i64 (if j = j then v else t j))
    rw [if_pos rfl]
  · have hne : (Lit.int .i64 j) ≠ (Lit.int .i64 k) := fun hh => e (by injection hh)
    have h1 := ha j hj
    refine ⟨by rw [Maps.has_put_other hne, h1.1]; simp [e], fun hT z => ?_⟩
    have hT' : T j = true := by simpa [e] using hT
    rw [Maps.atKey_put_other hne]
    show _ = DataW.lit (.int .i64 (if j = k then v else t j))
    rw [if_neg e]
    exact h1.2 hT' z
structure JSt (W0 : World) (p q s b : Nat) (g : List Gt) (n : Nat) (T : Int → Bool) (t : Int → Int) (W : World) : Prop where
  gx : ∃ hi, GX p (OwnC p W) W g hi
  s0 : W.cell? ⟨s, 0, none⟩ = some (.pointer (some ⟨q, 0, none⟩))
  q0 : W.cell? ⟨q, 0, none⟩ = some (.pointer (some ⟨p, 0, none⟩))
  mp : MapT W b n T t
  grown : W0.grownBy W none
  low : W0.heap.size ≤ p ∧ p < b
  nb : ¬ OwnC p W b
  nq : ¬ OwnC p W q ∧ ¬ OwnC p W s
def SafeJ (p b : Nat) (W : World) (k : Nat) : Prop := k < W.heap.size ∧ ¬ OwnC p W k ∧ k ≠ b
theorem Saved.cellJ {p b : Nat} {A B : World} (h : Saved (SafeJ p b) A B) {a : Addr} {v : Value} (hs : SafeJ p b A a.block) (hc : A.cell? a = some v) : B.cell? a = some v := (World.cell?_of_block (h _ hs).1).trans hc
theorem JSt.safe_s {W0 W : World} {p q s b : Nat} {g : List Gt} {n : Nat} {T : Int → Bool} {t : Int → Int} (h : JSt W0 p q s b g n T t W) : SafeJ p b W s := ⟨lies_lt h.s0, h.nq.2, fun e => by subst e; exact h.mp.not_cells h.s0⟩
theorem JSt.safe_q {W0 W : World} {p q s b : Nat} {g : List Gt} {n : Nat} {T : Int → Bool} {t : Int → Int} (h : JSt W0 p q s b g n T t W) : SafeJ p b W q := ⟨lies_lt h.q0, h.nq.1, fun e => by subst e; exact h.mp.not_cells h.q0⟩
theorem JSt.step {W0 W W' : World} {p q s b : Nat} {g g' : List Gt} {n : Nat} {T : Int → Bool} {t : Int → Int} (h : JSt W0 p q s b g n T t W) {hi : Int} (hx : GX p (fun k => OwnC p W k ∨ W.heap.size ≤ k) W' g' hi) (ho : Off (OwnC p W) W W') : JSt W0 p q s b g' n T t W' ∧ Saved (SafeJ p b) W W' := by
  have hoc : ∀ k, OwnC p W' k → OwnC p W k ∨ W.heap.size ≤ k := fun k hk => hx.own_in hk
  have hq : q < W.heap.size := lies_lt h.q0
  have hs : s < W.heap.size := lies_lt h.s0
  have hb := h.mp.lt
  obtain ⟨hi0, hg0⟩ := h.gx
  have hmp : MapT W' b n T t := by
    obtain ⟨D, hD, hk⟩ := h.mp
    obtain ⟨es, clock, hbb, hrest⟩ := hD
    exact ⟨D, ⟨es, clock, (ho.block b hb h.nb).trans hbb, hrest⟩, hk⟩
  refine ⟨⟨⟨hi, hx.own⟩, ho.cell h.s0 h.nq.2, ho.cell h.q0 h.nq.1, hmp, ?_, h.low, fun e => ?_, fun e => ?_, fun e => ?_⟩, fun k hk => ⟨ho.at_ hk.1 hk.2.1, Nat.lt_of_lt_of_le hk.1 ho.size, fun e => ?_, hk.2.2⟩⟩
  · exact ho.grown h.grown (fun k hk => Nat.le_trans h.low.1 (hg0.own_lt hk).1)
  · rcases hoc b e with h1 | h1
    · exact h.nb h1
    · omega
  · rcases hoc q e with h1 | h1
    · exact h.nq.1 h1
    · omega
  · rcases hoc s e with h1 | h1
    · exact h.nq.2 h1
    · omega
  · rcases hoc k e with h1 | h1
    · exact hk.2.1 h1
    · have := hk.1; omega
theorem JSt.put {W0 W W' : World} {p q s b : Nat} {g : List Gt} {n n' : Nat} {T T' : Int → Bool} {t t' : Int → Int} (h : JSt W0 p q s b g n T t W) (hm : MapT W' b n' T' t') (hg : W.grownBy W' (some b)) : JSt W0 p q s b g n' T' t' W' ∧ Saved (SafeJ p b) W W' := by
  obtain ⟨hi, hx⟩ := h.gx
  have ho : Off (fun k => k = b) W W' := Off.of hg (fun k e => by cases e; rfl)
  have hgx : GX p (OwnC p W) W' g hi := hx.far hg (fun k e => by cases e; exact ⟨Nat.le_of_lt h.low.2, h.nb⟩)
  have hoc : ∀ k, OwnC p W' k → OwnC p W k := fun k hk => hgx.own_in hk
  have hs := h.safe_s
  have hq := h.safe_q
  exact ⟨⟨⟨hi, hgx.own⟩, ho.cell h.s0 hs.2.2, ho.cell h.q0 hq.2.2, hm, ho.grown h.grown (fun k e => by have e' : k = b := e; have := h.low; omega), h.low, fun e => h.nb (hoc b e), fun e => h.nq.1 (hoc q e), fun e => h.nq.2 (hoc s e)⟩, fun k hk => ⟨ho.at_ hk.1 hk.2.2, Nat.lt_of_lt_of_le hk.1 ho.size, fun e => hk.2.1 (hoc k e), hk.2.2⟩⟩
theorem JSt.laid {W0 W W' : World} {p q s b : Nat} {g : List Gt} {n : Nat} {T : Int → Bool} {t : Int → Int} (h : JSt W0 p q s b g n T t W) (hg : W.grownBy W' none) : JSt W0 p q s b g n T t W' ∧ Saved (SafeJ p b) W W' ∧ ∀ k, W.heap.size ≤ k → k < W'.heap.size → SafeJ p b W' k := by
  obtain ⟨hi, hx⟩ := h.gx
  have hgx := hx.grown hg
  have hoc : ∀ k, OwnC p W' k → OwnC p W k := fun k hk => hgx.own_in hk
  have hb := h.mp.lt
  refine ⟨⟨⟨hi, hgx.own⟩, hg.cell h.s0 (by simp), hg.cell h.q0 (by simp), h.mp.kept hg (by simp), World.grownBy.trans h.grown hg, h.low, fun e => h.nb (hoc b e), fun e => h.nq.1 (hoc q e), fun e => h.nq.2 (hoc s e)⟩, fun k hk => ⟨hg.block k hk.1 (by simp), Nat.lt_of_lt_of_le hk.1 hg.size, fun e => hk.2.1 (hoc k e), hk.2.2⟩, fun k h1 h2 => ⟨h2, fun e => ?_, fun e => by omega⟩⟩
  have := (hx.own_lt (hoc k e)).2
  omega
end Go.Proofs.YthdhmflodiincaaGreat

namespace Go.Proofs.YthdhmflodiincaaGreat

def ofTabL (t : Int → Int) (L : List Int) : List Cl := (L.filter fun k => t k != 1).map fun k => (k, t k)
theorem run_ofTab_from (t : Int → Int) (g : List Gt) : ∀ (L : List Int) (s : List Cl), (foldP (fun m k => (Pr.ret (t k)).bind fun r => .ret (keptM m k r)) L s).run g = (g, s ++ ofTabL t L)
  | [], s => by simp [ofTabL, run_foldP_nil]
  | k :: L, s => by
    rw [run_foldP_cons]
    show (foldP _ L (keptM s k (t k))).run g = _
    rw [run_ofTab_from t g L]
    unfold keptM ofTabL
    by_cases h : t k = 1
    · rw [if_pos h, List.filter_cons_of_neg (by simp [h])]
    · rw [if_neg h, List.filter_cons_of_pos (by simp [h]), List.map_cons, List.append_assoc]
      rfl
theorem run_ofTab (t : Int → Int) (L : List Int) (g : List Gt) : (ofTab t L).run g = (g, ofTabL t L) := by
  have h := run_ofTab_from t g L []
  rw [List.nil_append] at h
  exact h
theorem tab_ext {m : List Cl} {t : Int → Int} {L : List Int} (hm : UpM m) (hL : L.Pairwise (· < ·)) (h : ∀ k r, (k, r) ∈ m ↔ r = t k ∧ r ≠ 1) (hr : ∀ k, t k ≠ 1 → k ∈ L) : m = ofTabL t L := by
  have h1 : m.map (·.1) = L.filter fun k => t k != 1 := by
    refine sorted_ext hm (hL.sublist List.filter_sublist) (fun k => ?_)
    rw [List.mem_map, List.mem_filter]
    constructor
    · rintro ⟨⟨k', r⟩, hc, rfl⟩
      obtain ⟨e1, e2⟩ := (h k' r).1 hc
      have e3 : t k' ≠ 1 := by rw [← e1]; exact e2
      exact ⟨hr _ e3, by simpa using e3⟩
    · rintro ⟨_, h2⟩
      have h3 : t k ≠ 1 := by simpa using h2
      exact ⟨(k, t k), (h k (t k)).2 ⟨rfl, h3⟩, rfl⟩
  unfold ofTabL
  rw [← h1, List.map_map]
  conv => lhs; rw [← List.map_id m]
  refine List.map_congr_left fun c hc => ?_
  obtain ⟨k, r⟩ := c
  have h2 := ((h k r).1 hc).1
  show (k, r) = (k, t k)
  rw [h2]
def jRow (n rest : Int) (x : Cl) (b : List Cl) : List (Cl × Cl) := (b.map fun y => (x, y)).filter fun p => p.1.1 % n == p.2.1 / rest
theorem jPairs_cons (n rest : Int) (x : Cl) (a b : List Cl) : jPairs n rest (x :: a) b = jRow n rest x b ++ jPairs n rest a b := by
  unfold jPairs allPairs jRow
  rw [List.flatMap_cons, List.filter_append]
theorem jRow_yes {n rest : Int} {x y : Cl} {b : List Cl} (h : x.1 % n = y.1 / rest) : jRow n rest x (y :: b) = (x, y) :: jRow n rest x b := by
  unfold jRow
  rw [List.map_cons, List.filter_cons_of_pos (by simp [h])]
theorem jRow_no {n rest : Int} {x y : Cl} {b : List Cl} (h : ¬ x.1 % n = y.1 / rest) : jRow n rest x (y :: b) = jRow n rest x b := by
  unfold jRow
  rw [List.map_cons, List.filter_cons_of_neg (by simp [h])]
theorem jPairs_nil (n rest : Int) (b : List Cl) : jPairs n rest [] b = [] := rfl
theorem jRow_nil (n rest : Int) (x : Cl) : jRow n rest x [] = [] := rfl
theorem run_jF (n rest : Int) (s : Int → Int) (p : Cl × Cl) (g : List Gt) : (jF n rest s p).run g = ((orC (andC g p.1.2 p.2.2).1 (s (jr n rest p)) (andC g p.1.2 p.2.2).2).1, fun k => if k = jr n rest p then (orC (andC g p.1.2 p.2.2).1 (s (jr n rest p)) (andC g p.1.2 p.2.2).2).2 else s k) := by
  unfold jF
  rw [Pr.run_bind, run_andP, Pr.run_bind, run_orP]
  rfl
theorem jF_only {n rest : Int} : ∀ (l : List (Cl × Cl)) (s : Int → Int) (g : List Gt) (k : Int), ((foldP (jF n rest) l s).run g).2 k ≠ s k → ∃ p ∈ l, jr n rest p = k
  | [], s, g, k, h => absurd rfl h
  | p :: l, s, g, k, h => by
    rw [run_foldP_cons, run_jF] at h
    by_cases hk : k = jr n rest p
    · exact ⟨p, by simp, hk.symm⟩
    · have h2 := jF_only l _ _ k (by
        intro e
        apply h
        rw [e]
        show (if k = jr n rest p then _ else s k) = s k
        rw [if_neg hk])
      obtain ⟨q, hq, e⟩ := h2
      exact ⟨q, List.mem_cons_of_mem _ hq, e⟩
theorem run_mjoin {n rest : Int} {total : Nat} {a b : List Cl} {gs g : List Gt} {t : Int → Int} (h : (foldP (jF n rest) (jPairs n rest a b) fun _ => 1).run gs = (g, t)) : (mjoinP n rest total a b).run gs = (g, ofTabL t (ranksTo total)) := by
  unfold mjoinP
  rw [Pr.run_bind, h, run_ofTab]
theorem table_in {n rest : Int} {total : Nat} {a b : List Cl} {gs g : List Gt} {t : Int → Int} (h : (foldP (jF n rest) (jPairs n rest a b) fun _ => 1).run gs = (g, t)) (hj : ∀ p ∈ jPairs n rest a b, 0 ≤ jr n rest p ∧ jr n rest p < (total : Int)) (k : Int) (hk : t k ≠ 1) : k ∈ ranksTo total := by
  obtain ⟨p, hp, rfl⟩ := jF_only (jPairs n rest a b) (fun _ => 1) gs k (by rw [h]; exact hk)
  exact mem_ranksTo.2 (hj p hp)
end Go.Proofs.YthdhmflodiincaaGreat
