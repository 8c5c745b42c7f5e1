/- Texts of the proof: E3 U0 U1 U2. -/
import Derived.Test.YthkjjiijjedipaaDoorCA05
import Derived.Test.YthkjjiijjedipaaDoorCA08
import Derived.Test.YthkjjiijjedipaaDoorCA17
import Derived.Test.YthkjjiijjedipaaDoorCA13
import Derived.Test.YthkjjiijjedipaaDoorCA01
import Derived.Test.YthkjjiijjedipaaDoorCA03
import Derived.Test.YthkjjiijjedipaaDoorCA10
namespace Go.Proofs.YthkjjiijjedipaaDoor
open Go.RowKit

theorem lit_eq {kn : List Bool} {r : Int} {z : Bool} (h0 : 0 ≤ r) (hz : kn[(r / 2).toNat]? = some z) : litV kn r = (z == (r % 2 == 0)) := by
  unfold litV
  rw [decide_eq_true h0, hz]
  have : r % 2 = 0 ∨ r % 2 = 1 := by omega
  rcases this with h | h <;> cases z <;> simp [h]
set_option maxRecDepth 100000 in
set_option maxHeartbeats 4000000 in
theorem reval_calls (gs : List Gt) (vals : List Bool) (r : Int) (a : Option Addr) (c : Nat) (va : Option Addr) (vc : Nat) (w : World) (h : GatesW w a c gs) (hG : Good gs) (hv : BoolsW w va vc vals) (hl : gs.length ≤ 1000) (_hl2 : vals.length ≤ 1000) (hr : r ≤ 9223372036854775807) :
    Calls Tryd.prog 16 #[.agg #[.slice a gs.length c], .slice va vals.length vc, .int .i64 r] w fun e w' => e = .returned (.bool (evalC gs vals r)) ∧ w.grownBy w' none := by
  obtain ⟨n, hn⟩ : ∃ n, gs.length = n := ⟨_, rfl⟩
  obtain ⟨nv, hnv⟩ : ∃ n, vals.length = n := ⟨_, rfl⟩
  have hg1 := World.grownBy_alloc w (.cells #[.slice a n c] 27) none
  have e1 := one_cell w (.slice a n c) 27
  obtain ⟨W1, hW1⟩ : ∃ W, w.alloc (.cells #[.slice a n c] 27) = W := ⟨_, rfl⟩
  rw [hW1] at hg1 e1
  have q1 := e1.2.1
  have HQ := Lib.hid q1
  have HG := Lib.hid hg1
  have HA := Lib.hid (h.grown hg1)
  have HV := Lib.hid (hv.grown hg1)
  have HN := Lib.hid (And.intro hn hnv)
  have HGD := Lib.hid hG
  have hw2 : IntKind.i64.wrap (2 * (n : Int)) = 2 * (n : Int) := IntWalk.i64_in _ (by omega)
  rw [hn] at hl ⊢
  rw [hnv] at _hl2 ⊢
  clear h hv hg1 e1 hn hnv hG
  by_cases h0 : r < 0
  · have f0 : decide (r < 0) = true := decide_eq_true h0
    have HE := Lib.hid (show evalC gs vals r = false by unfold evalC; rw [decide_eq_false (by omega)]; rfl)
    clear h0
    go_enter Tryd.func16, Tryd.ntmps16
    go_wp2_with fail
    go_ret
    exact ⟨by rw [HE.out]; rfl, HG.out⟩
  · have f0 : decide (r < 0) = false := decide_eq_false h0
    by_cases h1 : 2 * (n : Int) ≤ r
    · have f1 : decide (2 * (n : Int) ≤ r) = true := decide_eq_true h1
      have HE := Lib.hid (show evalC gs vals r = false by unfold evalC; rw [HN.out.1, decide_eq_false (by omega)]; rfl)
      clear h0 h1
      go_enter Tryd.func16, Tryd.ntmps16
      go_wp2_with fail
      go_ret
      exact ⟨by rw [HE.out]; rfl, HG.out⟩
    · have f1 : decide (2 * (n : Int) ≤ r) = false := decide_eq_false h1
      obtain ⟨q, hqq⟩ : ∃ q : Nat, r / 2 = (q : Int) := ⟨(r / 2).toNat, by omega⟩
      have hq : Int.tdiv r 2 = (q : Int) := by rw [Int.tdiv_eq_ediv_of_nonneg (by omega), hqq]
      have hqn : q < n := by omega
      have hwq : IntKind.i64.wrap (q : Int) = (q : Int) := IntWalk.i64_in _ (by omega)
      have hm : Int.tmod r 2 = r % 2 := Int.tmod_eq_emod_of_nonneg (by omega)
      have hwm : IntKind.i64.wrap (r % 2) = r % 2 := IntWalk.i64_in _ (by omega)
      obtain ⟨q0, hq0⟩ : ∃ b, (r % 2 == 0) = b := ⟨_, rfl⟩
      have HR := Lib.hid (show evalC gs vals r = litV (knownV vals (gs.take (q + 1))) r ∧ (r / 2).toNat = q ∧ 0 ≤ r from ⟨by unfold evalC; rw [HN.out.1, decide_eq_true (by omega), hqq, Int.toNat_natCast]; rfl, by rw [hqq]; rfl, by omega⟩)
      have HQ0 := Lib.hid (show (r % 2 == 0) = q0 from hq0)
      have HX := Lib.hid (And.intro hq (And.intro hwq (And.intro hm (And.intro hwm hq0))))
      clear h0 h1 hqq hm hwm hq0
      obtain ⟨i0, hi0, hz0, hz1, hz2⟩ := info_parts info4
      go_enter Tryd.func16, Tryd.ntmps16
      go_wp2_with fail
      clear hW1 q1 f0 f1 hw2 hq hwq
      go_loopg [7, 8] (q + 1) (fun g s7 s8 wr => ∃ (k : Nat) (ka : Option Addr) (kc : Nat), s7 = .slice ka k kc ∧ s8 = .int .i64 (k : Int) ∧ g = q + 1 - k ∧ k ≤ q + 1 ∧ wr.ownsRow W1.heap.size 4 1 (.slice ka k kc) k (boolCells (knownV vals (gs.take k))) ∧ W1.grownBy wr none)
      case atStart => exact ⟨0, none, 0, rfl, rfl, rfl, Nat.zero_le _, World.ownsRow_nil _ _ _ _, grown_refl _ _⟩
      case round =>
        obtain ⟨k, ka, kc, rfl, rfl, hgk, hk, hown, hgr⟩ := hrel
        have HI := Lib.hid hgk; clear hgk
        have HOW := Lib.hid hown; clear hown
        have HGR := Lib.hid hgr; clear hgr
        obtain ⟨wo, hwo⟩ : ∃ z, z = wr := ⟨_, rfl⟩
        rw [← hwo] at HOW HGR ⊢
        clear hwo
        have hkl : (knownV vals (gs.take k)).length = k := by rw [known_len, List.length_take, HN.out.1]; omega
        obtain ⟨kn, hkn⟩ : ∃ kn, knownV vals (gs.take k) = kn := ⟨_, rfl⟩
        rw [hkn] at HOW hkl
        have HKN := Lib.hid (And.intro hkn hkl)
        have HKB := Lib.hid (show BoolsW wo ka kc kn from by
          have h1 := HOW.out
          rw [← hkl] at h1
          obtain ⟨a', c', e', hs'⟩ := bools_span h1
          cases e'
          exact hs'.here)
        clear hkn hkl
        have q1 := HGR.out.cell HQ.out (by simp)
        obtain ⟨hq, hwq, hm, hwm, hq0⟩ := HX.out
        by_cases hkq : k ≤ q
        · have f1 : decide (k ≤ q) = true := decide_eq_true hkq
          have f2 : decide ((k : Int) ≤ (q : Int)) = true := decide_eq_true (by omega)
          have hk1 : IntKind.i64.wrap ((k : Int) + 1) = ((k + 1 : Nat) : Int) := by rw [IntWalk.i64_in _ (by omega)]; omega
          have hjn : (k : Int) < (n : Int) := by omega
          have hj0 : (0 : Int) ≤ (k : Int) := by omega
          obtain ⟨g, hg⟩ : ∃ g, gs[k]? = some g := ⟨_, List.getElem?_eq_getElem (by rw [HN.out.1]; omega)⟩
          obtain ⟨ba, oa, rfl, x0, x1, x2⟩ := (HA.out.grown HGR.out).at hg
          have HST := Lib.hid (show knownV vals (gs.take (k + 1)) = kn ++ [gateV vals kn g] by rw [known_step vals hg, HKN.out.1])
          have HFM := Lib.hid (show 0 < k → formG g k from fun h => HGD.out.form k g h hg)
          have HZR := Lib.hid (show k = 0 → g = (0, 0, 0) from fun h => by subst h; rw [HGD.out.zero] at hg; cases hg; rfl)
          clear hg
          have hgc := gate_cells wo g
          have hga2 := World.grownBy_alloc wo (.cells #[.int .i64 g.1, .int .i64 g.2.1, .int .i64 g.2.2] 58) none
          obtain ⟨wA, hwA⟩ : ∃ W, wo.alloc (.cells #[.int .i64 g.1, .int .i64 g.2.1, .int .i64 g.2.2] 58) = W := ⟨_, rfl⟩
          rw [hwA] at hgc hga2
          have HGA := Lib.hid hga2
          have HOA := Lib.hid (own_grown HOW.out hga2)
          have HLT := Lib.hid (show W1.heap.size ≤ wA.heap.size from Nat.le_trans HGR.out.size hga2.size)
          obtain ⟨y0, y1, y2⟩ := hgc
          have HY := Lib.hid (show GateAt wA wo.heap.size 0 g from ⟨y0, y1, y2⟩)
          have HKA := Lib.hid (HKB.out.grown hga2)
          clear hga2
          by_cases hK1 : g.1 = 1
          · have e1 := beqT hK1
            have e2 : (g.1 == 2) = false := beqF (by omega)
            have hkp : 0 < k := by cases k with | zero => have := HZR.out rfl; rw [this] at hK1; cases hK1 | succ k => omega
            have hA : 1 ≤ g.2.1 ∧ g.2.1 ≤ 20000 := by rcases HFM.out hkp with h | h <;> omega
            have hwA1 : IntKind.i64.wrap (g.2.1 - 1) = g.2.1 - 1 := IntWalk.i64_in _ (by omega)
            obtain ⟨i, hi⟩ : ∃ i : Nat, g.2.1 - 1 = (i : Int) := ⟨(g.2.1 - 1).toNat, by omega⟩
            by_cases c2 : g.2.1 ≤ (nv : Int)
            · have f3 : decide (g.2.1 ≤ (nv : Int)) = true := decide_eq_true c2
              obtain ⟨z, hz⟩ : ∃ z, vals[i]? = some z := ⟨_, List.getElem?_eq_getElem (by rw [HN.out.2]; omega)⟩
              obtain ⟨bv, ov, hva, xv⟩ := (HV.out.grown (World.grownBy.trans HGR.out HGA.out)).at hz
              have HX := Lib.hid (show gateV vals kn g = z by unfold gateV; rw [if_pos hK1, decide_eq_true hA.1, hi, Int.toNat_natCast, hz]; rfl)
              have hin : (i : Int) < (nv : Int) := by omega
              have hi0' : (0 : Int) ≤ (i : Int) := by omega
              rw [hi] at hwA1
              subst hva
              clear hK1 c2 hz hA
              have HOB := HOA
              have HLB := HLT
              have HGB := Lib.hid (World.grownBy.trans HGR.out HGA.out)
              go_wp2_with (at_builtin; refine wpList_append_own_at _ rfl _ _ 23 rfl W1.heap.size 4 i0 (.bool false) 1 1 Tryd.underlying23 hi0 hz0 hz1 hz2 rfl (by decide) _ k (boolCells kn) rfl (HOB.out.alloc _) ⟨wA.heap.size, 0, none⟩ 1 1 [.bool z] rfl rfl (cell_one_new _ _ _) (fun u hu => by simp at hu; subst hu; rfl) (by unfold maxLen; omega) (by omega) (by have := HLB.out; simp; omega) ?_)
              intro v' w6 hown' hgrow6 _ hat6
              have haA := World.grownBy_alloc wA (.cells #[.bool z] 4) none
              obtain ⟨rgA, rcA, rfl⟩ := own_shape hown'
              have HGF := Lib.hid (grown_own (World.grownBy.trans HGB.out haA) hgrow6 (fun j e => ((HOB.out.alloc (.cells #[.bool z] 4)).lt j e).1))
              have HOF := Lib.hid (show w6.ownsRow W1.heap.size 4 1 (.slice rgA (k + 1) rcA) (k + 1) (boolCells (kn ++ [gateV vals kn g])) by rw [HX.out, boolCells, List.map_append]; exact hown')
              clear hown' hgrow6 haA hat6
              go_wp2_with fail
              go_roundg (q + 1 - (k + 1))
              case measure => rw [HI.out]; omega
              case rel => exact ⟨k + 1, rgA, rcA, rfl, rfl, rfl, by omega, by rw [HST.out]; exact HOF.out, HGF.out⟩
            · have f3 : decide (g.2.1 ≤ (nv : Int)) = false := decide_eq_false c2
              have HX := Lib.hid (show gateV vals kn g = false by unfold gateV; rw [if_pos hK1, hi, Int.toNat_natCast, List.getElem?_eq_none (by rw [HN.out.2]; omega)]; simp)
              clear hK1 c2 hi hA hwA1
              have HOB := HOA
              have HLB := HLT
              have HGB := Lib.hid (World.grownBy.trans HGR.out HGA.out)
              go_wp2_with (at_builtin; refine wpList_append_own_at _ rfl _ _ 23 rfl W1.heap.size 4 i0 (.bool false) 1 1 Tryd.underlying23 hi0 hz0 hz1 hz2 rfl (by decide) _ k (boolCells kn) rfl (HOB.out.alloc _) ⟨wA.heap.size, 0, none⟩ 1 1 [.bool false] rfl rfl (cell_one_new _ _ _) (fun u hu => by simp at hu; subst hu; rfl) (by unfold maxLen; omega) (by omega) (by have := HLB.out; simp; omega) ?_)
              intro v' w6 hown' hgrow6 _ hat6
              have haA := World.grownBy_alloc wA (.cells #[.bool false] 4) none
              obtain ⟨rgA, rcA, rfl⟩ := own_shape hown'
              have HGF := Lib.hid (grown_own (World.grownBy.trans HGB.out haA) hgrow6 (fun j e => ((HOB.out.alloc (.cells #[.bool false] 4)).lt j e).1))
              have HOF := Lib.hid (show w6.ownsRow W1.heap.size 4 1 (.slice rgA (k + 1) rcA) (k + 1) (boolCells (kn ++ [gateV vals kn g])) by rw [HX.out, boolCells, List.map_append]; exact hown')
              clear hown' hgrow6 haA hat6
              go_wp2_with fail
              go_roundg (q + 1 - (k + 1))
              case measure => rw [HI.out]; omega
              case rel => exact ⟨k + 1, rgA, rcA, rfl, rfl, rfl, by omega, by rw [HST.out]; exact HOF.out, HGF.out⟩
          · have e1 := beqF hK1
            by_cases hK2 : g.1 = 2
            · have e2 := beqT hK2
              have hkp : 0 < k := by cases k with | zero => have := HZR.out rfl; rw [this] at hK2; cases hK2 | succ k => omega
              have hF : 2 ≤ g.2.1 ∧ g.2.1 < g.2.2 ∧ g.2.2 < 2 * (k : Int) := by rcases HFM.out hkp with h | h <;> omega
              obtain ⟨p1, hp1⟩ : ∃ p : Nat, g.2.1 / 2 = (p : Int) := ⟨(g.2.1 / 2).toNat, by omega⟩
              have hd1 : Int.tdiv g.2.1 2 = (p1 : Int) := by rw [Int.tdiv_eq_ediv_of_nonneg (by omega), hp1]
              have hwd1 : IntKind.i64.wrap (p1 : Int) = (p1 : Int) := IntWalk.i64_in _ (by omega)
              have hmm1 : Int.tmod g.2.1 2 = g.2.1 % 2 := Int.tmod_eq_emod_of_nonneg (by omega)
              have hwm1 : IntKind.i64.wrap (g.2.1 % 2) = g.2.1 % 2 := IntWalk.i64_in _ (by omega)
              obtain ⟨b1, hb1⟩ : ∃ b, (g.2.1 % 2 == 0) = b := ⟨_, rfl⟩
              obtain ⟨z1, hz1⟩ : ∃ z, kn[p1]? = some z := ⟨_, List.getElem?_eq_getElem (by rw [HKN.out.2]; omega)⟩
              obtain ⟨bk1, ok1, ek1, xk1⟩ := HKA.out.at hz1
              have hlv1 : litV kn g.2.1 = (z1 == b1) := by rw [lit_eq (by omega) (by rw [hp1]; exact hz1), hb1]
              have hpl1 : (p1 : Int) < (k : Int) := by omega
              have hp01 : (0 : Int) ≤ (p1 : Int) := by omega
              clear hz1 hp1
              obtain ⟨p2, hp2⟩ : ∃ p : Nat, g.2.2 / 2 = (p : Int) := ⟨(g.2.2 / 2).toNat, by omega⟩
              have hd2 : Int.tdiv g.2.2 2 = (p2 : Int) := by rw [Int.tdiv_eq_ediv_of_nonneg (by omega), hp2]
              have hwd2 : IntKind.i64.wrap (p2 : Int) = (p2 : Int) := IntWalk.i64_in _ (by omega)
              have hmm2 : Int.tmod g.2.2 2 = g.2.2 % 2 := Int.tmod_eq_emod_of_nonneg (by omega)
              have hwm2 : IntKind.i64.wrap (g.2.2 % 2) = g.2.2 % 2 := IntWalk.i64_in _ (by omega)
              obtain ⟨b2, hb2⟩ : ∃ b, (g.2.2 % 2 == 0) = b := ⟨_, rfl⟩
              obtain ⟨z2, hz2⟩ : ∃ z, kn[p2]? = some z := ⟨_, List.getElem?_eq_getElem (by rw [HKN.out.2]; omega)⟩
              obtain ⟨bk2, ok2, ek2, xk2⟩ := HKA.out.at hz2
              have hlv2 : litV kn g.2.2 = (z2 == b2) := by rw [lit_eq (by omega) (by rw [hp2]; exact hz2), hb2]
              have hpl2 : (p2 : Int) < (k : Int) := by omega
              have hp02 : (0 : Int) ≤ (p2 : Int) := by omega
              clear hz2 hp2
              cases ek1
              cases ek2
              have hgv : gateV vals kn g = (litV kn g.2.1 && litV kn g.2.2) := by unfold gateV; rw [if_neg hK1, if_pos hK2]
              rw [hlv1, hlv2] at hgv
              clear hlv1 hlv2 hK1 hK2 hF
              obtain ⟨u, hu⟩ : ∃ u, (z1 == b1) = u := ⟨_, rfl⟩
              obtain ⟨u2', hu2⟩ : ∃ u, (z2 == b2) = u := ⟨_, rfl⟩
              rw [hu, hu2] at hgv
              cases u
              case false =>
                have HX := Lib.hid (show gateV vals kn g = false by rw [hgv]; rfl)
                clear hgv
                have HKQ := Lib.hid (And.intro xk1 xk2)
                go_wp2_with fail
                go_quiet (fail)
                have y := HY.out.grown (grown_drewN wA nq none)
                obtain ⟨yy0, yy1, yy2⟩ := y
                obtain ⟨xa, xb⟩ := HKQ.out
                have xa2 := World.grownBy.cell (grown_drewN wA nq none) xa (by simp)
                have xb2 := World.grownBy.cell (grown_drewN wA nq none) xb (by simp)
                clear y0 y1 y2 xk1 xk2 xa xb
                have HOB0 := Lib.hid (own_grown HOA.out (grown_drewN wA nq none))
                have HGB0 := Lib.hid (World.grownBy.trans (World.grownBy.trans HGR.out HGA.out) (grown_drewN wA nq none))
                obtain ⟨wB, hwB⟩ : ∃ z, wA.drewN nq = z := ⟨_, rfl⟩
                rw [hwB] at HOB0 HGB0 yy0 yy1 yy2 xa2 xb2 ⊢
                clear hwB
                go_wp2_with fail
                go_quiet (fail)
                clear yy0 yy1 yy2 xa2 xb2
                have HOB := Lib.hid (own_grown HOB0.out (grown_drewN wB nq none))
                have HGB := Lib.hid (World.grownBy.trans HGB0.out (grown_drewN wB nq none))
                obtain ⟨wC, hwC⟩ : ∃ z, wB.drewN nq = z := ⟨_, rfl⟩
                rw [hwC] at HOB HGB ⊢
                clear hwC
                have HLB := Lib.hid (show W1.heap.size ≤ wC.heap.size from HGB.out.size)
                go_wp2_with (at_builtin; refine wpList_append_own_at _ rfl _ _ 23 rfl W1.heap.size 4 i0 (.bool false) 1 1 Tryd.underlying23 hi0 hz0 hz1 hz2 rfl (by decide) _ k (boolCells kn) rfl (HOB.out.alloc _) ⟨wC.heap.size, 0, none⟩ 1 1 [.bool false] rfl rfl (cell_one_new _ _ _) (fun u hu => by simp at hu; subst hu; rfl) (by unfold maxLen; omega) (by omega) (by have := HLB.out; simp; omega) ?_)
                intro v' w6 hown' hgrow6 _ hat6
                have haA := World.grownBy_alloc wC (.cells #[.bool false] 4) none
                obtain ⟨rgA, rcA, rfl⟩ := own_shape hown'
                have HGF := Lib.hid (grown_own (World.grownBy.trans HGB.out haA) hgrow6 (fun j e => ((HOB.out.alloc (.cells #[.bool false] 4)).lt j e).1))
                have HOF := Lib.hid (show w6.ownsRow W1.heap.size 4 1 (.slice rgA (k + 1) rcA) (k + 1) (boolCells (kn ++ [gateV vals kn g])) by rw [HX.out, boolCells, List.map_append]; exact hown')
                clear hown' hgrow6 haA hat6
                go_wp2_with fail
                go_roundg (q + 1 - (k + 1))
                case measure => rw [HI.out]; omega
                case rel => exact ⟨k + 1, rgA, rcA, rfl, rfl, rfl, by omega, by rw [HST.out]; exact HOF.out, HGF.out⟩
              case true =>
                have HX := Lib.hid (show gateV vals kn g = u2' by rw [hgv]; rfl)
                clear hgv
                have HKQ := Lib.hid (And.intro xk1 xk2)
                go_wp2_with fail
                go_quiet (fail)
                have y := HY.out.grown (grown_drewN wA nq none)
                obtain ⟨yy0, yy1, yy2⟩ := y
                obtain ⟨xa, xb⟩ := HKQ.out
                have xa2 := World.grownBy.cell (grown_drewN wA nq none) xa (by simp)
                have xb2 := World.grownBy.cell (grown_drewN wA nq none) xb (by simp)
                clear y0 y1 y2 xk1 xk2 xa xb
                have HOB0 := Lib.hid (own_grown HOA.out (grown_drewN wA nq none))
                have HGB0 := Lib.hid (World.grownBy.trans (World.grownBy.trans HGR.out HGA.out) (grown_drewN wA nq none))
                obtain ⟨wB, hwB⟩ : ∃ z, wA.drewN nq = z := ⟨_, rfl⟩
                rw [hwB] at HOB0 HGB0 yy0 yy1 yy2 xa2 xb2 ⊢
                clear hwB
                go_wp2_with fail
                go_quiet (fail)
                clear yy0 yy1 yy2 xa2 xb2
                have HOB := Lib.hid (own_grown HOB0.out (grown_drewN wB nq none))
                have HGB := Lib.hid (World.grownBy.trans HGB0.out (grown_drewN wB nq none))
                obtain ⟨wC, hwC⟩ : ∃ z, wB.drewN nq = z := ⟨_, rfl⟩
                rw [hwC] at HOB HGB ⊢
                clear hwC
                have HLB := Lib.hid (show W1.heap.size ≤ wC.heap.size from HGB.out.size)
                go_wp2_with (at_builtin; refine wpList_append_own_at _ rfl _ _ 23 rfl W1.heap.size 4 i0 (.bool false) 1 1 Tryd.underlying23 hi0 hz0 hz1 hz2 rfl (by decide) _ k (boolCells kn) rfl (HOB.out.alloc _) ⟨wC.heap.size, 0, none⟩ 1 1 [.bool u2'] rfl rfl (cell_one_new _ _ _) (fun u hu => by simp at hu; subst hu; rfl) (by unfold maxLen; omega) (by omega) (by have := HLB.out; simp; omega) ?_)
                intro v' w6 hown' hgrow6 _ hat6
                have haA := World.grownBy_alloc wC (.cells #[.bool u2'] 4) none
                obtain ⟨rgA, rcA, rfl⟩ := own_shape hown'
                have HGF := Lib.hid (grown_own (World.grownBy.trans HGB.out haA) hgrow6 (fun j e => ((HOB.out.alloc (.cells #[.bool u2'] 4)).lt j e).1))
                have HOF := Lib.hid (show w6.ownsRow W1.heap.size 4 1 (.slice rgA (k + 1) rcA) (k + 1) (boolCells (kn ++ [gateV vals kn g])) by rw [HX.out, boolCells, List.map_append]; exact hown')
                clear hown' hgrow6 haA hat6
                go_wp2_with fail
                go_roundg (q + 1 - (k + 1))
                case measure => rw [HI.out]; omega
                case rel => exact ⟨k + 1, rgA, rcA, rfl, rfl, rfl, by omega, by rw [HST.out]; exact HOF.out, HGF.out⟩
            · have e2 := beqF hK2
              have HX := Lib.hid (show gateV vals kn g = true by unfold gateV; rw [if_neg hK1, if_neg hK2])
              clear hK1 hK2
              have HOB := HOA
              have HLB := HLT
              have HGB := Lib.hid (World.grownBy.trans HGR.out HGA.out)
              go_wp2_with (at_builtin; refine wpList_append_own_at _ rfl _ _ 23 rfl W1.heap.size 4 i0 (.bool false) 1 1 Tryd.underlying23 hi0 hz0 hz1 hz2 rfl (by decide) _ k (boolCells kn) rfl (HOB.out.alloc _) ⟨wA.heap.size, 0, none⟩ 1 1 [.bool true] rfl rfl (cell_one_new _ _ _) (fun u hu => by simp at hu; subst hu; rfl) (by unfold maxLen; omega) (by omega) (by have := HLB.out; simp; omega) ?_)
              intro v' w6 hown' hgrow6 _ hat6
              have haA := World.grownBy_alloc wA (.cells #[.bool true] 4) none
              obtain ⟨rgA, rcA, rfl⟩ := own_shape hown'
              have HGF := Lib.hid (grown_own (World.grownBy.trans HGB.out haA) hgrow6 (fun j e => ((HOB.out.alloc (.cells #[.bool true] 4)).lt j e).1))
              have HOF := Lib.hid (show w6.ownsRow W1.heap.size 4 1 (.slice rgA (k + 1) rcA) (k + 1) (boolCells (kn ++ [gateV vals kn g])) by rw [HX.out, boolCells, List.map_append]; exact hown')
              clear hown' hgrow6 haA hat6
              go_wp2_with fail
              go_roundg (q + 1 - (k + 1))
              case measure => rw [HI.out]; omega
              case rel => exact ⟨k + 1, rgA, rcA, rfl, rfl, rfl, by omega, by rw [HST.out]; exact HOF.out, HGF.out⟩
        · have f1 : decide (k ≤ q) = false := decide_eq_false hkq
          have f2 : decide ((k : Int) ≤ (q : Int)) = false := decide_eq_false (by omega)
          have hkE : k = q + 1 := by omega
          obtain ⟨z, hz⟩ : ∃ z, kn[q]? = some z := ⟨_, List.getElem?_eq_getElem (by rw [HKN.out.2]; omega)⟩
          obtain ⟨bk, ok, rfl, xz⟩ := HKB.out.at hz
          have HF := Lib.hid (show evalC gs vals r = (z == q0) from by rw [HR.out.1, ← hkE, HKN.out.1, lit_eq HR.out.2.2 (by rw [HR.out.2.1]; exact hz), HQ0.out])
          have hqk : (q : Int) < (k : Int) := by omega
          have hq00 : (0 : Int) ≤ (q : Int) := by omega
          clear hkE hz hkq
          go_wp2_with fail
          go_ret
          exact ⟨by rw [HF.out]; rfl, World.grownBy.trans HG.out HGR.out⟩
end Go.Proofs.YthkjjiijjedipaaDoor

namespace Go.Proofs.YthkjjiijjedipaaDoor
open Go.RowKit
def rowsW : World → List (List Int) → World
  | w, [] => w
  | w, z :: r => rowsW (w.alloc (.cells (z.map (Value.int .i64)).toArray 3)) r
def rowsV (n : Nat) : Nat → List (List Int) → List Value
  | _, [] => []
  | k, z :: r => .slice (some ⟨n + k, 0, none⟩) z.length z.length :: rowsV n (k + 1) r
theorem ints_lit (w : World) (z : List Int) : IntsW (w.alloc (.cells (z.map (Value.int .i64)).toArray 3)) (some ⟨w.heap.size, 0, none⟩) z.length z :=
  ⟨Nat.le_refl _, .inr ⟨_, _, rfl, fun j x hj => by rw [Nat.zero_add]; rw [World.cell?_alloc_new]; simp [hj]⟩⟩
theorem bools_lit (w : World) (z : List Bool) : BoolsW (w.alloc (.cells (z.map Value.bool).toArray 4)) (some ⟨w.heap.size, 0, none⟩) z.length z :=
  ⟨Nat.le_refl _, .inr ⟨_, _, rfl, fun j x hj => by rw [Nat.zero_add]; rw [World.cell?_alloc_new]; simp [hj]⟩⟩
theorem rows_says : ∀ (l : List (List Int)) (w : World) (n k : Nat), w.heap.size = n + k → w.grownBy (rowsW w l) none ∧ (rowsW w l).heap.size = n + k + l.length ∧
    ∀ (j : Nat) (z : List Int), l[j]? = some z → ∃ b, (rowsV n k l)[j]? = some (.slice (some ⟨b, 0, none⟩) z.length z.length) ∧ IntsW (rowsW w l) (some ⟨b, 0, none⟩) z.length z
  | [], w, n, k, h => ⟨grown_refl _ _, h, fun j z hj => by simp at hj⟩
  | z :: r, w, n, k, h => by
    have hg := World.grownBy_alloc w (.cells (z.map (Value.int .i64)).toArray 3) none
    have hz := ints_lit w z
    obtain ⟨h1, h2, h3⟩ := rows_says r (w.alloc (.cells (z.map (Value.int .i64)).toArray 3)) n (k + 1) (by simp; omega)
    refine ⟨World.grownBy.trans hg h1, by show (rowsW _ r).heap.size = _; rw [h2, List.length_cons]; omega, fun j x hj => ?_⟩
    cases j with
    | zero =>
      simp at hj
      subst hj
      rw [h] at hz
      exact ⟨n + k, rfl, hz.grown h1⟩
    | succ j => exact h3 j x (by simpa using hj)
theorem form_says (l : List (List Int)) (w : World) : w.grownBy ((rowsW w l).alloc (.cells (rowsV w.heap.size 0 l).toArray 28)) none ∧ ClsW ((rowsW w l).alloc (.cells (rowsV w.heap.size 0 l).toArray 28)) (some ⟨w.heap.size + l.length, 0, none⟩) l.length l := by
  obtain ⟨h1, h2, h3⟩ := rows_says l w w.heap.size 0 rfl
  have hg := World.grownBy_alloc (rowsW w l) (.cells (rowsV w.heap.size 0 l).toArray 28) none
  refine ⟨World.grownBy.trans h1 hg, Nat.le_refl _, .inr ⟨_, _, rfl, fun j z hj => ?_⟩⟩
  obtain ⟨b, e, hb⟩ := h3 j z hj
  refine ⟨_, _, ?_, hb.grown hg⟩
  rw [show w.heap.size + l.length = (rowsW w l).heap.size by rw [h2]; rfl, Nat.zero_add, World.cell?_alloc_new]
  simp [e]
theorem tse_span {gs : List Gt} {r : Int} {m : Nat} {V : Nat} {L : List (List Int)} (e : tseP gs r m = (V, L)) (a : Option Addr) (c : Nat) (w : World) (h : GatesW w a c gs) (hG : Good gs) (hl : gs.length ≤ 1000) (hr : Ok gs r) (hm : m ≤ 100) :
    Calls Tryd.prog 12 #[.agg #[.slice a gs.length c], .int .i64 r, .int .i64 (m : Int)] w fun x w' => ∃ a' c', x = .returned (cnfV (V : Int) a' L.length c') ∧ Span w.heap.size w'.heap.size w' (fun W => ClsW W a' c' L) ∧ w.grownBy w' none := by
  by_cases h0 : r = 0
  · subst h0
    have e2 : tseP gs 0 m = (m, []) := by unfold tseP; rw [if_pos rfl]
    rw [e2] at e
    cases e
    refine (tse0_calls m _ a c w hm).mono ?_
    rintro x w' ⟨rfl, hg⟩
    exact ⟨none, 0, rfl, ⟨Nat.le_refl _, fun W _ => clsW_nil _ _ _⟩, hg⟩
  · by_cases h1 : r = 1
    · subst h1
      have e2 : tseP gs 1 m = (m, [[]]) := by unfold tseP; rw [if_neg (by decide), if_pos rfl]
      rw [e2] at e
      cases e
      exact tse1_span m _ a c w hm
    · have := tse2_span gs r m a c w h hG hl hr (by have := hr.1; omega) hm
      rw [e] at this
      exact this
theorem tse_calls {gs : List Gt} {r : Int} {m : Nat} {V : Nat} {L : List (List Int)} (e : tseP gs r m = (V, L)) (a : Option Addr) (c : Nat) (w : World) (h : GatesW w a c gs) (hG : Good gs) (hl : gs.length ≤ 1000) (hr : Ok gs r) (hm : m ≤ 100) :
    Calls Tryd.prog 12 #[.agg #[.slice a gs.length c], .int .i64 r, .int .i64 (m : Int)] w fun x w' => ∃ a' c', x = .returned (cnfV (V : Int) a' L.length c') ∧ ClsW w' a' c' L ∧ w.grownBy w' none :=
  (tse_span e a c w h hG hl hr hm).mono fun _ _ ⟨a', c', h1, h2, h3⟩ => ⟨a', c', h1, h2.here, h3⟩
theorem ext_calls {gs : List Gt} {r : Int} {m : Nat} {vals X : List Bool} {nv : Nat} (e : extP gs r m vals = X) (hnv : vals.length = nv) (a : Option Addr) (c : Nat) (va : Option Addr) (vc : Nat) (w : World) (h : GatesW w a c gs) (hG : Good gs) (hv : BoolsW w va vc vals) (hl : gs.length ≤ 1000) (hlv : nv ≤ 1000) (hr : Ok gs r) (hm : m ≤ 100) :
    Calls Tryd.prog 13 #[.agg #[.slice a gs.length c], .int .i64 r, .int .i64 (m : Int), .slice va nv vc] w fun x w' => ∃ a' c', x = .returned (.slice a' X.length c') ∧ BoolsW w' a' c' X ∧ w.grownBy w' none := by
  subst hnv
  have := extend_calls gs r m vals a c va vc w h hG hv hl hlv hr hm
  rw [e] at this
  exact this
end Go.Proofs.YthkjjiijjedipaaDoor

namespace Go.Proofs.YthkjjiijjedipaaDoor
open Go.RowKit
set_option maxRecDepth 100000
theorem hd1 : inputC [(0, 0, 0)] 1 = ([(0, 0, 0), (1, 1, 0)], 2) := by decide +kernel
theorem hd2 : inputC [(0, 0, 0), (1, 1, 0)] 2 = ([(0, 0, 0), (1, 1, 0), (1, 2, 0)], 4) := by decide +kernel
theorem hd3 : andC [(0, 0, 0), (1, 1, 0), (1, 2, 0)] 2 4 = ([(0, 0, 0), (1, 1, 0), (1, 2, 0), (2, 2, 4)], 6) := by decide +kernel
theorem hd4 : tseP [(0, 0, 0), (1, 1, 0), (1, 2, 0), (2, 2, 4)] 6 2 = (3, [[-3, 1], [-3, 2], [3, -1, -2], [3]]) := by decide +kernel
theorem hd5 : tseP [(0, 0, 0), (1, 1, 0), (1, 2, 0), (2, 2, 4)] 1 4 = (4, [[]]) := by decide +kernel
theorem hd6 : extP [(0, 0, 0), (1, 1, 0), (1, 2, 0), (2, 2, 4)] 6 2 [true, true] = [true, true, true] := by decide +kernel
theorem hk1 : keyP [1, 2] = [49, 32, 50, 32] := by
  have h : msort [1, 2] = [1, 2] := by unfold msort; simp [List.mergeSort, List.MergeSort.Internal.splitInTwo]
  unfold keyP
  rw [h]
  decide +kernel
theorem hk2 : keyP [2, 1] = [49, 32, 50, 32] := by
  have h : msort [2, 1] = [1, 2] := by unfold msort; simp [List.mergeSort, List.MergeSort.Internal.splitInTwo]
  unfold keyP
  rw [h]
  decide +kernel
theorem hk3 : keyP [] = [] := by
  have h : msort [] = [] := by unfold msort; simp
  unfold keyP
  rw [h]
  rfl
theorem hk4 : keyP [-1] = [45, 49, 32] := by
  have h : msort [-1] = [-1] := by unfold msort; simp
  unfold keyP
  rw [h]
  decide +kernel
theorem hd7 : simpP [[1, 2, 1], [3, -3], [2, 1], [], [-1]] = [[1, 2], [], [-1]] := by
  have h : dropP [[1, 2, 1], [3, -3], [2, 1], [], [-1]] = [[1, 2], [2, 1], [], [-1]] := by decide +kernel
  unfold simpP
  rw [h]
  show keepGo [[1, 2], [2, 1], [], [-1]] 4 = _
  simp [keepGo, hk1, hk2, hk3, hk4, ixOf]
theorem gE1 : Good [(0, 0, 0), (1, 1, 0)] := by have := (step_input good_new 1).good; rw [hd1] at this; exact this
theorem gE2 : Good [(0, 0, 0), (1, 1, 0), (1, 2, 0)] := by have := (step_input gE1 2).good; rw [hd2] at this; exact this
theorem gE3 : Good [(0, 0, 0), (1, 1, 0), (1, 2, 0), (2, 2, 4)] := by have := (step_and gE2 2 4).good; rw [hd3] at this; exact this
theorem hd8 : satP [true, true, true] [[-3, 1], [-3, 2], [3, -1, -2], [3]] = true := by decide +kernel
theorem hd9 : satP [true, false, false] [[-3, 1], [-3, 2], [3, -1, -2], [3]] = false := by decide +kernel
theorem hd10 : litsOk 3 [[-3, 1], [-3, 2], [3, -1, -2], [3]] = true := by decide +kernel
theorem hd11 : litsOk 1 [[2]] = false := by decide +kernel
theorem hd12 : litsOk 1 [[0]] = false := by decide +kernel
end Go.Proofs.YthkjjiijjedipaaDoor

namespace Go.Proofs.YthkjjiijjedipaaDoor
open Go.RowKit
set_option maxRecDepth 100000
abbrev litW (W : World) (m : List (List Int)) : World := (rowsW W m).alloc (.cells (rowsV W.heap.size 0 m).toArray 28)
theorem same_lit {v v' : Int} {l m : List (List Int)} {a : Option Addr} {c : Nat} {W : World} {q : Bool} (e : decide (v = v' ∧ l = m) = q) (h : ClsW W a c l) (hl : l.length ≤ 60000) (hl2 : ∀ z ∈ l, z.length ≤ 100000) :
    Calls Tryd.prog 23 #[cnfV v a l.length c, cnfV v' (some ⟨W.heap.size + m.length, 0, none⟩) m.length m.length] (litW W m) fun x w' => x = .returned (.bool q) ∧ W.grownBy w' none := by
  obtain ⟨h1, h2⟩ := form_says m W
  refine (same_calls v v' l m a _ c m.length _ (h.grown h1) h2 hl hl2).mono ?_
  rintro x w' ⟨rfl, hg⟩
  exact ⟨by rw [e], World.grownBy.trans h1 hg⟩
theorem valid_lit {v : Int} {m : List (List Int)} {W : World} {q : Bool} (e : litsOk v m = q) (hl : m.length ≤ 60000) (hl2 : ∀ z ∈ m, z.length ≤ 100000) (hv : 0 ≤ v ∧ v ≤ 20000) :
    Calls Tryd.prog 14 #[cnfV v (some ⟨W.heap.size + m.length, 0, none⟩) m.length m.length] (litW W m) fun x w' => x = .returned (.bool q) ∧ W.grownBy w' none := by
  obtain ⟨h1, h2⟩ := form_says m W
  refine (valid14_calls v m _ m.length _ h2 hl hl2 hv).mono ?_
  rintro x w' ⟨rfl, hg⟩
  exact ⟨by rw [e], World.grownBy.trans h1 hg⟩
theorem simp_lit {v : Int} {m k : List (List Int)} {W : World} (e : simpP m = k) (hl : m.length ≤ 1000) (hl2 : ∀ z ∈ m, z.length ≤ 1000) (hb : ∀ z ∈ m, ∀ x ∈ z, Nine x) (htab : Tab W) :
    Calls Tryd.prog 22 #[cnfV v (some ⟨W.heap.size + m.length, 0, none⟩) m.length m.length] (litW W m) fun x w' => ∃ a' c', x = .returned (cnfV v a' k.length c') ∧ ClsW w' a' c' k ∧ W.grownBy w' none := by
  obtain ⟨h1, h2⟩ := form_says m W
  refine (simplify_calls v m _ m.length _ h2 hl hl2 hb (htab.grown h1)).mono ?_
  rintro x w' ⟨a', c', rfl, hc, hg⟩
  rw [e] at hc ⊢
  exact ⟨a', c', rfl, hc, World.grownBy.trans h1 hg⟩
abbrev litB (W : World) (z : List Bool) : World := W.alloc (.cells (z.map Value.bool).toArray 4)
theorem sat_lit {v : Int} {l : List (List Int)} {z : List Bool} {a : Option Addr} {c : Nat} {W : World} {q : Bool} (e : satP z l = q) (h : ClsW W a c l) (hl : l.length ≤ 60000) (hl2 : ∀ z ∈ l, z.length ≤ 100000) (hz : z.length ≤ 100000) (hb : ∀ z ∈ l, ∀ x ∈ z, -9223372036854775807 ≤ x ∧ x ≤ 9223372036854775807) :
    Calls Tryd.prog 15 #[cnfV v a l.length c, .slice (some ⟨W.heap.size, 0, none⟩) z.length z.length] (litB W z) fun x w' => x = .returned (.bool q) ∧ W.grownBy w' none := by
  have h1 := World.grownBy_alloc W (.cells (z.map Value.bool).toArray 4) none
  refine (satisfies_calls v l z a _ c z.length _ (h.grown h1) (bools_lit W z) hl hl2 hz hb).mono ?_
  rintro x w' ⟨rfl, hg⟩
  exact ⟨by rw [e], World.grownBy.trans h1 hg⟩
theorem ext_lit {gs : List Gt} {r : Int} {m : Nat} {z X : List Bool} {W : World} {a : Option Addr} {c : Nat} (e : extP gs r m z = X) (h : GatesW W a c gs) (hG : Good gs) (hl : gs.length ≤ 1000) (hz : z.length ≤ 1000) (hr : Ok gs r) (hm : m ≤ 100) :
    Calls Tryd.prog 13 #[.agg #[.slice a gs.length c], .int .i64 r, .int .i64 (m : Int), .slice (some ⟨W.heap.size, 0, none⟩) z.length z.length] (litB W z) fun x w' => ∃ a' c', x = .returned (.slice a' X.length c') ∧ BoolsW w' a' c' X ∧ W.grownBy w' none := by
  have h1 := World.grownBy_alloc W (.cells (z.map Value.bool).toArray 4) none
  refine (ext_calls e rfl a c _ z.length _ (h.grown h1) hG (bools_lit W z) hl hz hr hm).mono ?_
  rintro x w' ⟨a', c', rfl, hb, hg⟩
  exact ⟨a', c', rfl, hb, World.grownBy.trans h1 hg⟩
theorem sameB_lit {xs z : List Bool} {q : Bool} {W : World} {a : Option Addr} {c : Nat} (e : decide (xs = z) = q) (h : BoolsW W a c xs) (hl : xs.length ≤ 100000) :
    Calls Tryd.prog 17 #[.slice a xs.length c, .slice (some ⟨W.heap.size, 0, none⟩) z.length z.length] (litB W z) fun x w' => x = .returned (.bool q) ∧ W.grownBy w' none := by
  have h1 := World.grownBy_alloc W (.cells (z.map Value.bool).toArray 4) none
  refine (sameBools_calls xs z a _ c z.length _ (h.grown h1) (bools_lit W z) hl).mono ?_
  rintro x w' ⟨rfl, k, rfl⟩
  exact ⟨by rw [e], World.grownBy.trans h1 (grown_drewN _ _ _)⟩
/-- A formula in a box. -/
def CF (w : World) (p : Nat) (v : Int) (a : Option Addr) (n c : Nat) (l : List (List Int)) : Prop := w.cell? ⟨p, 0, none⟩ = some (.int .i64 v) ∧ w.cell? ⟨p, 1, none⟩ = some (.slice a n c) ∧ ClsW w a c l
theorem CF.grown {w w' : World} {p : Nat} {v : Int} {a : Option Addr} {n c : Nat} {l : List (List Int)} (h : CF w p v a n c l) (hg : w.grownBy w' none) : CF w' p v a n c l :=
  ⟨hg.cell h.1 (by simp), hg.cell h.2.1 (by simp), h.2.2.grown hg⟩
theorem boxC {w0 W : World} {g : List Gt} {a : Option Addr} {n c : Nat} (hn : g.length = n) (h : GatesW W a c g) (hg : w0.grownBy W none) : ∃ p V X, W.heap.size = p ∧ W.alloc (.cells #[.slice none 0 0] 27) = V ∧ V.cell? ⟨p, 0, none⟩ = some (.slice none 0 0) ∧ V.frozen? ⟨p, 0, none⟩ = false ∧
    V.setCell ⟨p, 0, none⟩ (.slice a n c) = X ∧ X.cell? ⟨p, 0, none⟩ = some (.slice a n c) ∧ CB X p a c g ∧ w0.grownBy X none := by
  subst hn
  have hz := BoxZ.new W
  have hga := World.grownBy_alloc W (.cells #[.slice none 0 0] 27) none
  have hcb := CB.put (h.grown hga) hz.1 hz.2
  exact ⟨_, _, _, rfl, rfl, hz.1, hz.2, rfl, hcb.1, hcb, World.grownBy.trans hg (grown_own hga (grown_set _ _ _ _) (fun x e => by cases e; exact Nat.le_refl _))⟩
theorem boxF {w0 W : World} {v : Int} {l : List (List Int)} {a : Option Addr} {n c : Nat} (h : ClsW W a c l) (hg : w0.grownBy W none) : ∃ p V X, W.heap.size = p ∧ W.alloc (.cells #[.int .i64 0, .slice none 0 0] 35) = V ∧ V.cell? ⟨p, 0, none⟩ = some (.int .i64 0) ∧ V.cell? ⟨p, 1, none⟩ = some (.slice none 0 0) ∧ V.frozen? ⟨p, 0, none⟩ = false ∧ V.frozen? ⟨p, 1, none⟩ = false ∧
    (V.setCell ⟨p, 0, none⟩ (.int .i64 v)).setCell ⟨p, 1, none⟩ (.slice a n c) = X ∧ X.cell? ⟨p, 0, none⟩ = some (.int .i64 v) ∧ X.cell? ⟨p, 1, none⟩ = some (.slice a n c) ∧ ClsW X a c l ∧ w0.grownBy X none := by
  have e2 := one_cells W (.int .i64 0) (.slice none 0 0) 35
  have hga := World.grownBy_alloc W (.cells #[.int .i64 0, .slice none 0 0] 35) none
  have hs := sets2 e2.2.1 e2.2.2.1 (.int .i64 v) (.slice a n c)
  have hgX := grown_own hga ((grown_set _ W.heap.size 0 (.int .i64 v)).trans (grown_set _ W.heap.size 1 (.slice a n c))) (fun x e => by cases e; exact Nat.le_refl _)
  exact ⟨_, _, _, rfl, rfl, e2.2.1, e2.2.2.1, e2.2.2.2.1, e2.2.2.2.2, rfl, hs.1, hs.2, h.grown hgX, World.grownBy.trans hg hgX⟩
end Go.Proofs.YthkjjiijjedipaaDoor
