/- Texts of the proof: E3. -/
import Derived.Test.YthkjjiijjedipaaDoorCD16
import Derived.Test.YthkjjiijjedipaaDoorCD21
namespace Go.Proofs.YthkjjiijjedipaaDoor
open Go.RowKit

theorem lit_eq {kn : List Bool} {r : Int} {z : Bool} (h0 : 0 ≤ r) (hz : kn[(r / 2).toNat]? = some z) : litV kn r = (z == (r % 2 == 0)) := by
  unfold litV
  rw [decide_eq_true h0, hz]
  have : r % 2 = 0 ∨ r % 2 = 1 := by omega
  rcases this with h | h <;> cases z <;> simp [h]
set_option maxRecDepth 100000 in
set_option maxHeartbeats 4000000 in
theorem reval_calls (gs : List Gt) (vals : List Bool) (r : Int) (a : Option Addr) (c : Nat) (va : Option Addr) (vc : Nat) (w : World) (h : GatesW w a c gs) (hG : Good gs) (hv : BoolsW w va vc vals) (hl : gs.length ≤ 1000) (_hl2 : vals.length ≤ 1000) (hr : r ≤ 9223372036854775807) :
    Calls Tryd.prog 16 #[.agg #[.slice a gs.length c], .slice va vals.length vc, .int .i64 r] w fun e w' => e = .returned (.bool (evalC gs vals r)) ∧ w.grownBy w' none := by
  obtain ⟨n, hn⟩ : ∃ n, gs.length = n := ⟨_, rfl⟩
  obtain ⟨nv, hnv⟩ : ∃ n, vals.length = n := ⟨_, rfl⟩
  have hg1 := World.grownBy_alloc w (.cells #[.slice a n c] 27) none
  have e1 := one_cell w (.slice a n c) 27
  obtain ⟨W1, hW1⟩ : ∃ W, w.alloc (.cells #[.slice a n c] 27) = W := ⟨_, rfl⟩
  rw [hW1] at hg1 e1
  have q1 := e1.2.1
  have HQ := Lib.hid q1
  have HG := Lib.hid hg1
  have HA := Lib.hid (h.grown hg1)
  have HV := Lib.hid (hv.grown hg1)
  have HN := Lib.hid (And.intro hn hnv)
  have HGD := Lib.hid hG
  have hw2 : IntKind.i64.wrap (2 * (n : Int)) = 2 * (n : Int) := IntWalk.i64_in _ (by omega)
  rw [hn] at hl ⊢
  rw [hnv] at _hl2 ⊢
  clear h hv hg1 e1 hn hnv hG
  by_cases h0 : r < 0
  · have f0 : decide (r < 0) = true := decide_eq_true h0
    have HE := Lib.hid (show evalC gs vals r = false by unfold evalC; rw [decide_eq_false (by omega)]; rfl)
    clear h0
    go_enter Tryd.func16, Tryd.ntmps16
    go_wp2_with fail
    go_ret
    exact ⟨by rw [HE.out]; rfl, HG.out⟩
  · have f0 : decide (r < 0) = false := decide_eq_false h0
    by_cases h1 : 2 * (n : Int) ≤ r
    · have f1 : decide (2 * (n : Int) ≤ r) = true := decide_eq_true h1
      have HE := Lib.hid (show evalC gs vals r = false by unfold evalC; rw [HN.out.1, decide_eq_false (by omega)]; rfl)
      clear h0 h1
      go_enter Tryd.func16, Tryd.ntmps16
      go_wp2_with fail
      go_ret
      exact ⟨by rw [HE.out]; rfl, HG.out⟩
    · have f1 : decide (2 * (n : Int) ≤ r) = false := decide_eq_false h1
      obtain ⟨q, hqq⟩ : ∃ q : Nat, r / 2 = (q : Int) := ⟨(r / 2).toNat, by omega⟩
      have hq : Int.tdiv r 2 = (q : Int) := by rw [Int.tdiv_eq_ediv_of_nonneg (by omega), hqq]
      have hqn : q < n := by omega
      have hwq : IntKind.i64.wrap (q : Int) = (q : Int) := IntWalk.i64_in _ (by omega)
      have hm : Int.tmod r 2 = r % 2 := Int.tmod_eq_emod_of_nonneg (by omega)
      have hwm : IntKind.i64.wrap (r % 2) = r % 2 := IntWalk.i64_in _ (by omega)
      obtain ⟨q0, hq0⟩ : ∃ b, (r % 2 == 0) = b := ⟨_, rfl⟩
      have HR := Lib.hid (show evalC gs vals r = litV (knownV vals (gs.take (q + 1))) r ∧ (r / 2).toNat = q ∧ 0 ≤ r from ⟨by unfold evalC; rw [HN.out.1, decide_eq_true (by omega), hqq, Int.toNat_natCast]; rfl, by rw [hqq]; rfl, by omega⟩)
      have HQ0 := Lib.hid (show (r % 2 == 0) = q0 from hq0)
      have HX := Lib.hid (And.intro hq (And.intro hwq (And.intro hm (And.intro hwm hq0))))
      clear h0 h1 hqq hm hwm hq0
      obtain ⟨i0, hi0, hz0, hz1, hz2⟩ := info_parts info4
      go_enter Tryd.func16, Tryd.ntmps16
      go_wp2_with fail
      clear hW1 q1 f0 f1 hw2 hq hwq
      go_loopg [7, 8] (q + 1) (fun g s7 s8 wr => ∃ (k : Nat) (ka : Option Addr) (kc : Nat), s7 = .slice ka k kc ∧ s8 = .int .i64 (k : Int) ∧ g = q + 1 - k ∧ k ≤ q + 1 ∧ wr.ownsRow W1.heap.size 4 1 (.slice ka k kc) k (boolCells (knownV vals (gs.take k))) ∧ W1.grownBy wr none)
      case atStart => exact ⟨0, none, 0, rfl, rfl, rfl, Nat.zero_le _, World.ownsRow_nil _ _ _ _, grown_refl _ _⟩
      case round =>
        obtain ⟨k, ka, kc, rfl, rfl, hgk, hk, hown, hgr⟩ := hrel
        have HI := Lib.hid hgk; clear hgk
        have HOW := Lib.hid hown; clear hown
        have HGR := Lib.hid hgr; clear hgr
        obtain ⟨wo, hwo⟩ : ∃ z, z = wr := ⟨_, rfl⟩
        rw [← hwo] at HOW HGR ⊢
        clear hwo
        have hkl : (knownV vals (gs.take k)).length = k := by rw [known_len, List.length_take, HN.out.1]; omega
        obtain ⟨kn, hkn⟩ : ∃ kn, knownV vals (gs.take k) = kn := ⟨_, rfl⟩
        rw [hkn] at HOW hkl
        have HKN := Lib.hid (And.intro hkn hkl)
        have HKB := Lib.hid (show BoolsW wo ka kc kn from by
          have h1 := HOW.out
          rw [← hkl] at h1
          obtain ⟨a', c', e', hs'⟩ := bools_span h1
          cases e'
          exact hs'.here)
        clear hkn hkl
        have q1 := HGR.out.cell HQ.out (by simp)
        obtain ⟨hq, hwq, hm, hwm, hq0⟩ := HX.out
        by_cases hkq : k ≤ q
        · have f1 : decide (k ≤ q) = true := decide_eq_true hkq
          have f2 : decide ((k : Int) ≤ (q : Int)) = true := decide_eq_true (by omega)
          have hk1 : IntKind.i64.wrap ((k : Int) + 1) = ((k + 1 : Nat) : Int) := by rw [IntWalk.i64_in _ (by omega)]; omega
          have hjn : (k : Int) < (n : Int) := by omega
          have hj0 : (0 : Int) ≤ (k : Int) := by omega
          obtain ⟨g, hg⟩ : ∃ g, gs[k]? = some g := ⟨_, List.getElem?_eq_getElem (by rw [HN.out.1]; omega)⟩
          obtain ⟨ba, oa, rfl, x0, x1, x2⟩ := (HA.out.grown HGR.out).at hg
          have HST := Lib.hid (show knownV vals (gs.take (k + 1)) = kn ++ [gateV vals kn g] by rw [known_step vals hg, HKN.out.1])
          have HFM := Lib.hid (show 0 < k → formG g k from fun h => HGD.out.form k g h hg)
          have HZR := Lib.hid (show k = 0 → g = (0, 0, 0) from fun h => by subst h; rw [HGD.out.zero] at hg; cases hg; rfl)
          clear hg
          have hgc := gate_cells wo g
          have hga2 := World.grownBy_alloc wo (.cells #[.int .i64 g.1, .int .i64 g.2.1, .int .i64 g.2.2] 58) none
          obtain ⟨wA, hwA⟩ : ∃ W, wo.alloc (.cells #[.int .i64 g.1, .int .i64 g.2.1, .int .i64 g.2.2] 58) = W := ⟨_, rfl⟩
          rw [hwA] at hgc hga2
          have HGA := Lib.hid hga2
          have HOA := Lib.hid (own_grown HOW.out hga2)
          have HLT := Lib.hid (show W1.heap.size ≤ wA.heap.size from Nat.le_trans HGR.out.size hga2.size)
          obtain ⟨y0, y1, y2⟩ := hgc
          have HY := Lib.hid (show GateAt wA wo.heap.size 0 g from ⟨y0, y1, y2⟩)
          have HKA := Lib.hid (HKB.out.grown hga2)
          clear hga2
          by_cases hK1 : g.1 = 1
          · have e1 := beqT hK1
            have e2 : (g.1 == 2) = false := beqF (by omega)
            have hkp : 0 < k := by cases k with | zero => have := HZR.out rfl; rw [this] at hK1; cases hK1 | succ k => omega
            have hA : 1 ≤ g.2.1 ∧ g.2.1 ≤ 20000 := by rcases HFM.out hkp with h | h <;> omega
            have hwA1 : IntKind.i64.wrap (g.2.1 - 1) = g.2.1 - 1 := IntWalk.i64_in _ (by omega)
            obtain ⟨i, hi⟩ : ∃ i : Nat, g.2.1 - 1 = (i : Int) := ⟨(g.2.1 - 1).toNat, by omega⟩
            by_cases c2 : g.2.1 ≤ (nv : Int)
            · have f3 : decide (g.2.1 ≤ (nv : Int)) = true := decide_eq_true c2
              obtain ⟨z, hz⟩ : ∃ z, vals[i]? = some z := ⟨_, List.getElem?_eq_getElem (by rw [HN.out.2]; omega)⟩
              obtain ⟨bv, ov, hva, xv⟩ := (HV.out.grown (World.grownBy.trans HGR.out HGA.out)).at hz
              have HX := Lib.hid (show gateV vals kn g = z by unfold gateV; rw [if_pos hK1, decide_eq_true hA.1, hi, Int.toNat_natCast, hz]; rfl)
              have hin : (i : Int) < (nv : Int) := by omega
              have hi0' : (0 : Int) ≤ (i : Int) := by omega
              rw [hi] at hwA1
              subst hva
              clear hK1 c2 hz hA
              have HOB := HOA
              have HLB := HLT
              have HGB := Lib.hid (World.grownBy.trans HGR.out HGA.out)
              go_wp2_with (at_builtin; refine wpList_append_own_at _ rfl _ _ 23 rfl W1.heap.size 4 i0 (.bool false) 1 1 Tryd.underlying23 hi0 hz0 hz1 hz2 rfl (by decide) _ k (boolCells kn) rfl (HOB.out.alloc _) ⟨wA.heap.size, 0, none⟩ 1 1 [.bool z] rfl rfl (cell_one_new _ _ _) (fun u hu => by simp at hu; subst hu; rfl) (by unfold maxLen; omega) (by omega) (by have := HLB.out; simp; omega) ?_)
              intro v' w6 hown' hgrow6 _ hat6
              have haA := World.grownBy_alloc wA (.cells #[.bool z] 4) none
              obtain ⟨rgA, rcA, rfl⟩ := own_shape hown'
              have HGF := Lib.hid (grown_own (World.grownBy.trans HGB.out haA) hgrow6 (fun j e => ((HOB.out.alloc (.cells #[.bool z] 4)).lt j e).1))
              have HOF := Lib.hid (show w6.ownsRow W1.heap.size 4 1 (.slice rgA (k + 1) rcA) (k + 1) (boolCells (kn ++ [gateV vals kn g])) by rw [HX.out, boolCells, List.map_append]; exact hown')
              clear hown' hgrow6 haA hat6
              go_wp2_with fail
              go_roundg (q + 1 - (k + 1))
              case measure => rw [HI.out]; omega
              case rel => exact ⟨k + 1, rgA, rcA, rfl, rfl, rfl, by omega, by rw [HST.out]; exact HOF.out, HGF.out⟩
            · have f3 : decide (g.2.1 ≤ (nv : Int)) = false := decide_eq_false c2
              have HX := Lib.hid (show gateV vals kn g = false by unfold gateV; rw [if_pos hK1, hi, Int.toNat_natCast, List.getElem?_eq_none (by rw [HN.out.2]; omega)]; simp)
              clear hK1 c2 hi hA hwA1
              have HOB := HOA
              have HLB := HLT
              have HGB := Lib.hid (World.grownBy.trans HGR.out HGA.out)
              go_wp2_with (at_builtin; refine wpList_append_own_at _ rfl _ _ 23 rfl W1.heap.size 4 i0 (.bool false) 1 1 Tryd.underlying23 hi0 hz0 hz1 hz2 rfl (by decide) _ k (boolCells kn) rfl (HOB.out.alloc _) ⟨wA.heap.size, 0, none⟩ 1 1 [.bool false] rfl rfl (cell_one_new _ _ _) (fun u hu => by simp at hu; subst hu; rfl) (by unfold maxLen; omega) (by omega) (by have := HLB.out; simp; omega) ?_)
              intro v' w6 hown' hgrow6 _ hat6
              have haA := World.grownBy_alloc wA (.cells #[.bool false] 4) none
              obtain ⟨rgA, rcA, rfl⟩ := own_shape hown'
              have HGF := Lib.hid (grown_own (World.grownBy.trans HGB.out haA) hgrow6 (fun j e => ((HOB.out.alloc (.cells #[.bool false] 4)).lt j e).1))
              have HOF := Lib.hid (show w6.ownsRow W1.heap.size 4 1 (.slice rgA (k + 1) rcA) (k + 1) (boolCells (kn ++ [gateV vals kn g])) by rw [HX.out, boolCells, List.map_append]; exact hown')
              clear hown' hgrow6 haA hat6
              go_wp2_with fail
              go_roundg (q + 1 - (k + 1))
              case measure => rw [HI.out]; omega
              case rel => exact ⟨k + 1, rgA, rcA, rfl, rfl, rfl, by omega, by rw [HST.out]; exact HOF.out, HGF.out⟩
          · have e1 := beqF hK1
            by_cases hK2 : g.1 = 2
            · have e2 := beqT hK2
              have hkp : 0 < k := by cases k with | zero => have := HZR.out rfl; rw [this] at hK2; cases hK2 | succ k => omega
              have hF : 2 ≤ g.2.1 ∧ g.2.1 < g.2.2 ∧ g.2.2 < 2 * (k : Int) := by rcases HFM.out hkp with h | h <;> omega
              obtain ⟨p1, hp1⟩ : ∃ p : Nat, g.2.1 / 2 = (p : Int) := ⟨(g.2.1 / 2).toNat, by omega⟩
              have hd1 : Int.tdiv g.2.1 2 = (p1 : Int) := by rw [Int.tdiv_eq_ediv_of_nonneg (by omega), hp1]
              have hwd1 : IntKind.i64.wrap (p1 : Int) = (p1 : Int) := IntWalk.i64_in _ (by omega)
              have hmm1 : Int.tmod g.2.1 2 = g.2.1 % 2 := Int.tmod_eq_emod_of_nonneg (by omega)
              have hwm1 : IntKind.i64.wrap (g.2.1 % 2) = g.2.1 % 2 := IntWalk.i64_in _ (by omega)
              obtain ⟨b1, hb1⟩ : ∃ b, (g.2.1 % 2 == 0) = b := ⟨_, rfl⟩
              obtain ⟨z1, hz1⟩ : ∃ z, kn[p1]? = some z := ⟨_, List.getElem?_eq_getElem (by rw [HKN.out.2]; omega)⟩
              obtain ⟨bk1, ok1, ek1, xk1⟩ := HKA.out.at hz1
              have hlv1 : litV kn g.2.1 = (z1 == b1) := by rw [lit_eq (by omega) (by rw [hp1]; exact hz1), hb1]
              have hpl1 : (p1 : Int) < (k : Int) := by omega
              have hp01 : (0 : Int) ≤ (p1 : Int) := by omega
              clear hz1 hp1
              obtain ⟨p2, hp2⟩ : ∃ p : Nat, g.2.2 / 2 = (p : Int) := ⟨(g.2.2 / 2).toNat, by omega⟩
              have hd2 : Int.tdiv g.2.2 2 = (p2 : Int) := by rw [Int.tdiv_eq_ediv_of_nonneg (by omega), hp2]
              have hwd2 : IntKind.i64.wrap (p2 : Int) = (p2 : Int) := IntWalk.i64_in _ (by omega)
              have hmm2 : Int.tmod g.2.2 2 = g.2.2 % 2 := Int.tmod_eq_emod_of_nonneg (by omega)
              have hwm2 : IntKind.i64.wrap (g.2.2 % 2) = g.2.2 % 2 := IntWalk.i64_in _ (by omega)
              obtain ⟨b2, hb2⟩ : ∃ b, (g.2.2 % 2 == 0) = b := ⟨_, rfl⟩
              obtain ⟨z2, hz2⟩ : ∃ z, kn[p2]? = some z := ⟨_, List.getElem?_eq_getElem (by rw [HKN.out.2]; omega)⟩
              obtain ⟨bk2, ok2, ek2, xk2⟩ := HKA.out.at hz2
              have hlv2 : litV kn g.2.2 = (z2 == b2) := by rw [lit_eq (by omega) (by rw [hp2]; exact hz2), hb2]
              have hpl2 : (p2 : Int) < (k : Int) := by omega
              have hp02 : (0 : Int) ≤ (p2 : Int) := by omega
              clear hz2 hp2
              cases ek1
              cases ek2
              have hgv : gateV vals kn g = (litV kn g.2.1 && litV kn g.2.2) := by unfold gateV; rw [if_neg hK1, if_pos hK2]
              rw [hlv1, hlv2] at hgv
              clear hlv1 hlv2 hK1 hK2 hF
              obtain ⟨u, hu⟩ : ∃ u, (z1 == b1) = u := ⟨_, rfl⟩
              obtain ⟨u2', hu2⟩ : ∃ u, (z2 == b2) = u := ⟨_, rfl⟩
              rw [hu, hu2] at hgv
              cases u
              case false =>
                have HX := Lib.hid (show gateV vals kn g = false by rw [hgv]; rfl)
                clear hgv
                have HKQ := Lib.hid (And.intro xk1 xk2)
                go_wp2_with fail
                go_quiet (fail)
                have y := HY.out.grown (grown_drewN wA nq none)
                obtain ⟨yy0, yy1, yy2⟩ := y
                obtain ⟨xa, xb⟩ := HKQ.out
                have xa2 := World.grownBy.cell (grown_drewN wA nq none) xa (by simp)
                have xb2 := World.grownBy.cell (grown_drewN wA nq none) xb (by simp)
                clear y0 y1 y2 xk1 xk2 xa xb
                have HOB0 := Lib.hid (own_grown HOA.out (grown_drewN wA nq none))
                have HGB0 := Lib.hid (World.grownBy.trans (World.grownBy.trans HGR.out HGA.out) (grown_drewN wA nq none))
                obtain ⟨wB, hwB⟩ : ∃ z, wA.drewN nq = z := ⟨_, rfl⟩
                rw [hwB] at HOB0 HGB0 yy0 yy1 yy2 xa2 xb2 ⊢
                clear hwB
                go_wp2_with fail
                go_quiet (fail)
                clear yy0 yy1 yy2 xa2 xb2
                have HOB := Lib.hid (own_grown HOB0.out (grown_drewN wB nq none))
                have HGB := Lib.hid (World.grownBy.trans HGB0.out (grown_drewN wB nq none))
                obtain ⟨wC, hwC⟩ : ∃ z, wB.drewN nq = z := ⟨_, rfl⟩
                rw [hwC] at HOB HGB ⊢
                clear hwC
                have HLB := Lib.hid (show W1.heap.size ≤ wC.heap.size from HGB.out.size)
                go_wp2_with (at_builtin; refine wpList_append_own_at _ rfl _ _ 23 rfl W1.heap.size 4 i0 (.bool false) 1 1 Tryd.underlying23 hi0 hz0 hz1 hz2 rfl (by decide) _ k (boolCells kn) rfl (HOB.out.alloc _) ⟨wC.heap.size, 0, none⟩ 1 1 [.bool false] rfl rfl (cell_one_new _ _ _) (fun u hu => by simp at hu; subst hu; rfl) (by unfold maxLen; omega) (by omega) (by have := HLB.out; simp; omega) ?_)
                intro v' w6 hown' hgrow6 _ hat6
                have haA := World.grownBy_alloc wC (.cells #[.bool false] 4) none
                obtain ⟨rgA, rcA, rfl⟩ := own_shape hown'
                have HGF := Lib.hid (grown_own (World.grownBy.trans HGB.out haA) hgrow6 (fun j e => ((HOB.out.alloc (.cells #[.bool false] 4)).lt j e).1))
                have HOF := Lib.hid (show w6.ownsRow W1.heap.size 4 1 (.slice rgA (k + 1) rcA) (k + 1) (boolCells (kn ++ [gateV vals kn g])) by rw [HX.out, boolCells, List.map_append]; exact hown')
                clear hown' hgrow6 haA hat6
                go_wp2_with fail
                go_roundg (q + 1 - (k + 1))
                case measure => rw [HI.out]; omega
                case rel => exact ⟨k + 1, rgA, rcA, rfl, rfl, rfl, by omega, by rw [HST.out]; exact HOF.out, HGF.out⟩
              case true =>
                have HX := Lib.hid (show gateV vals kn g = u2' by rw [hgv]; rfl)
                clear hgv
                have HKQ := Lib.hid (And.intro xk1 xk2)
                go_wp2_with fail
                go_quiet (fail)
                have y := HY.out.grown (grown_drewN wA nq none)
                obtain ⟨yy0, yy1, yy2⟩ := y
                obtain ⟨xa, xb⟩ := HKQ.out
                have xa2 := World.grownBy.cell (grown_drewN wA nq none) xa (by simp)
                have xb2 := World.grownBy.cell (grown_drewN wA nq none) xb (by simp)
                clear y0 y1 y2 xk1 xk2 xa xb
                have HOB0 := Lib.hid (own_grown HOA.out (grown_drewN wA nq none))
                have HGB0 := Lib.hid (World.grownBy.trans (World.grownBy.trans HGR.out HGA.out) (grown_drewN wA nq none))
                obtain ⟨wB, hwB⟩ : ∃ z, wA.drewN nq = z := ⟨_, rfl⟩
                rw [hwB] at HOB0 HGB0 yy0 yy1 yy2 xa2 xb2 ⊢
                clear hwB
                go_wp2_with fail
                go_quiet (fail)
                clear yy0 yy1 yy2 xa2 xb2
                have HOB := Lib.hid (own_grown HOB0.out (grown_drewN wB nq none))
                have HGB := Lib.hid (World.grownBy.trans HGB0.out (grown_drewN wB nq none))
                obtain ⟨wC, hwC⟩ : ∃ z, wB.drewN nq = z := ⟨_, rfl⟩
                rw [hwC] at HOB HGB ⊢
                clear hwC
                have HLB := Lib.hid (show W1.heap.size ≤ wC.heap.size from HGB.out.size)
                go_wp2_with (at_builtin; refine wpList_append_own_at _ rfl _ _ 23 rfl W1.heap.size 4 i0 (.bool false) 1 1 Tryd.underlying23 hi0 hz0 hz1 hz2 rfl (by decide) _ k (boolCells kn) rfl (HOB.out.alloc _) ⟨wC.heap.size, 0, none⟩ 1 1 [.bool u2'] rfl rfl (cell_one_new _ _ _) (fun u hu => by simp at hu; subst hu; rfl) (by unfold maxLen; omega) (by omega) (by have := HLB.out; simp; omega) ?_)
                intro v' w6 hown' hgrow6 _ hat6
                have haA := World.grownBy_alloc wC (.cells #[.bool u2'] 4) none
                obtain ⟨rgA, rcA, rfl⟩ := own_shape hown'
                have HGF := Lib.hid (grown_own (World.grownBy.trans HGB.out haA) hgrow6 (fun j e => ((HOB.out.alloc (.cells #[.bool u2'] 4)).lt j e).1))
                have HOF := Lib.hid (show w6.ownsRow W1.heap.size 4 1 (.slice rgA (k + 1) rcA) (k + 1) (boolCells (kn ++ [gateV vals kn g])) by rw [HX.out, boolCells, List.map_append]; exact hown')
                clear hown' hgrow6 haA hat6
                go_wp2_with fail
                go_roundg (q + 1 - (k + 1))
                case measure => rw [HI.out]; omega
                case rel => exact ⟨k + 1, rgA, rcA, rfl, rfl, rfl, by omega, by rw [HST.out]; exact HOF.out, HGF.out⟩
            · have e2 := beqF hK2
              have HX := Lib.hid (show gateV vals kn g = true by unfold gateV; rw [if_neg hK1, if_neg hK2])
              clear hK1 hK2
              have HOB := HOA
              have HLB := HLT
              have HGB := Lib.hid (World.grownBy.trans HGR.out HGA.out)
              go_wp2_with (at_builtin; refine wpList_append_own_at _ rfl _ _ 23 rfl W1.heap.size 4 i0 (.bool false) 1 1 Tryd.underlying23 hi0 hz0 hz1 hz2 rfl (by decide) _ k (boolCells kn) rfl (HOB.out.alloc _) ⟨wA.heap.size, 0, none⟩ 1 1 [.bool true] rfl rfl (cell_one_new _ _ _) (fun u hu => by simp at hu; subst hu; rfl) (by unfold maxLen; omega) (by omega) (by have := HLB.out; simp; omega) ?_)
              intro v' w6 hown' hgrow6 _ hat6
              have haA := World.grownBy_alloc wA (.cells #[.bool true] 4) none
              obtain ⟨rgA, rcA, rfl⟩ := own_shape hown'
              have HGF := Lib.hid (grown_own (World.grownBy.trans HGB.out haA) hgrow6 (fun j e => ((HOB.out.alloc (.cells #[.bool true] 4)).lt j e).1))
              have HOF := Lib.hid (show w6.ownsRow W1.heap.size 4 1 (.slice rgA (k + 1) rcA) (k + 1) (boolCells (kn ++ [gateV vals kn g])) by rw [HX.out, boolCells, List.map_append]; exact hown')
              clear hown' hgrow6 haA hat6
              go_wp2_with fail
              go_roundg (q + 1 - (k + 1))
              case measure => rw [HI.out]; omega
              case rel => exact ⟨k + 1, rgA, rcA, rfl, rfl, rfl, by omega, by rw [HST.out]; exact HOF.out, HGF.out⟩
        · have f1 : decide (k ≤ q) = false := decide_eq_false hkq
          have f2 : decide ((k : Int) ≤ (q : Int)) = false := decide_eq_false (by omega)
          have hkE : k = q + 1 := by omega
          obtain ⟨z, hz⟩ : ∃ z, kn[q]? = some z := ⟨_, List.getElem?_eq_getElem (by rw [HKN.out.2]; omega)⟩
          obtain ⟨bk, ok, rfl, xz⟩ := HKB.out.at hz
          have HF := Lib.hid (show evalC gs vals r = (z == q0) from by rw [HR.out.1, ← hkE, HKN.out.1, lit_eq HR.out.2.2 (by rw [HR.out.2.1]; exact hz), HQ0.out])
          have hqk : (q : Int) < (k : Int) := by omega
          have hq00 : (0 : Int) ≤ (q : Int) := by omega
          clear hkE hz hkq
          go_wp2_with fail
          go_ret
          exact ⟨by rw [HF.out]; rfl, World.grownBy.trans HG.out HGR.out⟩
end Go.Proofs.YthkjjiijjedipaaDoor
