/- Is a circuit well-formed? -/
import Derived.Test.YtllljcbdinckgaaH1
import Derived.Test.YtllljcbdinckgaaG5
import Derived.Carry
namespace Go.Proofs.Ytllljcbdinckgaa
open Go.RowKit Go.Maps

/-- The store into a set of gates. -/
theorem wpList_setG {ops : Array Oper} {rest : List Oper} {o : Oper} {a : Act} {Q : Exit → Act → World → Prop} {w : World} (hg : o.guard = none) (m x : Operand) (hop : o.op = Op.mapUpdate 57 m x (.const (.bool true)))
    (b : Nat) (S : List Gt) (hm : a.eval m = .map (some b)) (hown : SetG w b S) (hl : S.length ≤ 1000000) (k : Gt) (hx : a.eval x = gv k) (hk : WfG k)
    (hK : ∀ w', SetG w' b (S ++ [k]) → w.grownBy w' (some b) → wpList Try.prog ops Q rest (a.put o.dst undef) w') : wpList Try.prog ops Q (o :: rest) a w := by
  refine wpList_plain hg fun K' hK' => ?_
  obtain ⟨w', hr, h2, h3⟩ := hown.store hl hk
  unfold Oper.wp
  have hv : a.eval (.const (.bool true)) = .bool true := rfl
  simp [execOp, hop, hm, hx, hv, hr, Result.andThen]
  exact hK' _ _ (hK w' h2 h3)
theorem SetG.lt {w : World} {b : Nat} {S : List Gt} (h : SetG w b S) : b < w.heap.size := by
  obtain ⟨D, hD, _⟩ := h
  exact hD.lt
/-- The gates from 1 on that have been looked at. -/
structure GoodTo (gs : List Gt) (k : Nat) : Prop where
  form : ∀ (i : Nat) (g : Gt), i < k → gs[i + 1]? = some g → formG g (i + 1)
  one : ∀ (i j : Nat) (g : Gt), i < k → j < k → gs[i + 1]? = some g → gs[j + 1]? = some g → i = j
theorem GoodTo.start (gs : List Gt) : GoodTo gs 0 := ⟨fun i g h => by omega, fun i j g h => by omega⟩
theorem GoodTo.good {gs : List Gt} (h0 : gs[0]? = some (0, 0, 0)) {k : Nat} (hk : gs.length = k + 1) (h : GoodTo gs k) : Good gs := by
  have hpos : ∀ (i : Nat) (g : Gt), gs[i]? = some g → i < k + 1 := fun i g e => by have := (List.getElem?_eq_some_iff.1 e).1; omega
  have hne : ∀ (i : Nat) (g : Gt), i < k → gs[i + 1]? = some g → gs[0]? = some g → False := fun i g hi e e0 => by
    rw [h0] at e0; cases e0
    rcases h.form i _ hi e with h1 | h1 <;> simp at h1
  refine ⟨h0, fun i g hi e => ?_, fun i j g h1 h2 => ?_⟩
  · obtain ⟨i', rfl⟩ : ∃ i', i = i' + 1 := ⟨i - 1, by omega⟩
    exact h.form i' g (by have := hpos _ _ e; omega) e
  · have b1 := hpos _ _ h1
    have b2 := hpos _ _ h2
    cases i with
    | zero =>
      cases j with
      | zero => rfl
      | succ j => exact (hne j g (by omega) h2 h1).elim
    | succ i =>
      cases j with
      | zero => exact (hne i g (by omega) h1 h2).elim
      | succ j => rw [h.one i j g (by omega) (by omega) h1 h2]
theorem GoodTo.of {gs : List Gt} (h : Good gs) (k : Nat) : GoodTo gs k :=
  ⟨fun i g _ e => h.form (i + 1) g (by omega) e, fun i j g _ _ h1 h2 => by have := h.one _ _ _ h1 h2; omega⟩
theorem GoodTo.step {gs : List Gt} {k : Nat} {g : Gt} (h : GoodTo gs k) (hg : gs[k + 1]? = some g) (hf : formG g (k + 1)) (hn : g ∉ (gs.drop 1).take k) : GoodTo gs (k + 1) := by
  have hin : ∀ j, j < k → gs[j + 1]? = some g → False := fun j hj e => hn (List.mem_of_getElem? (show ((gs.drop 1).take k)[j]? = some g by rw [List.getElem?_take_of_lt hj, List.getElem?_drop, Nat.add_comm 1 j]; exact e))
  refine ⟨fun i g' hi e => ?_, fun i j g' hi hj h1 h2 => ?_⟩
  · by_cases hik : i = k
    · subst hik; rw [hg] at e; cases e; exact hf
    · exact h.form i g' (by omega) e
  · by_cases hik : i = k
    · subst hik
      rw [hg] at h1; cases h1
      by_cases hjk : j = i
      · exact hjk.symm
      · exact (hin j (by omega) h2).elim
    · by_cases hjk : j = k
      · subst hjk
        rw [hg] at h2; cases h2
        exact (hin i (by omega) h1).elim
      · exact h.one i j g' (by omega) (by omega) h1 h2

set_option maxRecDepth 100000 in
set_option maxHeartbeats 4000000 in
theorem valid_calls (gs : List Gt) (a : Option Addr) (c : Nat) (w : World) (h : GatesR w a c gs) (hl : gs.length ≤ 2000) (hwf : ∀ g ∈ gs, WfG g) :
    Calls Try.prog 21 #[.agg #[.slice a gs.length c]] w fun e w' => ∃ b, e = .returned (.bool b) ∧ (b = true ↔ Good gs) ∧ w.grownBy w' none := by
  obtain ⟨n, hn⟩ : ∃ n, gs.length = n := ⟨_, rfl⟩
  have hg1 := World.grownBy_alloc w (.cells #[.slice a n c] 25) none
  have e1 := one_cell w (.slice a n c) 25
  obtain ⟨W1, hW1⟩ : ∃ W, w.alloc (.cells #[.slice a n c] 25) = W := ⟨_, rfl⟩
  rw [hW1] at hg1 e1
  have q1 := e1.2.1
  have HQ := Lib.hid q1
  have HG := Lib.hid hg1
  have HA := Lib.hid (h.grown hg1)
  have HN := Lib.hid hn
  have HWF := Lib.hid hwf
  have HC := Lib.hid h.1
  rw [hn] at hl ⊢
  clear h hg1 e1 hn hwf
  cases n with
  | zero =>
    have f1 : decide (((0 : Nat) : Int) < 1) = true := by decide
    go_enter Try.func21, Try.ntmps21
    go_wp2_with fail
    go_step3
    go_wp2_with fail
    rw [Exit.noGoto_ret]
    go_ret
    exact ⟨false, rfl, ⟨fun h => (by cases h), fun hG => by have := hG.pos; have := HN.out; omega⟩, HG.out⟩
  | succ m =>
    have f1 : decide (((m + 1 : Nat) : Int) < 1) = false := decide_eq_false (by omega)
    have f1b : decide ((m : Int) + 1 < 1) = false := decide_eq_false (by omega)
    have f2 : decide ((20000 : Int) < ((m + 1 : Nat) : Int)) = false := decide_eq_false (by omega)
    have f2b : decide (20000 < m + 1) = false := decide_eq_false (by omega)
    obtain ⟨g0, hg0⟩ : ∃ g, gs[0]? = some g := ⟨_, List.getElem?_eq_getElem (by rw [HN.out]; omega)⟩
    obtain ⟨ba, oa, rfl, x0, x1, x2⟩ := HA.out.at hg0
    have hc1 : (1 : Nat) ≤ c := by have := HC.out; have := HN.out; omega
    simp only [Nat.zero_mul, Nat.add_zero] at x0 x1 x2
    by_cases hz : g0 = (0, 0, 0)
    · have he : ∀ U : World, (Op.equalIn 10000 47 (.agg #[.int .i64 g0.1, .int .i64 g0.2.1, .int .i64 g0.2.2]) (.agg #[.int .i64 0, .int .i64 0, .int .i64 0])).run Try.prog U = .ok true U := fun U => by have := eq47 g0 (0, 0, 0) U; rw [decide_eq_true hz] at this; exact this
      have HZ := Lib.hid hz; clear hz
      have hm1 : IntKind.i64.wrap 1 = 1 := rfl
      have hmk := @run_makeMap Try.prog
      go_enter Try.func21, Try.ntmps21
      go_wp2_with fail
      go_step3
      go_wp2_with fail
      have HSET0 := Lib.hid (SetG.made W1)
      have hga2 := World.grownBy_alloc W1 (.map #[] 0) none
      have q2 := hga2.cell q1 (by simp)
      have HB0 := Lib.hid (show W1.heap.size < (W1.alloc (.map #[] 0)).heap.size by simp)
      obtain ⟨W2, hW2⟩ : ∃ W, W1.alloc (.map #[] 0) = W := ⟨_, rfl⟩
      rw [hW2] at hga2 q2 HSET0 HB0 ⊢
      have HG2 := Lib.hid hga2
      clear hga2 hW2 hW1 q1 x0 x1 x2 he hmk
      by_cases hcc : c = 1
      · have hm0 : m = 0 := by have := HC.out; have := HN.out; omega
        subst hm0
        have HGG := Lib.hid (GoodTo.good (by rw [hg0, HZ.out]) (by rw [HN.out]) (GoodTo.start gs))
        have h01 : decide ((0 : Int) < ((0 : Nat) : Int)) = false := by decide
        go_step3
        go_wp2_with fail
        go_loopg [29] 0 (fun g s wr => s = .int .i64 ((0 : Nat) : Int) ∧ g = 0 ∧ W2.grownBy wr none)
        case atStart => exact ⟨rfl, rfl, grown_refl _ _⟩
        case round =>
          obtain ⟨rfl, hgk, hgr⟩ := hrel
          go_wp2_with fail
          rw [Exit.noGoto_ret]
          go_ret
          exact ⟨true, rfl, ⟨fun _ => HGG.out, fun _ => rfl⟩, World.grownBy.trans HG.out (World.grownBy.trans HG2.out hgr)⟩
      · obtain ⟨bm, hbm⟩ : ∃ b, W1.heap.size = b := ⟨_, rfl⟩
        rw [hbm] at HSET0 HB0 ⊢
        have HBM := Lib.hid hbm; clear hbm
        go_step3
        go_wp2_with fail
        clear q2 hcc f1 f1b f2 f2b
        go_loopg [29] m (fun g s wr => ∃ k : Nat, s = .int .i64 (k : Int) ∧ g = m - k ∧ k ≤ m ∧ GoodTo gs k ∧ SetG wr bm ((gs.drop 1).take k) ∧ W1.grownBy wr none ∧ bm < wr.heap.size)
        case atStart => exact ⟨0, rfl, rfl, Nat.zero_le _, GoodTo.start gs, HSET0.out, HG2.out, HB0.out⟩
        case round =>
          obtain ⟨k, rfl, hgk, hk, hgt, hset, hgr, hbw⟩ := hrel
          have HI := Lib.hid (And.intro hgk hgt); clear hgk hgt
          have HSET := Lib.hid hset; clear hset
          have HGR := Lib.hid hgr; clear hgr
          have HBW := Lib.hid hbw; clear hbw
          by_cases hkm : k < m
          · have f1 : decide (k < m) = true := decide_eq_true hkm
            have hk1 : IntKind.i64.wrap ((k : Int) + 1) = ((k + 1 : Nat) : Int) := by rw [IntWalk.i64_in _ (by omega)]; omega
            have hk2 : IntKind.i64.wrap (2 * ((k : Int) + 1)) = 2 * ((k : Int) + 1) := IntWalk.i64_in _ (by omega)
            have hjn : (k : Int) < (m : Int) := by omega
            have hj0 : (0 : Int) ≤ (k : Int) := by omega
            obtain ⟨g, hg⟩ : ∃ g, gs[k + 1]? = some g := ⟨_, List.getElem?_eq_getElem (by rw [HN.out]; omega)⟩
            obtain ⟨b', o', e', hga⟩ := (HA.out.grown HGR.out).at hg
            cases e'
            have hpos : oa + (k + 1) * 3 = oa + 3 + k * 3 := by omega
            rw [hpos] at hga
            obtain ⟨x0, x1, x2⟩ := hga
            clear hpos
            have HWG := Lib.hid (HWF.out g (List.mem_of_getElem? hg))
            have HGK := Lib.hid hg; clear hg
            have hgc := gate_cells wr g
            have hga2 := World.grownBy_alloc wr (.cells #[.int .i64 g.1, .int .i64 g.2.1, .int .i64 g.2.2] 47) none
            obtain ⟨wA, hwA⟩ : ∃ W, wr.alloc (.cells #[.int .i64 g.1, .int .i64 g.2.1, .int .i64 g.2.2] 47) = W := ⟨_, rfl⟩
            rw [hwA] at hgc hga2
            have HSA := Lib.hid (HSET.out.grown hga2)
            have HGA := Lib.hid hga2
            have hlk := HSA.out.look HWG.out
            obtain ⟨y0, y1, y2⟩ := hgc
            have HY := Lib.hid (show GateAt wA wr.heap.size 0 g from ⟨y0, y1, y2⟩)
            clear hga2
            by_cases hin : g ∈ (gs.drop 1).take k
            · rw [decide_eq_true hin] at hlk
              have HNG := Lib.hid (show ¬ Good gs from fun hG => by
                obtain ⟨j, hj⟩ := List.mem_iff_getElem?.1 hin
                have hjk : j < k := by have := (List.getElem?_eq_some_iff.1 hj).1; rw [List.length_take] at this; omega
                rw [List.getElem?_take_of_lt hjk, List.getElem?_drop] at hj
                have := hG.one _ _ _ hj HGK.out
                omega)
              clear hin
              go_wp2_with fail
              rw [Exit.noGoto_ret]
              go_ret
              exact ⟨false, rfl, ⟨fun h => (by cases h), fun hG => (HNG.out hG).elim⟩, World.grownBy.trans HG.out (World.grownBy.trans HGR.out HGA.out)⟩
            · rw [decide_eq_false hin] at hlk
              have HIN := Lib.hid hin; clear hin
              have hk3 : IntKind.i64.wrap (2 * ((k + 1 : Nat) : Int)) = 2 * ((k + 1 : Nat) : Int) := IntWalk.i64_in _ (by omega)
              by_cases c1 : g.1 = 1
              · have e1 := beqT c1
                have e2 : (g.1 == 2) = false := beqF (by omega)
                by_cases c2 : 1 ≤ g.2.1
                · have e3 : decide (1 ≤ g.2.1) = true := decide_eq_true c2
                  by_cases c3 : g.2.1 ≤ 20000
                  · have e4 : decide (g.2.1 ≤ 20000) = true := decide_eq_true c3
                    by_cases c4 : g.2.2 = 0
                    · have e5 := beqT c4
                      have HF := Lib.hid (show formG g (k + 1) from .inl ⟨c1, c2, c3, c4⟩)
                      have HT := Lib.hid (show (gs.drop 1).take k ++ [g] = (gs.drop 1).take (k + 1) by rw [List.take_add_one, List.getElem?_drop, Nat.add_comm 1 k, HGK.out]; rfl)
                      clear c1 c2 c3 c4
                      go_wp2_with (at_mapUpdate; refine wpList_setG rfl _ _ rfl bm ((gs.drop 1).take k) rfl HSA.out (by rw [List.length_take]; omega) g rfl HWG.out ?_; intro w6 hset6 hgr6; obtain ⟨z0, z1, z2⟩ := HY.out.moved hgr6 (fun e => by injection e with e; have := HBW.out; omega); have HE := Lib.hid (And.intro hset6 (grown_own (World.grownBy.trans HGR.out HGA.out) hgr6 (fun k e => by cases e; have := HBM.out; omega))); clear hset6 hgr6)
                      go_roundg (m - (k + 1))
                      case measure => rw [HI.out.1]; omega
                      case rel => exact ⟨k + 1, rfl, rfl, by omega, HI.out.2.step HGK.out HF.out HIN.out, by rw [← HT.out]; exact HE.out.1, HE.out.2, by have h1 := HE.out.2.size; have h2 := HBM.out; have h3 := SetG.lt HE.out.1; omega⟩
                    · have e5 := beqF c4
                      have HNF := Lib.hid (show ¬ formG g (k + 1) from (by unfold formG; omega))
                      clear c1 c2 c3 c4
                      go_wp2_with (at_mapUpdate; refine wpList_setG rfl _ _ rfl bm ((gs.drop 1).take k) rfl HSA.out (by rw [List.length_take]; omega) g rfl HWG.out ?_; intro w6 hset6 hgr6; obtain ⟨z0, z1, z2⟩ := HY.out.moved hgr6 (fun e => by injection e with e; have := HBW.out; omega); have HE := Lib.hid (And.intro hset6 (grown_own (World.grownBy.trans HGR.out HGA.out) hgr6 (fun k e => by cases e; have := HBM.out; omega))); clear hset6 hgr6)
                      rw [Exit.noGoto_ret]
                      go_ret
                      exact ⟨false, rfl, ⟨fun h => (by cases h), fun hG => (HNF.out (hG.form (k + 1) g (by omega) HGK.out)).elim⟩, World.grownBy.trans HG.out HE.out.2⟩
                  · have e4 : decide (g.2.1 ≤ 20000) = false := decide_eq_false c3
                    have HNF := Lib.hid (show ¬ formG g (k + 1) from (by unfold formG; omega))
                    clear c1 c2 c3
                    go_wp2_with (at_mapUpdate; refine wpList_setG rfl _ _ rfl bm ((gs.drop 1).take k) rfl HSA.out (by rw [List.length_take]; omega) g rfl HWG.out ?_; intro w6 hset6 hgr6; obtain ⟨z0, z1, z2⟩ := HY.out.moved hgr6 (fun e => by injection e with e; have := HBW.out; omega); have HE := Lib.hid (And.intro hset6 (grown_own (World.grownBy.trans HGR.out HGA.out) hgr6 (fun k e => by cases e; have := HBM.out; omega))); clear hset6 hgr6)
                    rw [Exit.noGoto_ret]
                    go_ret
                    exact ⟨false, rfl, ⟨fun h => (by cases h), fun hG => (HNF.out (hG.form (k + 1) g (by omega) HGK.out)).elim⟩, World.grownBy.trans HG.out HE.out.2⟩
                · have e3 : decide (1 ≤ g.2.1) = false := decide_eq_false c2
                  have HNF := Lib.hid (show ¬ formG g (k + 1) from (by unfold formG; omega))
                  clear c1 c2
                  go_wp2_with (at_mapUpdate; refine wpList_setG rfl _ _ rfl bm ((gs.drop 1).take k) rfl HSA.out (by rw [List.length_take]; omega) g rfl HWG.out ?_; intro w6 hset6 hgr6; obtain ⟨z0, z1, z2⟩ := HY.out.moved hgr6 (fun e => by injection e with e; have := HBW.out; omega); have HE := Lib.hid (And.intro hset6 (grown_own (World.grownBy.trans HGR.out HGA.out) hgr6 (fun k e => by cases e; have := HBM.out; omega))); clear hset6 hgr6)
                  rw [Exit.noGoto_ret]
                  go_ret
                  exact ⟨false, rfl, ⟨fun h => (by cases h), fun hG => (HNF.out (hG.form (k + 1) g (by omega) HGK.out)).elim⟩, World.grownBy.trans HG.out HE.out.2⟩
              · have e1 := beqF c1
                by_cases d1 : g.1 = 2
                · have e2 := beqT d1
                  by_cases d2 : 2 ≤ g.2.1
                  · have e3 : decide (2 ≤ g.2.1) = true := decide_eq_true d2
                    by_cases d3 : g.2.1 < g.2.2
                    · have e4 : decide (g.2.1 < g.2.2) = true := decide_eq_true d3
                      by_cases d4 : g.2.2 < 2 * ((k : Int) + 1)
                      · have e5 : decide (g.2.2 < 2 * ((k : Int) + 1)) = true := decide_eq_true d4
                        have hqa : Int.tdiv g.2.1 2 = g.2.1 / 2 := Int.tdiv_eq_ediv_of_nonneg (by omega)
                        have hqb : Int.tdiv g.2.2 2 = g.2.2 / 2 := Int.tdiv_eq_ediv_of_nonneg (by omega)
                        have hwa : IntKind.i64.wrap (g.2.1 / 2) = g.2.1 / 2 := IntWalk.i64_in _ (by omega)
                        have hwb : IntKind.i64.wrap (g.2.2 / 2) = g.2.2 / 2 := IntWalk.i64_in _ (by omega)
                        have HFD := Lib.hid (And.intro d1 (And.intro d2 (And.intro d3 d4)))
                        by_cases d5 : g.2.1 / 2 = g.2.2 / 2
                        · have e6 := beqT d5
                          have HNF := Lib.hid (show ¬ formG g (k + 1) from (by unfold formG; omega))
                          clear c1 d1 d2 d3 d4 d5
                          go_wp2_with (at_mapUpdate; refine wpList_setG rfl _ _ rfl bm ((gs.drop 1).take k) rfl HSA.out (by rw [List.length_take]; omega) g rfl HWG.out ?_; intro w6 hset6 hgr6; obtain ⟨z0, z1, z2⟩ := HY.out.moved hgr6 (fun e => by injection e with e; have := HBW.out; omega); have HE := Lib.hid (And.intro hset6 (grown_own (World.grownBy.trans HGR.out HGA.out) hgr6 (fun k e => by cases e; have := HBM.out; omega))); clear hset6 hgr6)
                          rw [Exit.noGoto_ret]
                          go_ret
                          exact ⟨false, rfl, ⟨fun h => (by cases h), fun hG => (HNF.out (hG.form (k + 1) g (by omega) HGK.out)).elim⟩, World.grownBy.trans HG.out HE.out.2⟩
                        · have e6 := beqF d5
                          have HF := Lib.hid (show formG g (k + 1) from .inr ⟨d1, d2, d3, by omega, d5⟩)
                          have HT := Lib.hid (show (gs.drop 1).take k ++ [g] = (gs.drop 1).take (k + 1) by rw [List.take_add_one, List.getElem?_drop, Nat.add_comm 1 k, HGK.out]; rfl)
                          clear c1 d1 d2 d3 d4 d5
                          go_wp2_with (at_mapUpdate; refine wpList_setG rfl _ _ rfl bm ((gs.drop 1).take k) rfl HSA.out (by rw [List.length_take]; omega) g rfl HWG.out ?_; intro w6 hset6 hgr6; obtain ⟨z0, z1, z2⟩ := HY.out.moved hgr6 (fun e => by injection e with e; have := HBW.out; omega); have HE := Lib.hid (And.intro hset6 (grown_own (World.grownBy.trans HGR.out HGA.out) hgr6 (fun k e => by cases e; have := HBM.out; omega))); clear hset6 hgr6)
                          go_roundg (m - (k + 1))
                          case measure => rw [HI.out.1]; omega
                          case rel => exact ⟨k + 1, rfl, rfl, by omega, HI.out.2.step HGK.out HF.out HIN.out, by rw [← HT.out]; exact HE.out.1, HE.out.2, by have h1 := HE.out.2.size; have h2 := HBM.out; have h3 := SetG.lt HE.out.1; omega⟩
                      · have e5 : decide (g.2.2 < 2 * ((k : Int) + 1)) = false := decide_eq_false d4
                        have HNF := Lib.hid (show ¬ formG g (k + 1) from (by unfold formG; omega))
                        clear c1 d1 d2 d3 d4
                        go_wp2_with (at_mapUpdate; refine wpList_setG rfl _ _ rfl bm ((gs.drop 1).take k) rfl HSA.out (by rw [List.length_take]; omega) g rfl HWG.out ?_; intro w6 hset6 hgr6; obtain ⟨z0, z1, z2⟩ := HY.out.moved hgr6 (fun e => by injection e with e; have := HBW.out; omega); have HE := Lib.hid (And.intro hset6 (grown_own (World.grownBy.trans HGR.out HGA.out) hgr6 (fun k e => by cases e; have := HBM.out; omega))); clear hset6 hgr6)
                        rw [Exit.noGoto_ret]
                        go_ret
                        exact ⟨false, rfl, ⟨fun h => (by cases h), fun hG => (HNF.out (hG.form (k + 1) g (by omega) HGK.out)).elim⟩, World.grownBy.trans HG.out HE.out.2⟩
                    · have e4 : decide (g.2.1 < g.2.2) = false := decide_eq_false d3
                      have HNF := Lib.hid (show ¬ formG g (k + 1) from (by unfold formG; omega))
                      clear c1 d1 d2 d3
                      go_wp2_with (at_mapUpdate; refine wpList_setG rfl _ _ rfl bm ((gs.drop 1).take k) rfl HSA.out (by rw [List.length_take]; omega) g rfl HWG.out ?_; intro w6 hset6 hgr6; obtain ⟨z0, z1, z2⟩ := HY.out.moved hgr6 (fun e => by injection e with e; have := HBW.out; omega); have HE := Lib.hid (And.intro hset6 (grown_own (World.grownBy.trans HGR.out HGA.out) hgr6 (fun k e => by cases e; have := HBM.out; omega))); clear hset6 hgr6)
                      rw [Exit.noGoto_ret]
                      go_ret
                      exact ⟨false, rfl, ⟨fun h => (by cases h), fun hG => (HNF.out (hG.form (k + 1) g (by omega) HGK.out)).elim⟩, World.grownBy.trans HG.out HE.out.2⟩
                  · have e3 : decide (2 ≤ g.2.1) = false := decide_eq_false d2
                    have HNF := Lib.hid (show ¬ formG g (k + 1) from (by unfold formG; omega))
                    clear c1 d1 d2
                    go_wp2_with (at_mapUpdate; refine wpList_setG rfl _ _ rfl bm ((gs.drop 1).take k) rfl HSA.out (by rw [List.length_take]; omega) g rfl HWG.out ?_; intro w6 hset6 hgr6; obtain ⟨z0, z1, z2⟩ := HY.out.moved hgr6 (fun e => by injection e with e; have := HBW.out; omega); have HE := Lib.hid (And.intro hset6 (grown_own (World.grownBy.trans HGR.out HGA.out) hgr6 (fun k e => by cases e; have := HBM.out; omega))); clear hset6 hgr6)
                    rw [Exit.noGoto_ret]
                    go_ret
                    exact ⟨false, rfl, ⟨fun h => (by cases h), fun hG => (HNF.out (hG.form (k + 1) g (by omega) HGK.out)).elim⟩, World.grownBy.trans HG.out HE.out.2⟩
                · have e2 := beqF d1
                  have HNF := Lib.hid (show ¬ formG g (k + 1) from (by unfold formG; omega))
                  clear c1 d1
                  go_wp2_with (at_mapUpdate; refine wpList_setG rfl _ _ rfl bm ((gs.drop 1).take k) rfl HSA.out (by rw [List.length_take]; omega) g rfl HWG.out ?_; intro w6 hset6 hgr6; obtain ⟨z0, z1, z2⟩ := HY.out.moved hgr6 (fun e => by injection e with e; have := HBW.out; omega); have HE := Lib.hid (And.intro hset6 (grown_own (World.grownBy.trans HGR.out HGA.out) hgr6 (fun k e => by cases e; have := HBM.out; omega))); clear hset6 hgr6)
                  rw [Exit.noGoto_ret]
                  go_ret
                  exact ⟨false, rfl, ⟨fun h => (by cases h), fun hG => (HNF.out (hG.form (k + 1) g (by omega) HGK.out)).elim⟩, World.grownBy.trans HG.out HE.out.2⟩
          · have f1 : decide (k < m) = false := decide_eq_false hkm
            have HGG := Lib.hid (GoodTo.good (by rw [hg0, HZ.out]) (by rw [HN.out]; omega) HI.out.2)
            go_wp2_with fail
            rw [Exit.noGoto_ret]
            go_ret
            exact ⟨true, rfl, ⟨fun _ => HGG.out, fun _ => rfl⟩, World.grownBy.trans HG.out HGR.out⟩
    · have he : ∀ U : World, (Op.equalIn 10000 47 (.agg #[.int .i64 g0.1, .int .i64 g0.2.1, .int .i64 g0.2.2]) (.agg #[.int .i64 0, .int .i64 0, .int .i64 0])).run Try.prog U = .ok false U := fun U => by have := eq47 g0 (0, 0, 0) U; rw [decide_eq_false hz] at this; exact this
      go_enter Try.func21, Try.ntmps21
      go_wp2_with fail
      go_step3
      go_wp2_with fail
      rw [Exit.noGoto_ret]
      go_ret
      exact ⟨false, rfl, ⟨fun h => (by cases h), fun hG => by have := hG.zero; rw [hg0] at this; cases this; exact absurd rfl hz⟩, HG.out⟩
end Go.Proofs.Ytllljcbdinckgaa
