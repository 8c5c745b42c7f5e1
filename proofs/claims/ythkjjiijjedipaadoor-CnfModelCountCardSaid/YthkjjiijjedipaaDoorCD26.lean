/- Texts of the proof: M5. -/
import Derived.Test.YthkjjiijjedipaaDoorCD05
import Derived.Test.YthkjjiijjedipaaDoorCD07
import Derived.Test.YthkjjiijjedipaaDoorCD17
import Derived.Deep.DeepCutAuto
namespace Go.Proofs.YthkjjiijjedipaaDoor
open Go.RowKit

/-- A row of truth values that is written in its place. -/
structure BArr (w : World) (b : Nat) (M : List Bool) : Prop where
  cells : ∀ (j : Nat) (z : Bool), M[j]? = some z → w.cell? ⟨b, j, none⟩ = some (.bool z)
  fr : ∀ o, w.frozen? ⟨b, o, none⟩ = false
  low : b < w.heap.size
theorem BArr.grown {w w' : World} {b : Nat} {M : List Bool} {r : Option Nat} (h : BArr w b M) (hg : w.grownBy w' r) (hr : some b ≠ r) : BArr w' b M :=
  ⟨fun j z hj => hg.cell (h.cells j z hj) hr, fun o => (World.frozen?_of_block (a := ⟨b, o, none⟩) (hg.block b h.low hr)).trans (h.fr o), Nat.lt_of_lt_of_le h.low hg.size⟩
theorem BArr.set {w : World} {b : Nat} {M : List Bool} (h : BArr w b M) {j : Nat} {z0 : Bool} (hj : M[j]? = some z0) (z : Bool) : BArr (w.setCell ⟨b, j, none⟩ (.bool z)) b (M.set j z) := by
  have hjl : j < M.length := (List.getElem?_eq_some_iff.1 hj).1
  refine ⟨fun k u hk => ?_, fun o => by rw [World.frozen?_setCell]; exact h.fr o, Nat.lt_of_lt_of_le h.low (grown_set w b j _).size⟩
  by_cases e : k = j
  · subst e
    rw [List.getElem?_set_self hjl] at hk
    cases hk
    exact World.cell?_setCell_same _ _ _ (h.cells k z0 hj)
  · rw [List.getElem?_set_ne (fun e2 => e e2.symm)] at hk
    rw [World.cell?_setCell_other _ _ _ _ (ne_at (fun e2 => e e2.symm))]
    exact h.cells k u hk
theorem BArr.bools {w : World} {b : Nat} {M : List Bool} (h : BArr w b M) {c : Nat} (hc : M.length ≤ c) : BoolsW w (some ⟨b, 0, none⟩) c M :=
  ⟨hc, .inr ⟨b, 0, rfl, fun j z hj => by rw [Nat.zero_add]; exact h.cells j z hj⟩⟩
theorem made_false (n j : Nat) (z : Bool) (h : (List.replicate n false)[j]? = some z) : (madeCells #[.bool false] n)[j]? = some (.bool z) := by
  have hj := (List.getElem?_eq_some_iff.1 h).1
  rw [List.length_replicate] at hj
  rw [List.getElem?_replicate, if_pos hj] at h
  cases h
  unfold madeCells
  rw [Array.getElem?_eq_getElem (by simpa using hj)]
  simp [Nat.mod_one]
theorem BArr.made (w : World) (n : Nat) : BArr (w.alloc (.cells (madeCells #[.bool false] n) 4)) w.heap.size (List.replicate n false) :=
  ⟨fun j z hj => by rw [World.cell?_alloc_new]; exact made_false n j z hj, fun o => World.frozen?_alloc_new w _ _ o, by simp⟩

theorem grown_drew (w : World) (r : Option Nat) : w.grownBy w.drew r := ⟨rfl, rfl, rfl, Nat.le_refl _, fun _ _ _ => rfl⟩
theorem beqT' {x y : Int} (h : x = y) : (x == y) = true := by simpa using h
theorem beqF' {x y : Int} (h : ¬ x = y) : (x == y) = false := by simpa using h
/-- One gate is looked at: the marks before. -/
theorem needOne_no {gs : List Gt} {M : List Bool} {i : Nat} (h : M[i]? = some false ∨ isAnd gs i = false) : needOne gs M i = M.set i false := by
  unfold needOne
  rw [if_neg]
  rcases h with h | h <;> simp [h]
theorem needOne_yes {gs : List Gt} {M : List Bool} {i pa pb : Nat} (h : M[i]? = some true) (ha : isAnd gs i = true) (h1 : lowA gs i = pa) (h2 : lowB gs i = pb) : needOne gs M i = ((M.set i true).set pa true).set pb true := by
  unfold needOne
  rw [if_pos (by simp [h, ha]), h1, h2]
set_option maxRecDepth 100000 in
set_option maxHeartbeats 4000000 in
theorem needed_calls (gs : List Gt) (x : Int) (a : Option Addr) (c : Nat) (w : World) (h : GatesW w a c gs) (hG : Good gs) (hl : gs.length ≤ 1000) (hx : Ok gs x) :
    Calls Tryd.prog 31 #[.agg #[.slice a gs.length c], .int .i64 x] w fun e w' => ∃ b, e = .returned (.slice (some ⟨b, 0, none⟩) gs.length gs.length) ∧ BArr w' b (needL gs (x / 2).toNat) ∧ w.heap.size ≤ b ∧ w.grownBy w' none := by
  obtain ⟨n, hn⟩ : ∃ n, gs.length = n := ⟨_, rfl⟩
  have hg1 := World.grownBy_alloc w (.cells #[.slice a n c] 27) none
  have e1 := one_cell w (.slice a n c) 27
  obtain ⟨W1, hW1⟩ : ∃ W, w.alloc (.cells #[.slice a n c] 27) = W := ⟨_, rfl⟩
  rw [hW1] at hg1 e1
  have HQ := Lib.hid e1.2.1
  have q1 := e1.2.1
  have HG := Lib.hid hg1
  have HA := Lib.hid (h.grown hg1)
  have HN := Lib.hid hn
  have HGD := Lib.hid hG
  obtain ⟨q, hqq⟩ : ∃ q : Nat, x / 2 = (q : Int) := ⟨(x / 2).toNat, by have := hx.1; omega⟩
  have hqn : q < n := by have := hx.2; omega
  have hq : Int.tdiv x 2 = (q : Int) := by rw [Int.tdiv_eq_ediv_of_nonneg hx.1, hqq]
  have hwq : IntKind.i64.wrap (q : Int) = (q : Int) := IntWalk.i64_in _ (by omega)
  have hx0 : decide (x < 0) = false := decide_eq_false (by have := hx.1; omega)
  have HX := Lib.hid (show (x / 2).toNat = q by rw [hqq]; rfl)
  have hgeq : decide ((n : Int) ≤ (q : Int)) = false := decide_eq_false (by omega)
  have hgeq2 : decide (n ≤ q) = false := decide_eq_false (by omega)
  have hq0 : (0 : Int) ≤ (q : Int) := by omega
  have hqn2 : (q : Int) < (n : Int) := by omega
  have hn1 : IntKind.i64.wrap ((n : Int) - 1) = (n : Int) - 1 := IntWalk.i64_in _ (by omega)
  have hsW : w.heap.size < W1.heap.size := e1.1
  have HT : Hid (needL gs (x / 2).toNat = needGo gs n ((List.replicate n false).set q true)) := Lib.hid (by unfold needL; rw [hn, HX.out])
  rw [hn] at hl ⊢
  rw [HT.out]
  clear h hg1 e1 hn hG hx hqq HT
  obtain ⟨i0, hi0, hz0, hz1, hz2⟩ := info_parts info4
  have hmk0 := run_make (P := Tryd.prog) W1 23 4 i0 (.bool false) Tryd.underlying23 hi0 hz0 .i64 .i64 (n : Int) (n : Int) (by omega) (Int.le_refl _) (by rw [hz2]; omega) (by omega)
  rw [Int.toNat_natCast, hz1, Nat.mul_one, show (Value.bool false).cells = #[Value.bool false] from rfl] at hmk0
  have hba := BArr.made W1 n
  have hgm := World.grownBy_alloc W1 (.cells (madeCells #[.bool false] n) 4) none
  obtain ⟨WM, hWM⟩ : ∃ z, W1.alloc (.cells (madeCells #[.bool false] n) 4) = z := ⟨_, rfl⟩
  rw [hWM] at hmk0 hba hgm
  have q2 := hgm.cell q1 (by simp)
  have hfq : (List.replicate n false)[q]? = some false := by rw [List.getElem?_replicate, if_pos hqn]
  have cq := hba.cells q false hfq
  have fq := hba.fr q
  obtain ⟨b, hb⟩ : ∃ b, W1.heap.size = b := ⟨_, rfl⟩
  rw [hb] at hmk0 hba cq fq hsW
  have HBA := Lib.hid (hba.set hfq true)
  have HGM := Lib.hid (grown_own hgm (grown_set WM b q (.bool true)) (fun k e => by cases e; omega))
  have HSW := Lib.hid hsW
  have HB := Lib.hid (Nat.le_of_eq hb)
  clear hb hba hgm hWM hsW
  obtain ⟨M0, hM0⟩ : ∃ z, (List.replicate n false).set q true = z := ⟨_, rfl⟩
  rw [hM0] at HBA ⊢
  have HL0 : Hid (M0.length = n) := Lib.hid (by rw [← hM0]; simp)
  clear hM0
  go_enter Tryd.func31, Tryd.ntmps31
  go_wp2_with fail
  have q3 := HGM.out.cell HQ.out (by simp)
  obtain ⟨W2, hW2⟩ : ∃ z, WM.setCell ⟨b, q, none⟩ (.bool true) = z := ⟨_, rfl⟩
  rw [hW2] at HBA HGM q3 ⊢
  clear hW2 q1 q2 hmk0 cq fq hW1 hx0 hgeq hgeq2 hq hwq hq0 hqn2
  go_wp2_with fail
  clear q3
  go_loopg [6] n (fun g s wr => ∃ (k : Nat) (M : List Bool), s = .int .i64 ((k : Int) - 1) ∧ g = k ∧ k ≤ n ∧ BArr wr b M ∧ M.length = n ∧ needGo gs k M = needGo gs n M0 ∧ W1.grownBy wr none)
  case atStart => exact ⟨n, _, rfl, rfl, Nat.le_refl _, HBA.out, HL0.out, rfl, HGM.out⟩
  case round =>
    obtain ⟨k, M, rfl, hgk, hk, hba, hml, hmq, hgr⟩ := hrel
    have HI := Lib.hid hgk; clear hgk
    have HBR := Lib.hid hba; clear hba
    have HMK := Lib.hid (And.intro hml hmq); clear hml hmq
    have HGR := Lib.hid hgr; clear hgr
    obtain ⟨wo, hwo⟩ : ∃ z, z = wr := ⟨_, rfl⟩
    rw [← hwo] at HBR HGR ⊢
    clear hwo
    have q1 := HGR.out.cell HQ.out (by simp)
    cases k with
    | zero =>
      have f1 : decide ((0 : Int) ≤ ((0 : Nat) : Int) - 1) = false := by decide
      go_wp2_with fail
      go_ret
      exact ⟨b, rfl, by rw [← HMK.out.2]; exact HBR.out, by have := HSW.out; omega, World.grownBy.trans HG.out HGR.out⟩
    | succ j =>
      rw [show ((j + 1 : Nat) : Int) - 1 = (j : Int) by omega]
      have f1 : decide ((0 : Int) ≤ (j : Int)) = true := decide_eq_true (by omega)
      have hwj : IntKind.i64.wrap ((j : Int) - 1) = (j : Int) - 1 := IntWalk.i64_in _ (by omega)
      have hjn : (j : Int) < (n : Int) := by omega
      have hj0 : (0 : Int) ≤ (j : Int) := by omega
      obtain ⟨g, hg⟩ : ∃ g, gs[j]? = some g := ⟨_, List.getElem?_eq_getElem (by rw [HN.out]; omega)⟩
      obtain ⟨ba, oa, rfl, x0, x1, x2⟩ := (HA.out.grown HGR.out).at hg
      have HGG := Lib.hid hg; clear hg
      have hgc := gate_cells wo g
      have hga2 := World.grownBy_alloc wo (.cells #[.int .i64 g.1, .int .i64 g.2.1, .int .i64 g.2.2] 58) none
      obtain ⟨wA, hwA⟩ : ∃ W, wo.alloc (.cells #[.int .i64 g.1, .int .i64 g.2.1, .int .i64 g.2.2] 58) = W := ⟨_, rfl⟩
      rw [hwA] at hgc hga2
      obtain ⟨y0, y1, y2⟩ := hgc
      have HBB := Lib.hid (HBR.out.grown hga2 (by simp))
      have HGA := Lib.hid (World.grownBy.trans HGR.out hga2)
      have HY := Lib.hid (show GateAt wA wo.heap.size 0 g ∧ b < wo.heap.size from ⟨⟨y0, y1, y2⟩, HBR.out.low⟩)
      obtain ⟨m, hm⟩ : ∃ m, M[j]? = some m := ⟨_, List.getElem?_eq_getElem (by rw [HMK.out.1]; omega)⟩
      have m0 := HBB.out.cells j m hm
      have m1 := HBB.out.fr j
      have HM := Lib.hid hm
      have HGO : Hid (needGo gs (j + 1) M = needGo gs j (needOne gs M j)) := Lib.hid rfl
      clear hga2 hm
      cases m with
      | false =>
        have HNO := Lib.hid (needOne_no (gs := gs) (.inl HM.out))
        have HB0 := Lib.hid (HBB.out.set HM.out false)
        have HG0 := Lib.hid (grown_own HGA.out (grown_set wA b j (.bool false)) (fun k e => by cases e; exact HB.out))
        go_upto_region 10 with fail
        have m2 := HB0.out.cells j false (by rw [List.getElem?_set_self (by rw [HMK.out.1]; omega)])
        obtain ⟨wB, hwB⟩ : ∃ z, wA.setCell ⟨b, j, none⟩ (.bool false) = z := ⟨_, rfl⟩
        rw [hwB] at HB0 HG0 m2 ⊢
        clear hwB m0 m1 y0 y1 y2
        go_wp2_with fail
        go_roundg j
        case measure => rw [HI.out]; omega
        case rel => exact ⟨j, _, rfl, rfl, by omega, HB0.out, by rw [List.length_set]; exact HMK.out.1, by rw [← HMK.out.2, HGO.out, HNO.out], HG0.out⟩
      | true =>
        by_cases hk2 : g.1 = 2
        · have e2 := beqT' hk2
          have HAN : Hid (isAnd gs j = true) := Lib.hid (by unfold isAnd; rw [HGG.out]; exact decide_eq_true hk2)
          have hwA2 : wo.alloc (.cells #[.int .i64 2, .int .i64 g.2.1, .int .i64 g.2.2] 58) = wA := by rw [← hk2]; exact hwA
          have hF := low_lt HGD.out HGG.out HAN.out
          have HF := Lib.hid hF
          obtain ⟨_, hF1, hF2, hF3, hF4, _, _⟩ := hF
          have c1 : decide ((0 : Int) ≤ g.2.1) = true := decide_eq_true (by omega)
          have c2 : decide ((0 : Int) ≤ g.2.2) = true := decide_eq_true (by omega)
          obtain ⟨p1, hp1⟩ : ∃ p : Nat, g.2.1 / 2 = (p : Int) := ⟨(g.2.1 / 2).toNat, by omega⟩
          have hd1 : Int.tdiv g.2.1 2 = (p1 : Int) := by rw [Int.tdiv_eq_ediv_of_nonneg (by omega), hp1]
          have hwd1 : IntKind.i64.wrap (p1 : Int) = (p1 : Int) := IntWalk.i64_in _ (by omega)
          have hl1 : decide ((p1 : Int) < (j : Int)) = true := decide_eq_true (by omega)
          have hkk1 : decide (p1 < j) = true := decide_eq_true (by omega)
          have hi1 : (p1 : Int) < (n : Int) := by omega
          have hz1' : (0 : Int) ≤ (p1 : Int) := by omega
          obtain ⟨p2, hp2⟩ : ∃ p : Nat, g.2.2 / 2 = (p : Int) := ⟨(g.2.2 / 2).toNat, by omega⟩
          have hd2 : Int.tdiv g.2.2 2 = (p2 : Int) := by rw [Int.tdiv_eq_ediv_of_nonneg (by omega), hp2]
          have hwd2 : IntKind.i64.wrap (p2 : Int) = (p2 : Int) := IntWalk.i64_in _ (by omega)
          have hl2 : decide ((p2 : Int) < (j : Int)) = true := decide_eq_true (by omega)
          have hkk2 : decide (p2 < j) = true := decide_eq_true (by omega)
          have hi2 : (p2 : Int) < (n : Int) := by omega
          have hz2' : (0 : Int) ≤ (p2 : Int) := by omega
          have HNO := Lib.hid (needOne_yes (gs := gs) HM.out HAN.out (pa := p1) (pb := p2) (by rw [HF.out.2.2.2.2.2.1, hp1, Int.toNat_natCast]) (by rw [HF.out.2.2.2.2.2.2, hp2, Int.toNat_natCast]))
          have HB0 := Lib.hid (HBB.out.set HM.out true)
          have HG0 := Lib.hid (grown_own HGA.out (grown_set wA b j (.bool true)) (fun k e => by cases e; exact HB.out))
          have HY0 := Lib.hid (HY.out.1.moved (grown_set wA b j (.bool true)) (fun e => by injection e with e; have := HY.out.2; omega))
          obtain ⟨u1, hu1⟩ : ∃ u, (M.set j true)[p1]? = some u := ⟨_, List.getElem?_eq_getElem (by rw [List.length_set, HMK.out.1]; omega)⟩
          have HU1 := Lib.hid (And.intro (HB0.out.cells p1 u1 hu1) (HB0.out.fr p1))
          have HB1 := Lib.hid (HB0.out.set hu1 true)
          have HG1 := Lib.hid (grown_own HG0.out (grown_set (wA.setCell ⟨b, j, none⟩ (.bool true)) b p1 (.bool true)) (fun k e => by cases e; exact HB.out))
          have HY1 := Lib.hid (HY0.out.moved (grown_set (wA.setCell ⟨b, j, none⟩ (.bool true)) b p1 (.bool true)) (fun e => by injection e with e; have := HY.out.2; omega))
          obtain ⟨u2, hu2⟩ : ∃ u, ((M.set j true).set p1 true)[p2]? = some u := ⟨_, List.getElem?_eq_getElem (by rw [List.length_set, List.length_set, HMK.out.1]; omega)⟩
          have HB2 := Lib.hid (HB1.out.set hu2 true)
          have HU2 := Lib.hid (And.intro (HB1.out.cells p2 u2 hu2) (HB1.out.fr p2))
          have HG2 := Lib.hid (grown_own HG1.out (grown_set ((wA.setCell ⟨b, j, none⟩ (.bool true)).setCell ⟨b, p1, none⟩ (.bool true)) b p2 (.bool true)) (fun k e => by cases e; exact HB.out))
          clear hu1 hu2 hp1 hp2 hk2 hF1 hF2 hF3 hF4
          go_upto_region 10 with fail
          clear m0 m1 y0 y1 y2
          obtain ⟨y0, y1, y2⟩ := HY0.out
          obtain ⟨r1, r1f⟩ := HU1.out
          have m2 := HB0.out.cells j true (by rw [List.getElem?_set_self (by rw [HMK.out.1]; omega)])
          obtain ⟨wB, hwB⟩ : ∃ z, wA.setCell ⟨b, j, none⟩ (.bool true) = z := ⟨_, rfl⟩
          rw [hwB] at HB0 HG0 HY0 HB1 HU1 HG1 HY1 HB2 HU2 HG2 y0 y1 y2 r1 r1f m2 ⊢
          clear hwB
          go_upto_region 11 with fail
          clear m2
          obtain ⟨v2, hv2⟩ : ∃ u, (M.set j true)[p2]? = some u := ⟨_, List.getElem?_eq_getElem (by rw [List.length_set, HMK.out.1]; omega)⟩
          have r2 := HB0.out.cells p2 v2 hv2
          have r2f := HB0.out.fr p2
          have hne : wo.heap.size ≠ b := by have := HY.out.2; omega
          have hne2 : b ≠ wo.heap.size := by have := HY.out.2; omega
          have r3 := HU2.out.1
          have r3f := HU2.out.2
          clear hv2
          go_region
          have HB3 := Lib.hid (HB2.out.grown (grown_drew _ none) (by simp))
          have HG3 := Lib.hid (World.grownBy.trans HG2.out (grown_drew _ none))
          obtain ⟨wC, hwC⟩ : ∃ z, ((wB.setCell ⟨b, p1, none⟩ (.bool true)).setCell ⟨b, p2, none⟩ (.bool true)).drew = z := ⟨_, rfl⟩
          rw [hwC] at HB3 HG3 ⊢
          clear hwC HB2 HG2 r1 r1f r2 r2f y0 y1 y2 r3 r3f hne hne2
          go_wp2_with fail
          go_roundg j
          case measure => rw [HI.out]; omega
          case rel => exact ⟨j, _, rfl, rfl, by omega, HB3.out, by rw [List.length_set, List.length_set, List.length_set]; exact HMK.out.1, by rw [← HMK.out.2, HGO.out, HNO.out], HG3.out⟩
        · have e2 := beqF' hk2
          have HAN : Hid (isAnd gs j = false) := Lib.hid (by unfold isAnd; rw [HGG.out]; exact decide_eq_false hk2)
          have HNO := Lib.hid (needOne_no (M := M) (.inr HAN.out))
          have HB0 := Lib.hid (HBB.out.set HM.out false)
          have HG0 := Lib.hid (grown_own HGA.out (grown_set wA b j (.bool false)) (fun k e => by cases e; exact HB.out))
          clear hk2
          go_upto_region 10 with fail
          have m2 := HB0.out.cells j false (by rw [List.getElem?_set_self (by rw [HMK.out.1]; omega)])
          obtain ⟨wB, hwB⟩ : ∃ z, wA.setCell ⟨b, j, none⟩ (.bool false) = z := ⟨_, rfl⟩
          rw [hwB] at HB0 HG0 m2 ⊢
          clear hwB m0 m1 y0 y1 y2
          go_wp2_with fail
          go_roundg j
          case measure => rw [HI.out]; omega
          case rel => exact ⟨j, _, rfl, rfl, by omega, HB0.out, by rw [List.length_set]; exact HMK.out.1, by rw [← HMK.out.2, HGO.out, HNO.out], HG0.out⟩
end Go.Proofs.YthkjjiijjedipaaDoor
