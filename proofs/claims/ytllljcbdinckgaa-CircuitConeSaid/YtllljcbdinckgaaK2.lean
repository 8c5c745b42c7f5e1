/- Which gates are reached? -/
import Derived.Test.YtllljcbdinckgaaK1
import Derived.Test.YtllljcbdinckgaaE1
import Derived.Deep.DeepCutAuto
namespace Go.Proofs.Ytllljcbdinckgaa
open Go.RowKit

/-- A row of truth values that is written in its place. -/
structure BArr (w : World) (b : Nat) (M : List Bool) : Prop where
  cells : ∀ (j : Nat) (z : Bool), M[j]? = some z → w.cell? ⟨b, j, none⟩ = some (.bool z)
  fr : ∀ o, w.frozen? ⟨b, o, none⟩ = false
  low : b < w.heap.size
theorem BArr.grown {w w' : World} {b : Nat} {M : List Bool} {r : Option Nat} (h : BArr w b M) (hg : w.grownBy w' r) (hr : some b ≠ r) : BArr w' b M :=
  ⟨fun j z hj => hg.cell (h.cells j z hj) hr, fun o => (World.frozen?_of_block (a := ⟨b, o, none⟩) (hg.block b h.low hr)).trans (h.fr o), Nat.lt_of_lt_of_le h.low hg.size⟩
theorem BArr.set {w : World} {b : Nat} {M : List Bool} (h : BArr w b M) {j : Nat} {z0 : Bool} (hj : M[j]? = some z0) (z : Bool) : BArr (w.setCell ⟨b, j, none⟩ (.bool z)) b (M.set j z) := by
  have hjl : j < M.length := (List.getElem?_eq_some_iff.1 hj).1
  refine ⟨fun k u hk => ?_, fun o => by rw [World.frozen?_setCell]; exact h.fr o, Nat.lt_of_lt_of_le h.low (grown_set w b j _).size⟩
  by_cases e : k = j
  · subst e
    rw [List.getElem?_set_self hjl] at hk
    cases hk
    exact World.cell?_setCell_same _ _ _ (h.cells k z0 hj)
  · rw [List.getElem?_set_ne (fun e2 => e e2.symm)] at hk
    rw [World.cell?_setCell_other _ _ _ _ (ne_at (fun e2 => e e2.symm))]
    exact h.cells k u hk
theorem BArr.bools {w : World} {b : Nat} {M : List Bool} (h : BArr w b M) {c : Nat} (hc : M.length ≤ c) : BoolsW w (some ⟨b, 0, none⟩) c M :=
  ⟨hc, .inr ⟨b, 0, rfl, fun j z hj => by rw [Nat.zero_add]; exact h.cells j z hj⟩⟩
theorem made_false (n j : Nat) (z : Bool) (h : (List.replicate n false)[j]? = some z) : (madeCells #[.bool false] n)[j]? = some (.bool z) := by
  have hj := (List.getElem?_eq_some_iff.1 h).1
  rw [List.length_replicate] at hj
  rw [List.getElem?_replicate, if_pos hj] at h
  cases h
  unfold madeCells
  rw [Array.getElem?_eq_getElem (by simpa using hj)]
  simp [Nat.mod_one]
theorem BArr.made (w : World) (n : Nat) : BArr (w.alloc (.cells (madeCells #[.bool false] n) 4)) w.heap.size (List.replicate n false) :=
  ⟨fun j z hj => by rw [World.cell?_alloc_new]; exact made_false n j z hj, fun o => World.frozen?_alloc_new w _ _ o, by simp⟩
theorem Marks.start {gs : List Gt} {n : Nat} (hn : gs.length = n) (q : Nat) : Marks gs ((List.replicate n false).set q true) n :=
  ⟨by simp [hn], fun i g hi hm hg => by have := (List.getElem?_eq_some_iff.1 hg).1; omega⟩
theorem Marks.skip {gs : List Gt} {M : List Bool} {j : Nat} (h : Marks gs M (j + 1)) {g : Gt} (hg : gs[j]? = some g) (hs : M[j]? = some false ∨ ¬ g.1 = 2) : Marks gs M j :=
  ⟨h.len, fun i g' hi hm hg' hk => by
    by_cases e : i = j
    · subst e
      rw [hg] at hg'; cases hg'
      rcases hs with hs | hs
      · rw [hs] at hm; cases hm
      · exact absurd hk hs
    · exact h.shut i g' (by omega) hm hg' hk⟩
theorem Marks.both {gs : List Gt} {M : List Bool} {j pa pb : Nat} (h : Marks gs M (j + 1)) {g : Gt} (hg : gs[j]? = some g) (ha : (g.2.1 / 2).toNat = pa) (hb : (g.2.2 / 2).toNat = pb) (hpa : pa < j) (hpb : pb < j) : Marks gs ((M.set pa true).set pb true) j := by
  have hjl : j < gs.length := (List.getElem?_eq_some_iff.1 hg).1
  have h2 := (h.mark (j := pa) (by omega) (by omega)).mark (j := pb) (by omega) (by omega)
  have la : pa < M.length := by rw [h.len]; omega
  have lb : pb < (M.set pa true).length := by rw [List.length_set, h.len]; omega
  refine ⟨h2.len, fun i g' hi hm hg' hk => ?_⟩
  by_cases e : i = j
  · subst e
    rw [hg] at hg'; cases hg'
    rw [ha, hb]
    exact ⟨(set_get lb).2 (.inr ((set_get la).2 (.inl rfl))), (set_get lb).2 (.inl rfl)⟩
  · exact h2.shut i g' (by omega) hm hg' hk

set_option maxRecDepth 100000 in
set_option maxHeartbeats 4000000 in
theorem reach_calls (gs : List Gt) (x : Int) (a : Option Addr) (c : Nat) (w : World) (h : GatesW w a c gs) (hG : Good gs) (hl : gs.length ≤ 1000) (hx : Ok gs x) :
    Calls Try.prog 31 #[.agg #[.slice a gs.length c], .int .i64 x] w fun e w' => ∃ M b, e = .returned (.slice (some ⟨b, 0, none⟩) gs.length gs.length) ∧ BArr w' b M ∧ w.heap.size ≤ b ∧ Marks gs M 0 ∧ M[(x / 2).toNat]? = some true ∧ w.grownBy w' none := by
  obtain ⟨n, hn⟩ : ∃ n, gs.length = n := ⟨_, rfl⟩
  have hg1 := World.grownBy_alloc w (.cells #[.slice a n c] 25) none
  have e1 := one_cell w (.slice a n c) 25
  obtain ⟨W1, hW1⟩ : ∃ W, w.alloc (.cells #[.slice a n c] 25) = W := ⟨_, rfl⟩
  rw [hW1] at hg1 e1
  have HQ := Lib.hid e1.2.1
  have q1 := e1.2.1
  have HG := Lib.hid hg1
  have HA := Lib.hid (h.grown hg1)
  have HN := Lib.hid hn
  have HGD := Lib.hid hG
  obtain ⟨q, hqq⟩ : ∃ q : Nat, x / 2 = (q : Int) := ⟨(x / 2).toNat, by have := hx.1; omega⟩
  have hqn : q < n := by have := hx.2; omega
  have hq : Int.tdiv x 2 = (q : Int) := by rw [Int.tdiv_eq_ediv_of_nonneg hx.1, hqq]
  have hwq : IntKind.i64.wrap (q : Int) = (q : Int) := IntWalk.i64_in _ (by omega)
  have hx0 : decide (x < 0) = false := decide_eq_false (by have := hx.1; omega)
  have HX := Lib.hid (show (x / 2).toNat = q by rw [hqq]; rfl)
  have hgeq : decide ((n : Int) ≤ (q : Int)) = false := decide_eq_false (by omega)
  have hgeq2 : decide (n ≤ q) = false := decide_eq_false (by omega)
  have hq0 : (0 : Int) ≤ (q : Int) := by omega
  have hqn2 : (q : Int) < (n : Int) := by omega
  have hn1 : IntKind.i64.wrap ((n : Int) - 1) = (n : Int) - 1 := IntWalk.i64_in _ (by omega)
  have hsW : w.heap.size < W1.heap.size := e1.1
  rw [hn] at hl ⊢
  clear h hg1 e1 hn hG hx hqq
  obtain ⟨i0, hi0, hz0, hz1, hz2⟩ := info_parts info4
  have hmk0 := run_make (P := Try.prog) W1 26 4 i0 (.bool false) Try.underlying26 hi0 hz0 .i64 .i64 (n : Int) (n : Int) (by omega) (Int.le_refl _) (by rw [hz2]; omega) (by omega)
  rw [Int.toNat_natCast, hz1, Nat.mul_one, show (Value.bool false).cells = #[Value.bool false] from rfl] at hmk0
  have hba := BArr.made W1 n
  have hgm := World.grownBy_alloc W1 (.cells (madeCells #[.bool false] n) 4) none
  obtain ⟨WM, hWM⟩ : ∃ z, W1.alloc (.cells (madeCells #[.bool false] n) 4) = z := ⟨_, rfl⟩
  rw [hWM] at hmk0 hba hgm
  have q2 := hgm.cell q1 (by simp)
  have hfq : (List.replicate n false)[q]? = some false := by rw [List.getElem?_replicate, if_pos hqn]
  have cq := hba.cells q false hfq
  have fq := hba.fr q
  obtain ⟨b, hb⟩ : ∃ b, W1.heap.size = b := ⟨_, rfl⟩
  rw [hb] at hmk0 hba cq fq hsW
  have HBA := Lib.hid (hba.set hfq true)
  have HGM := Lib.hid (grown_own hgm (grown_set WM b q (.bool true)) (fun k e => by cases e; omega))
  have HSW := Lib.hid hsW
  have HB := Lib.hid (Nat.le_of_eq hb)
  clear hb hba hgm hWM hsW
  go_enter Try.func31, Try.ntmps31
  go_wp2_with fail
  have q3 := HGM.out.cell HQ.out (by simp)
  obtain ⟨W2, hW2⟩ : ∃ z, WM.setCell ⟨b, q, none⟩ (.bool true) = z := ⟨_, rfl⟩
  rw [hW2] at HBA HGM q3 ⊢
  clear hW2 q1 q2 hmk0 cq fq hW1 hx0 hgeq hgeq2 hq hwq hq0 hqn2
  go_wp2_with fail
  clear q3
  go_loopg [6] n (fun g s wr => ∃ (k : Nat) (M : List Bool), s = .int .i64 ((k : Int) - 1) ∧ g = k ∧ k ≤ n ∧ BArr wr b M ∧ Marks gs M k ∧ M[q]? = some true ∧ W1.grownBy wr none)
  case atStart => exact ⟨n, _, rfl, rfl, Nat.le_refl _, HBA.out, Marks.start HN.out q, by rw [List.getElem?_set_self (by simpa using hqn)], HGM.out⟩
  case round =>
    obtain ⟨k, M, rfl, hgk, hk, hba, hmk, hmq, hgr⟩ := hrel
    have HI := Lib.hid hgk; clear hgk
    have HBR := Lib.hid hba; clear hba
    have HMK := Lib.hid (And.intro hmk hmq); clear hmk hmq
    have HGR := Lib.hid hgr; clear hgr
    obtain ⟨wo, hwo⟩ : ∃ z, z = wr := ⟨_, rfl⟩
    rw [← hwo] at HBR HGR ⊢
    clear hwo
    have q1 := HGR.out.cell HQ.out (by simp)
    cases k with
    | zero =>
      have f1 : decide ((0 : Int) ≤ ((0 : Nat) : Int) - 1) = false := by decide
      go_wp2_with fail
      go_ret
      exact ⟨M, b, rfl, HBR.out, by have := HSW.out; omega, HMK.out.1, by rw [HX.out]; exact HMK.out.2, World.grownBy.trans HG.out HGR.out⟩
    | succ j =>
      rw [show ((j + 1 : Nat) : Int) - 1 = (j : Int) by omega]
      have f1 : decide ((0 : Int) ≤ (j : Int)) = true := decide_eq_true (by omega)
      have hwj : IntKind.i64.wrap ((j : Int) - 1) = (j : Int) - 1 := IntWalk.i64_in _ (by omega)
      have hjn : (j : Int) < (n : Int) := by omega
      have hj0 : (0 : Int) ≤ (j : Int) := by omega
      obtain ⟨g, hg⟩ : ∃ g, gs[j]? = some g := ⟨_, List.getElem?_eq_getElem (by rw [HN.out]; omega)⟩
      obtain ⟨ba, oa, rfl, x0, x1, x2⟩ := (HA.out.grown HGR.out).at hg
      have HGG := Lib.hid hg; clear hg
      have hgc := gate_cells wo g
      have hga2 := World.grownBy_alloc wo (.cells #[.int .i64 g.1, .int .i64 g.2.1, .int .i64 g.2.2] 47) none
      obtain ⟨wA, hwA⟩ : ∃ W, wo.alloc (.cells #[.int .i64 g.1, .int .i64 g.2.1, .int .i64 g.2.2] 47) = W := ⟨_, rfl⟩
      rw [hwA] at hgc hga2
      obtain ⟨y0, y1, y2⟩ := hgc
      have HBB := Lib.hid (HBR.out.grown hga2 (by simp))
      have HGA := Lib.hid (World.grownBy.trans HGR.out hga2)
      have HY := Lib.hid (show GateAt wA wo.heap.size 0 g ∧ b < wo.heap.size from ⟨⟨y0, y1, y2⟩, HBR.out.low⟩)
      obtain ⟨m, hm⟩ : ∃ m, M[j]? = some m := ⟨_, List.getElem?_eq_getElem (by rw [HMK.out.1.len, HN.out]; omega)⟩
      have m0 := HBB.out.cells j m hm
      have HM := Lib.hid hm
      clear hga2 hm
      cases m with
      | false =>
        have HMS := Lib.hid (HMK.out.1.skip HGG.out (.inl HM.out))
        go_wp2_with fail
        go_roundg j
        case measure => rw [HI.out]; omega
        case rel => exact ⟨j, M, rfl, rfl, by omega, HBB.out, HMS.out, HMK.out.2, HGA.out⟩
      | true =>
        by_cases hk2 : g.1 = 2
        · have e2 := beqT hk2
          have hwA2 : wo.alloc (.cells #[.int .i64 2, .int .i64 g.2.1, .int .i64 g.2.2] 47) = wA := by rw [← hk2]; exact hwA
          have hkp : 0 < j := by cases j with | zero => have h := HGD.out.zero; rw [HGG.out] at h; cases h; cases hk2 | succ j => omega
          have hF : 2 ≤ g.2.1 ∧ g.2.1 < g.2.2 ∧ g.2.2 < 2 * (j : Int) := by rcases HGD.out.form j g hkp HGG.out with h | h <;> omega
          have c1 : decide ((0 : Int) ≤ g.2.1) = true := decide_eq_true (by omega)
          have c2 : decide ((0 : Int) ≤ g.2.2) = true := decide_eq_true (by omega)
          obtain ⟨p1, hp1⟩ : ∃ p : Nat, g.2.1 / 2 = (p : Int) := ⟨(g.2.1 / 2).toNat, by omega⟩
          have hd1 : Int.tdiv g.2.1 2 = (p1 : Int) := by rw [Int.tdiv_eq_ediv_of_nonneg (by omega), hp1]
          have hwd1 : IntKind.i64.wrap (p1 : Int) = (p1 : Int) := IntWalk.i64_in _ (by omega)
          have hl1 : decide ((p1 : Int) < (j : Int)) = true := decide_eq_true (by omega)
          have hkk1 : decide (p1 < j) = true := decide_eq_true (by omega)
          have hi1 : (p1 : Int) < (n : Int) := by omega
          have hz1' : (0 : Int) ≤ (p1 : Int) := by omega
          obtain ⟨p2, hp2⟩ : ∃ p : Nat, g.2.2 / 2 = (p : Int) := ⟨(g.2.2 / 2).toNat, by omega⟩
          have hd2 : Int.tdiv g.2.2 2 = (p2 : Int) := by rw [Int.tdiv_eq_ediv_of_nonneg (by omega), hp2]
          have hwd2 : IntKind.i64.wrap (p2 : Int) = (p2 : Int) := IntWalk.i64_in _ (by omega)
          have hl2 : decide ((p2 : Int) < (j : Int)) = true := decide_eq_true (by omega)
          have hkk2 : decide (p2 < j) = true := decide_eq_true (by omega)
          have hi2 : (p2 : Int) < (n : Int) := by omega
          have hz2' : (0 : Int) ≤ (p2 : Int) := by omega
          have HMS := Lib.hid (HMK.out.1.both HGG.out (by rw [hp1, Int.toNat_natCast]) (by rw [hp2, Int.toNat_natCast]) (by omega) (by omega))
          have HMQ := Lib.hid (show ((M.set p1 true).set p2 true)[q]? = some true from (set_get (by rw [List.length_set, HMK.out.1.len, HN.out]; omega)).2 (.inr ((set_get (by rw [HMK.out.1.len, HN.out]; omega)).2 (.inr HMK.out.2))))
          obtain ⟨u1, hu1⟩ : ∃ u, M[p1]? = some u := ⟨_, List.getElem?_eq_getElem (by rw [HMK.out.1.len, HN.out]; omega)⟩
          have r1 := HBB.out.cells p1 u1 hu1
          have r1f := HBB.out.fr p1
          have HB1 := Lib.hid (HBB.out.set hu1 true)
          have HG1 := Lib.hid (grown_own HGA.out (grown_set wA b p1 (.bool true)) (fun k e => by cases e; exact HB.out))
          have HY1 := Lib.hid (HY.out.1.moved (grown_set wA b p1 (.bool true)) (fun e => by injection e with e; have := HY.out.2; omega))
          obtain ⟨u2, hu2⟩ : ∃ u, (M.set p1 true)[p2]? = some u := ⟨_, List.getElem?_eq_getElem (by rw [List.length_set, HMK.out.1.len, HN.out]; omega)⟩
          have HB2 := Lib.hid (HB1.out.set hu2 true)
          have HU2 := Lib.hid (And.intro (HB1.out.cells p2 u2 hu2) (HB1.out.fr p2))
          have HG2 := Lib.hid (grown_own HG1.out (grown_set (wA.setCell ⟨b, p1, none⟩ (.bool true)) b p2 (.bool true)) (fun k e => by cases e; exact HB.out))
          clear hu1 hu2 hp1 hp2 hk2 hF hkp
          go_upto_region 11 with fail
          clear r1 r1f y0 y1 y2 m0
          obtain ⟨y0, y1, y2⟩ := HY1.out
          obtain ⟨r2, r2f⟩ := HU2.out
          obtain ⟨wB, hwB⟩ : ∃ z, wA.setCell ⟨b, p1, none⟩ (.bool true) = z := ⟨_, rfl⟩
          rw [hwB] at HB1 HG1 HY1 HB2 HU2 HG2 y0 y1 y2 r2 r2f ⊢
          clear hwB
          go_wp2_with fail
          go_roundg j
          case measure => rw [HI.out]; omega
          case rel => exact ⟨j, _, rfl, rfl, by omega, HB2.out, HMS.out, HMQ.out, HG2.out⟩
        · have e2 := beqF hk2
          have HMS := Lib.hid (HMK.out.1.skip HGG.out (.inr hk2))
          clear hk2
          go_wp2_with fail
          go_roundg j
          case measure => rw [HI.out]; omega
          case rel => exact ⟨j, M, rfl, rfl, by omega, HBB.out, HMS.out, HMK.out.2, HGA.out⟩
end Go.Proofs.Ytllljcbdinckgaa
