/- Texts of the proof: RF. -/
import Derived.Test.YtihaheinkpmnnaaGreatCA31
namespace Go.Proofs.YtihaheinkpmnnaaGreat
set_option maxRecDepth 200000
open Go.RowKit Go.Shelf Go.Maps Go.Sort
theorem ixOf_anyS (C : List St) (F : St → Bool) : decide (ixOf (C.findIdx? F) ≥ 0) = C.any F := by
  cases h : C.findIdx? F with
  | none =>
    rw [List.findIdx?_eq_none_iff] at h
    have : C.any F = false := by rw [List.any_eq_false]; intro x hx; simp [h x hx]
    rw [this]; rfl
  | some i =>
    rw [List.findIdx?_eq_some_iff_getElem] at h
    obtain ⟨hi, hf, _⟩ := h
    have : C.any F = true := List.any_eq_true.2 ⟨_, List.getElem_mem hi, hf⟩
    rw [this]; exact decide_eq_true (by show (0 : Int) ≤ (i : Int); omega)
set_option maxHeartbeats 2000000 in
theorem index32_calls {F : St → Bool} {p0 : Value} {w : World} {ca : Option Addr} {cc : Nat} {C : List St} (hC : StepsW w ca cc C) (hn : C.length ≤ 100000)
    (hcl : ∀ (z : St) (a : Option Addr) (c : Nat) (W : World), z ∈ C → w.grownBy W none → IntsW W a c z.2.1 → Calls Tryz.prog 32 #[.agg #[.int .i64 z.1, .slice a z.2.1.length c, .int .i64 z.2.2], p0] W fun e w' => e = .returned (.bool (F z)) ∧ W.grownBy w' none) :
    Calls Tryz.prog 52 #[.slice ca C.length cc, .func (.func 32) #[] #[p0]] w fun e w' => e = .returned (.int .i64 (ixOf (C.findIdx? F))) ∧ w.grownBy w' none := by
  obtain ⟨n, hnn⟩ : ∃ n, C.length = n := ⟨_, rfl⟩
  have HL := Lib.hid (And.intro hC hnn)
  have HOC := Lib.hid hcl
  rw [hnn] at hn ⊢
  clear hC hnn hcl
  go_enter Tryz.func52, Tryz.ntmps52
  go_wp2_with fail
  go_loopg [8] n (fun gk s8 w' => ∃ k : Nat, s8 = .int .i64 (k : Int) ∧ gk = n - k ∧ k ≤ n ∧ w.grownBy w' none ∧ ∀ j, j < k → ∃ z, C[j]? = some z ∧ F z = false)
  case atStart => exact ⟨0, rfl, rfl, by omega, grown_refl _ _, fun j hj => by omega⟩
  case round =>
    obtain ⟨k, rfl, hgk, hk, hgr, hbef⟩ := hrel
    have HI := Lib.hid (And.intro hgk (And.intro hgr hbef))
    clear hgk hbef hgr
    by_cases hkn : k < n
    · have f1 : decide ((k : Int) < (n : Int)) = true := decide_eq_true (by omega)
      have f1' : decide (k < n) = true := decide_eq_true hkn
      have i0 : (0 : Int) ≤ (k : Int) := by omega
      have i1 : (k : Int) < (n : Int) := by omega
      have k1 : IntKind.i64.wrap ((k : Int) + 1) = (k : Int) + 1 := IntWalk.i64_in _ (by omega)
      obtain ⟨z, hz⟩ : ∃ z, C[k]? = some z := ⟨_, List.getElem?_eq_getElem (by rw [HL.out.2]; exact hkn)⟩
      obtain ⟨bz, oz, rfl, hc0, ⟨az, cz, hcell, hiz⟩, hc2⟩ := (HL.out.1.grown HI.out.2.1).2 k z hz
      have HCALL := Lib.hid (HOC.out z az cz wr (List.mem_of_getElem? hz) HI.out.2.1 hiz)
      have HZ := Lib.hid hz
      obtain ⟨ln, hln⟩ : ∃ x, z.2.1.length = x := ⟨_, rfl⟩
      rw [hln] at hcell HCALL
      clear hz hiz hln
      go_wp2_with fail
      refine HCALL.out.mono ?_
      rintro e w1 ⟨rfl, hg1⟩
      have HG := Lib.hid (HI.out.2.1.trans hg1)
      clear hg1
      obtain ⟨B, hB⟩ : ∃ B, F z = B := ⟨_, rfl⟩
      rw [hB]
      have HB := Lib.hid hB
      clear hB
      cases B with
      | true =>
        have HR : Hid (ixOf (C.findIdx? F) = (k : Int)) := Lib.hid (by
          have : C.findIdx? F = some k := by
            rw [List.findIdx?_eq_some_iff_getElem]
            obtain ⟨h1, h2⟩ := List.getElem?_eq_some_iff.1 HZ.out
            refine ⟨h1, by rw [h2]; exact HB.out, fun j hj => ?_⟩
            obtain ⟨y, hy, hf⟩ := HI.out.2.2 j hj
            obtain ⟨h3, h4⟩ := List.getElem?_eq_some_iff.1 hy
            rw [h4, hf]; decide
          rw [this]; rfl)
        go_wp2_with fail
        go_ret
        exact ⟨by rw [HR.out]; rfl, HG.out⟩
      | false =>
        go_wp2_with fail
        go_roundg (n - (k + 1))
        case measure => rw [HI.out.1]; omega
        case rel => exact ⟨k + 1, rfl, rfl, by omega, HG.out, fun j hj => by
          by_cases e : j = k
          · subst e; exact ⟨z, HZ.out, HB.out⟩
          · exact HI.out.2.2 j (by omega)⟩
    · have hkn' : k = n := by omega
      subst hkn'
      have f1 : decide ((k : Int) < (k : Int)) = false := decide_eq_false (by omega)
      have f1' : decide (k < k) = false := decide_eq_false (by omega)
      have HR : Hid (ixOf (C.findIdx? F) = -1) := Lib.hid (by
        have : C.findIdx? F = none := by
          rw [List.findIdx?_eq_none_iff]
          intro y hy
          obtain ⟨j, hj, rfl⟩ := List.getElem_of_mem hy
          obtain ⟨y', hy', hf⟩ := HI.out.2.2 j (by rw [← HL.out.2]; exact hj)
          rw [List.getElem?_eq_getElem hj] at hy'
          cases hy'; exact hf
        rw [this]; rfl)
      go_wp2_with fail
      go_ret
      exact ⟨by rw [HR.out]; rfl, HI.out.2.1⟩
set_option maxHeartbeats 1000000 in
theorem contains32_calls {F : St → Bool} {p0 : Value} {w : World} {ca : Option Addr} {cc : Nat} {C : List St} (hC : StepsW w ca cc C) (hn : C.length ≤ 100000)
    (hcl : ∀ (z : St) (a : Option Addr) (c : Nat) (W : World), z ∈ C → w.grownBy W none → IntsW W a c z.2.1 → Calls Tryz.prog 32 #[.agg #[.int .i64 z.1, .slice a z.2.1.length c, .int .i64 z.2.2], p0] W fun e w' => e = .returned (.bool (F z)) ∧ W.grownBy w' none) :
    Calls Tryz.prog 34 #[.slice ca C.length cc, .func (.func 32) #[] #[p0]] w fun e w' => e = .returned (.bool (C.any F)) ∧ w.grownBy w' none := by
  have HC := Lib.hid (index32_calls hC hn hcl)
  have HR := Lib.hid (ixOf_anyS C F)
  obtain ⟨z, hz⟩ : ∃ z, ixOf (C.findIdx? F) = z := ⟨_, rfl⟩
  rw [hz] at HC HR
  obtain ⟨b, hb⟩ : ∃ b, C.any F = b := ⟨_, rfl⟩
  rw [hb] at HR ⊢
  obtain ⟨m, hm⟩ : ∃ m, C.length = m := ⟨_, rfl⟩
  rw [hm] at HC ⊢
  clear hC hn hcl hz hb hm
  have f1 : decide (z ≥ 0) = b := HR.out
  have f2 : decide (0 ≤ z) = b := HR.out
  go_enter Tryz.func34, Tryz.ntmps34
  go_wp2_with fail
  refine HC.out.mono ?_
  rintro e w1 ⟨rfl, hg⟩
  have HG := Lib.hid hg
  clear hg
  go_wp2_with fail
  go_ret
  exact ⟨rfl, HG.out⟩
theorem empty_calls (z : List Int) (a : Option Addr) (c : Nat) (w : World) : Calls Tryz.prog 31 #[.slice a z.length c] w fun e w' => e = .returned (.bool (decide (z.length = 0))) ∧ w.grownBy w' none := by
  obtain ⟨n, hn⟩ : ∃ n, z.length = n := ⟨_, rfl⟩
  rw [hn]
  have e1 : ((n : Int) == 0) = decide (n = 0) := by rw [Bool.eq_iff_iff, beq_iff_eq, decide_eq_true_eq]; omega
  have e2 : (n == 0) = decide (n = 0) := by rw [Bool.eq_iff_iff, beq_iff_eq, decide_eq_true_eq]
  obtain ⟨d, hd⟩ : ∃ d, decide (n = 0) = d := ⟨_, rfl⟩
  rw [hd] at e1 e2 ⊢
  clear hn hd
  go_enter Tryz.func31, Tryz.ntmps31
  go_wp2_with fail
  go_ret
  exact ⟨rfl, grown_refl _ _⟩
theorem appended_calls (z : St) (a : Option Addr) (c b : Nat) (w : World) (hb : w.cell? ⟨b, 0, none⟩ = some (.func (.func 31) #[] #[])) : Calls Tryz.prog 32 #[.agg #[.int .i64 z.1, .slice a z.2.1.length c, .int .i64 z.2.2], .pointer (some ⟨b, 0, none⟩)] w fun e w' => e = .returned (.bool (decide (z.1 ≠ 2) && decide (z.2.1.length = 0))) ∧ w.grownBy w' none := by
  obtain ⟨kd, L, sy⟩ := z
  simp only
  obtain ⟨n, hn⟩ : ∃ n, L.length = n := ⟨_, rfl⟩
  obtain ⟨W1, hW1⟩ : ∃ x, w.alloc (.cells #[.int .i64 kd, .slice a n c, .int .i64 sy] 46) = x := ⟨_, rfl⟩
  obtain ⟨bx, hbx⟩ : ∃ z, w.heap.size = z := ⟨_, rfl⟩
  have hw1 : w.grownBy W1 none ∧ W1.heap[bx]? = some (.cells #[.int .i64 kd, .slice a n c, .int .i64 sy] 46 (0, 0)) := by rw [← hW1, ← hbx]; exact ⟨World.grownBy_alloc _ _ none, World.alloc_heap_new w _⟩
  have c0 : W1.cell? ⟨bx, 0, none⟩ = some (.int .i64 kd) := by simp [World.cell?, hw1.2]
  have c1 : W1.cell? ⟨bx, 1, none⟩ = some (.slice a n c) := by simp [World.cell?, hw1.2]
  have cb := hw1.1.cell hb (by simp)
  have HG := Lib.hid hw1.1
  have HE := Lib.hid (empty_calls L a c W1)
  rw [hn] at HE ⊢
  obtain ⟨d, hd⟩ : ∃ d, decide (n = 0) = d := ⟨_, rfl⟩
  rw [hd] at HE ⊢
  clear hn hd hw1 hb
  by_cases hk : kd = 2
  · have e1 : (kd != 2) = false := by simp [hk]
    have HR : Hid ((decide (kd ≠ 2) && d) = false) := Lib.hid (by simp [hk])
    clear hk
    go_enter Tryz.func32, Tryz.ntmps32
    go_wp2_with fail
    go_ret
    exact ⟨by rw [HR.out]; rfl, HG.out⟩
  · have e1 : (kd != 2) = true := by simpa using hk
    have HR : Hid ((decide (kd ≠ 2) && d) = d) := Lib.hid (by simp [hk])
    clear hk
    go_enter Tryz.func32, Tryz.ntmps32
    go_wp2_with fail
    refine HE.out.mono ?_
    rintro e w2 ⟨rfl, hg⟩
    have HG2 := Lib.hid (HG.out.trans hg)
    clear hg
    go_wp2_with fail
    go_ret
    exact ⟨by rw [HR.out]; rfl, HG2.out⟩
set_option maxHeartbeats 4000000 in
theorem refutes_calls (K : Kst) (l : List St) (la : Option Addr) (lc : Nat) (w : World) (h : InOk w K l la lc) :
    Calls Tryz.prog 15 #[.agg #[.int .i64 (K.V0 : Int), .slice K.fa K.F.length K.fc], .slice K.ya K.Y.length K.yc, .slice la l.length lc] w fun e w' =>
      e = .returned (.bool (refB K.fs K.Y l)) ∧ w.grownBy w' none := by
  obtain ⟨n, hn⟩ : ∃ z, l.length = z := ⟨_, rfl⟩
  obtain ⟨fn, hfn⟩ : ∃ z, K.F.length = z := ⟨_, rfl⟩
  obtain ⟨yn, hyn⟩ : ∃ z, K.Y.length = z := ⟨_, rfl⟩
  obtain ⟨B0, hB0⟩ : ∃ z, w.heap.size = z := ⟨_, rfl⟩
  obtain ⟨W1, hW1⟩ : ∃ z, w.alloc (.cells #[.int .i64 (K.V0 : Int), .slice K.fa fn K.fc] 24) = z := ⟨_, rfl⟩
  have hw1 : w.grownBy W1 none ∧ W1.heap[B0]? = some (.cells #[.int .i64 (K.V0 : Int), .slice K.fa fn K.fc] 24 (0, 0)) := by rw [← hW1, ← hB0]; exact ⟨World.grownBy_alloc _ _ none, World.alloc_heap_new w _⟩
  have c0 : W1.cell? ⟨B0, 0, none⟩ = some (.int .i64 (K.V0 : Int)) := by simp [World.cell?, hw1.2]
  have c1 : W1.cell? ⟨B0, 1, none⟩ = some (.slice K.fa fn K.fc) := by simp [World.cell?, hw1.2]
  have hin : InOk W1 K l la lc := ⟨⟨h.k.f.grown hw1.1, h.k.y.grown hw1.1, h.k.V, h.k.fl, h.k.fw, h.k.yl, h.k.yw⟩, h.fit, h.steps.grown hw1.1, h.ll, h.lw, h.wf⟩
  have HCK := Lib.hid (check_calls K l la lc W1 hin)
  have HF := Lib.hid (And.intro h (And.intro hn (And.intro hfn (And.intro hyn hw1))))
  obtain ⟨ck, hck⟩ : ∃ z, chkP K.fs K.Y l = z := ⟨_, rfl⟩
  have HCKV := Lib.hid hck
  rw [hn, hfn, hyn, hck] at HCK
  rw [hn]
  simp only [hfn, hyn]
  clear h hn hfn hyn hw1 hin hck
  go_enter Tryz.func15, Tryz.ntmps15
  go_wp2_with fail
  clear hW1 hB0
  refine HCK.out.mono ?_
  rintro e w2 ⟨rfl, g2⟩
  have d0 := g2.cell c0 (by simp)
  have d1 := g2.cell c1 (by simp)
  have HG2 := Lib.hid (HF.out.2.2.2.2.1.trans g2)
  clear g2 c0 c1
  by_cases hc : ck = n
  rotate_left
  · have e1 : errC ck n = 220 := by unfold errC; rw [if_neg hc]
    have HR : Hid (refB K.fs K.Y l = false) := Lib.hid (by unfold refB; rw [HCKV.out, HF.out.2.1, decide_eq_false hc, Bool.false_and])
    rw [e1]
    clear e1 hc
    go_wp2_with fail
    go_ret
    exact ⟨by rw [HR.out]; rfl, HG2.out⟩
  · have e1 : errC ck n = 0 := by unfold errC; rw [if_pos hc]
    have HR : Hid (refB K.fs K.Y l = emptyB K.fs l) := Lib.hid (by unfold refB; rw [HCKV.out, HF.out.2.1, decide_eq_true hc, Bool.true_and])
    rw [e1]
    clear e1 hc
    obtain ⟨b9, hb9⟩ : ∃ z, w2.heap.size = z := ⟨_, rfl⟩
    obtain ⟨W3, hW3⟩ : ∃ z, w2.alloc (.cells #[.func (.func 31) #[] #[]] 63) = z := ⟨_, rfl⟩
    have hw3 : w2.grownBy W3 none ∧ W3.heap[b9]? = some (.cells #[.func (.func 31) #[] #[]] 63 (0, 0)) := by rw [← hW3, ← hb9]; exact ⟨World.grownBy_alloc _ _ none, World.alloc_heap_new w2 _⟩
    have x0 := hw3.1.cell d0 (by simp)
    have x1 := hw3.1.cell d1 (by simp)
    have x9 : W3.cell? ⟨b9, 0, none⟩ = some (.func (.func 31) #[] #[]) := by simp [World.cell?, hw3.2]
    have HG3 := Lib.hid (HG2.out.trans hw3.1)
    have HX9 := Lib.hid x9
    obtain ⟨d1', hd1⟩ : ∃ z, K.F.any (fun c => decide (c.length = 0)) = z := ⟨_, rfl⟩
    have HC1 : Hid (Calls Tryz.prog 33 #[.slice K.fa fn K.fc, .func (.func 31) #[] #[]] W3 fun e w' => e = .returned (.bool d1') ∧ W3.grownBy w' none) := Lib.hid (by
      have := contains31_calls (F := fun c => decide (c.length = 0)) (HF.out.1.k.f.grown HG3.out) (by have := HF.out.1.k.fl; omega) (fun z a c W _ _ _ => empty_calls z a c W)
      rwa [HF.out.2.2.1, hd1] at this)
    obtain ⟨d2', hd2⟩ : ∃ z, l.any (fun x => decide (x.1 ≠ 2) && decide (x.2.1.length = 0)) = z := ⟨_, rfl⟩
    have HC2 : Hid (∀ W, W3.grownBy W none → Calls Tryz.prog 34 #[.slice la n lc, .func (.func 32) #[] #[.pointer (some ⟨b9, 0, none⟩)]] W fun e w' => e = .returned (.bool d2') ∧ W.grownBy w' none) := Lib.hid (fun W hg => by
      have := contains32_calls (F := fun x => decide (x.1 ≠ 2) && decide (x.2.1.length = 0)) (p0 := .pointer (some ⟨b9, 0, none⟩)) (HF.out.1.steps.grown (HG3.out.trans hg)) (by have := HF.out.1.ll; omega) (fun z a c W' _ hg' _ => appended_calls z a c b9 W' ((hg.trans hg').cell HX9.out (by simp)))
      rwa [HF.out.2.1, hd2] at this)
    have HR2 : Hid (refB K.fs K.Y l = (d1' || d2')) := Lib.hid (by rw [HR.out]; unfold emptyB; rw [hd2, show K.fs.2 = K.F from rfl, hd1])
    have hmf : ∀ (fn : Fn) (first cap : Array Value) (w : World), (Instr.makeFunc fn first cap).run Tryz.prog w = .ok (.func fn first cap) w := fun _ _ _ _ => rfl
    clear hw3 hd1 hd2 d0 d1
    go_wp2_with fail
    refine HC1.out.mono ?_
    rintro e w4 ⟨rfl, g4⟩
    have HG4 := Lib.hid g4
    clear g4 hW3 hb9
    cases d1' with
    | true =>
      go_wp2_with fail
      go_ret
      exact ⟨by rw [HR2.out]; rfl, HG3.out.trans HG4.out⟩
    | false =>
      go_wp2_with fail
      refine (HC2.out _ HG4.out).mono ?_
      rintro e w5 ⟨rfl, g5⟩
      have HG5 := Lib.hid g5
      clear g5
      go_wp2_with fail
      go_ret
      exact ⟨by rw [HR2.out]; rfl, (HG3.out.trans HG4.out).trans HG5.out⟩
end Go.Proofs.YtihaheinkpmnnaaGreat
