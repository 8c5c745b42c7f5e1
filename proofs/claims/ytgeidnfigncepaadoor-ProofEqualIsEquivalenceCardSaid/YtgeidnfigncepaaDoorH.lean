/- One step is taken in, or not. -/
import Derived.Test.YtgeidnfigncepaaDoorG
namespace Go.Proofs.YtgeidnfigncepaaDoor
open Go.RowKit

/-- The counter of the variables: a cell that may be written. -/
def Known (w : World) (bk : Nat) (v : Int) : Prop := w.cell? ⟨bk, 0, none⟩ = some (.int .i64 v) ∧ w.frozen? ⟨bk, 0, none⟩ = false
theorem Known.alloc {w : World} {bk : Nat} {v : Int} (h : Known w bk v) (o : Obj) : Known (w.alloc o) bk v := by
  have hlt := World.block_lt_of_cell? w _ h.1
  refine ⟨(World.grownBy_alloc w o none).cell h.1 (by simp), ?_⟩
  rw [World.frozen?_of_block (heap_alloc_old w o hlt)]; exact h.2
theorem Known.grown {w w' : World} {bk : Nat} {v : Int} {r : Option Nat} (h : Known w bk v) (hg : w.grownBy w' r) (hr : some bk ≠ r) : Known w' bk v := by
  have hlt := World.block_lt_of_cell? w _ h.1
  refine ⟨hg.cell h.1 hr, ?_⟩
  rw [World.frozen?_of_block (hg.block bk hlt hr)]; exact h.2
theorem ret_beq (s : Int) : Ending.returned (.bool (s == 0)) = .returned (.bool (decide (s = 0))) := by congr 2
theorem quiet_left {P : Program} {f : FuncId} {args : Array Value} {w : World} {n : Nat} {v : Value}
    (h : Calls P f args (w.drewN n) fun e w' => e = .returned v ∧ w.drewN n = w') : Calls P f args (w.drewN n) fun e w'' => e = .returned v ∧ ∃ m, w'' = w.drewN m :=
  h.mono fun _ _ ⟨he, hm⟩ => ⟨he, n, hm.symm⟩
theorem Known.set {w : World} {bk : Nat} {v : Int} (h : Known w bk v) (u : Int) : Known (w.setCell ⟨bk, 0, none⟩ (.int .i64 u)) bk u :=
  ⟨World.cell?_setCell_same _ _ _ h.1, by rw [World.frozen?_setCell]; exact h.2⟩
/-- What the taking in of a step leaves. -/
def Taken (w : World) (bk : Nat) (v : Int) (x : St) (e : Ending) (w' : World) : Prop :=
  ∃ v', e = .returned (.bool (okS v x)) ∧ Known w' bk v' ∧ (okS v x = true → v' = nextV v x) ∧ w.grownBy w' (some bk)
theorem taken_same {w w' : World} {bk : Nat} {v : Int} {x : St} {B : Bool} (hk : Known w' bk v) (hg : w.grownBy w' (some bk)) (hB : okS v x = B) (hn : B = true → nextV v x = v) : Taken w bk v x (.returned (.bool B)) w' :=
  ⟨v, by rw [hB], hk, fun h => (hn (by rw [← hB]; exact h)).symm, hg⟩
theorem okS_12 {v : Int} {x : St} (h : x.1 = 1 ∨ x.1 = 2) : okS v x = (decide (x.2.2 = 0) && knownB v x.2.1) := by unfold okS; rw [if_pos h]
theorem okS_4 {v : Int} {x : St} (h : x.1 = 4) : okS v x = (decide (0 ≤ x.2.2) && (decide (x.2.2 ≤ 20000) && knownB v x.2.1)) := by unfold okS; rw [if_neg (by omega), if_pos h]
theorem okS_3 {v : Int} {x : St} (h : x.1 = 3) : okS v x = (decide (2 ≤ x.2.1.length) && (decide (x.2.1.head? = some (v + 1)) && (decide (v + 1 ≤ 20000) && (knownB v x.2.1.tail && decide (x.2.2 = 0))))) := by
  unfold okS; rw [if_neg (by omega), if_neg (by omega), if_pos h]
theorem okS_no {v : Int} {x : St} (h1 : x.1 ≠ 1) (h2 : x.1 ≠ 2) (h3 : x.1 ≠ 3) (h4 : x.1 ≠ 4) : okS v x = false := by
  unfold okS; rw [if_neg (by omega), if_neg h4, if_neg h3]
theorem nextV_no {v : Int} {x : St} (h : x.1 ≠ 3) : nextV v x = v := by unfold nextV; rw [if_neg h]
theorem Ints.tail {w : World} {b o c n : Nat} {l : List Int} (h : Ints w (some ⟨b, o, none⟩) c l) (hn : l.length = n + 1) : Ints w (some ⟨b, o + 1, none⟩) (c - 1) l.tail := by
  refine ⟨by have := h.1; rw [List.length_tail]; omega, fun j z hj => ?_⟩
  rw [List.getElem?_tail] at hj
  obtain ⟨b', o', e, hc⟩ := h.2 (j + 1) z hj
  cases e
  exact ⟨b, o + 1, rfl, by rw [show o + 1 + j = o + (j + 1) by omega]; exact hc⟩

set_option maxRecDepth 100000 in
set_option maxHeartbeats 4000000 in
theorem accept_calls (v : Int) (bu bk : Nat) (x : St) (a : Option Addr) (c : Nat) (w : World) (hi : Ints w a c x.2.1) (hl : (x.2.1.length : Int) ≤ 9223372036854775807) (hv : 0 ≤ v ∧ v ≤ 20000)
    (hu : w.cell? ⟨bu, 0, none⟩ = some (.func (.func 20) #[] #[.pointer (some ⟨bk, 0, none⟩)])) (hk : Known w bk v) :
    Calls Tryd.prog 21 #[.agg #[.int .i64 x.1, .slice a x.2.1.length c, .int .i64 x.2.2], .pointer (some ⟨bu, 0, none⟩), .pointer (some ⟨bk, 0, none⟩)] w (Taken w bk v x) := by
  obtain ⟨k, l, s⟩ := x
  simp only at hi hl ⊢
  obtain ⟨n, hn⟩ : ∃ n, l.length = n := ⟨_, rfl⟩
  rw [hn] at hl ⊢
  have HV := Lib.hid hv
  have ga := World.grownBy_alloc w (.cells #[.int .i64 k, .slice a n c, .int .i64 s] 43) none
  have HG := Lib.hid (World.grownBy_alloc w (.cells #[.int .i64 k, .slice a n c, .int .i64 s] 43) (some bk))
  have HK := Lib.hid (hk.alloc (.cells #[.int .i64 k, .slice a n c, .int .i64 s] 43))
  have HI := Lib.hid (hi.grown ga)
  have cu := ga.cell hu (by simp)
  have HN := Lib.hid (And.intro hn hl)
  have hk0 := Lib.hid hk
  have hany : ∀ (m : List Int) (q : Nat) (a' : Option Addr) (c' : Nat), m.length = q → Ints (w.alloc (.cells #[.int .i64 k, .slice a n c, .int .i64 s] 43)) a' c' m → (m.length : Int) ≤ 9223372036854775807 → Calls Tryd.prog 22 #[.slice a' q c', .func (.func 20) #[] #[.pointer (some ⟨bk, 0, none⟩)]] (w.alloc (.cells #[.int .i64 k, .slice a n c, .int .i64 s] 43)) fun e w' => e = .returned (.bool (m.any (unkB v))) ∧ w.alloc (.cells #[.int .i64 k, .slice a n c, .int .i64 s] 43) = w' :=
    fun m q a' c' hq hm hl => anyUnk_calls v bk m q hq a' c' _ hm HK.out.1 ⟨HV.out.1, by have := HV.out.2; omega⟩ hl
  have HA := Lib.hid hany
  clear hany hn hl hv hi hu hk ga
  by_cases hk : k = 1
  · have e1 : (k == 1) = true := by simpa using hk
    by_cases hs : s = 0
    · have es : (s == 0) = true := by simpa using hs
      have HR : Hid (okS v (k, l, s) = !l.any (unkB v)) := Lib.hid (by rw [okS_12 (.inl hk)]; simp [hs, knownB])
      have HX := Lib.hid (nextV_no (v := v) (x := (k, l, s)) (by simp only; omega))
      clear hk hs
      go_enter Tryd.func21, Tryd.ntmps21
      go_wp2_with fail
      refine (HA.out l n a c HN.out.1 HI.out (by rw [HN.out.1]; exact HN.out.2)).mono ?_
      rintro e w' ⟨rfl, rfl⟩
      go_wp2_with fail
      go_ret
      exact taken_same HK.out HG.out HR.out (fun _ => HX.out)
    · have es : (s == 0) = false := by simpa using hs
      have HR : Hid (okS v (k, l, s) = false) := Lib.hid (by rw [okS_12 (.inl hk)]; simp [hs])
      clear hk hs
      go_enter Tryd.func21, Tryd.ntmps21
      go_wp2_with fail
      go_ret
      exact taken_same HK.out HG.out HR.out (fun h => by cases h)
  have e1 : (k == 1) = false := by simpa using hk
  have hk1 := Lib.hid hk; clear hk
  by_cases hk : k = 2
  · have e2 : (k == 2) = true := by simpa using hk
    by_cases hs : s = 0
    · have es : (s == 0) = true := by simpa using hs
      have HR : Hid (okS v (k, l, s) = !l.any (unkB v)) := Lib.hid (by rw [okS_12 (.inr hk)]; simp [hs, knownB])
      have HX := Lib.hid (nextV_no (v := v) (x := (k, l, s)) (by simp only; omega))
      clear hk hs
      go_enter Tryd.func21, Tryd.ntmps21
      go_wp2_with fail
      refine (HA.out l n a c HN.out.1 HI.out (by rw [HN.out.1]; exact HN.out.2)).mono ?_
      rintro e w' ⟨rfl, rfl⟩
      go_wp2_with fail
      go_ret
      exact taken_same HK.out HG.out HR.out (fun _ => HX.out)
    · have es : (s == 0) = false := by simpa using hs
      have HR : Hid (okS v (k, l, s) = false) := Lib.hid (by rw [okS_12 (.inr hk)]; simp [hs])
      clear hk hs
      go_enter Tryd.func21, Tryd.ntmps21
      go_wp2_with fail
      go_ret
      exact taken_same HK.out HG.out HR.out (fun h => by cases h)
  have e2 : (k == 2) = false := by simpa using hk
  have hk2 := Lib.hid hk; clear hk
  by_cases hk : k = 4
  · have e4 : (k == 4) = true := by simpa using hk
    by_cases h0 : 0 ≤ s
    · have d0 : decide (0 ≤ s) = true := by simpa using h0
      by_cases h2 : s ≤ 20000
      · have d2 : decide (s ≤ 20000) = true := by simpa using h2
        have HR : Hid (okS v (k, l, s) = !l.any (unkB v)) := Lib.hid (by rw [okS_4 hk]; simp [h0, h2, knownB])
        have HX := Lib.hid (nextV_no (v := v) (x := (k, l, s)) (by simp only; omega))
        clear hk h0 h2
        go_enter Tryd.func21, Tryd.ntmps21
        go_wp2_with fail
        refine (HA.out l n a c HN.out.1 HI.out (by rw [HN.out.1]; exact HN.out.2)).mono ?_
        rintro e w' ⟨rfl, rfl⟩
        go_wp2_with fail
        go_ret
        exact taken_same HK.out HG.out HR.out (fun _ => HX.out)
      · have d2 : decide (s ≤ 20000) = false := by simpa using h2
        have HR : Hid (okS v (k, l, s) = false) := Lib.hid (by rw [okS_4 hk]; simp [h2])
        clear hk h0 h2
        go_enter Tryd.func21, Tryd.ntmps21
        go_wp2_with fail
        go_ret
        exact taken_same HK.out HG.out HR.out (fun h => by cases h)
    · have d0 : decide (0 ≤ s) = false := by simpa using h0
      have HR : Hid (okS v (k, l, s) = false) := Lib.hid (by rw [okS_4 hk]; simp [h0])
      clear hk h0
      go_enter Tryd.func21, Tryd.ntmps21
      go_wp2_with fail
      go_ret
      exact taken_same HK.out HG.out HR.out (fun h => by cases h)
  have e4 : (k == 4) = false := by simpa using hk
  have hk4 := Lib.hid hk; clear hk
  by_cases hk : k = 3
  · have e3 : (k == 3) = true := by simpa using hk
    have HR0 := Lib.hid (okS_3 (v := v) (x := (k, l, s)) hk)
    have HX : Hid (nextV v (k, l, s) = v + 1) := Lib.hid (by unfold nextV; rw [if_pos hk])
    clear hk
    have kc := HK.out.1
    obtain ⟨hv1, hv2⟩ := HV.out
    by_cases hn2 : n < 2
    · have d1 : decide (n < 2) = true := by simpa using hn2
      have d1' : decide ((n : Int) < 2) = true := by simp; omega
      have HR : Hid (okS v (k, l, s) = false) := Lib.hid (by rw [HR0.out]; simp [HN.out.1]; omega)
      go_enter Tryd.func21, Tryd.ntmps21
      go_wp2_with fail
      go_quiet (fail)
      go_wp2_with fail
      go_ret
      exact taken_same (HK.out.grown (grown_drewN _ _ none) (by simp)) (HG.out.trans (grown_drewN _ _ _)) HR.out (fun h => by cases h)
    have d1 : decide (n < 2) = false := by simpa using hn2
    have d1' : decide ((n : Int) < 2) = false := by simp; omega
    have n0 : (0 : Int) < (n : Int) := by omega
    obtain ⟨y, t, rfl⟩ : ∃ y t, l = y :: t := by
      cases l with
      | nil => have := HN.out.1; simp at this; omega
      | cons y t => exact ⟨y, t, rfl⟩
    obtain ⟨b, o, rfl, cy⟩ := HI.out.2 0 y rfl
    rw [Nat.add_zero] at cy
    have hw : IntKind.i64.wrap (v + 1) = v + 1 := IntWalk.i64_in _ (by omega)
    have c1 : ¬ (c : Int) = 1 := by have := HI.out.1; have := HN.out.1; omega
    have HNT : Hid (t.length = n - 1 ∧ 2 ≤ n) := Lib.hid ⟨by have := HN.out.1; simp at this; omega, by omega⟩
    have HT : Hid (∀ q, Calls Tryd.prog 22 #[.slice (some ⟨b, o + 1, none⟩) (n - 1) (c - 1), .func (.func 20) #[] #[.pointer (some ⟨bk, 0, none⟩)]] ((w.alloc (.cells #[.int .i64 k, .slice (some ⟨b, o, none⟩) n c, .int .i64 s] 43)).drewN q) fun e w' => e = .returned (.bool (t.any (unkB v))) ∧ (w.alloc (.cells #[.int .i64 k, .slice (some ⟨b, o, none⟩) n c, .int .i64 s] 43)).drewN q = w') := Lib.hid (fun q =>
      anyUnk_calls v bk t (n - 1) HNT.out.1 _ _ _ ((HI.out.tail (n := n - 1) (by have := HNT.out; have := HN.out.1; omega)).grown (grown_drewN _ _ _)) (HK.out.grown (grown_drewN _ _ none) (by simp)).1 ⟨by omega, by omega⟩ (by rw [HNT.out.1]; have := HN.out.2; omega))
    by_cases hy : y = v + 1
    · have d3 : (y != v + 1) = false := by simpa using hy
      have HR1 : Hid (okS v (k, y :: t, s) = (decide (v + 1 ≤ 20000) && (knownB v t && decide (s = 0)))) := Lib.hid (by
        rw [HR0.out]
        have h2 : 2 ≤ (y :: t).length := by rw [HN.out.1]; exact HNT.out.2
        show (decide (2 ≤ (y :: t).length) && (decide (some y = some (v + 1)) && (decide (v + 1 ≤ 20000) && (knownB v t && decide (s = 0))))) = _
        rw [decide_eq_true h2, hy, decide_eq_true rfl, Bool.true_and, Bool.true_and])
      by_cases hy2 : 20000 < y
      · have d4 : decide (20000 < y) = true := by simpa using hy2
        have HR : Hid (okS v (k, y :: t, s) = false) := Lib.hid (by rw [HR1.out, decide_eq_false (by omega)]; rfl)
        clear hy
        go_enter Tryd.func21, Tryd.ntmps21
        go_wp2_with fail
        go_quiet (fail)
        go_wp2_with fail
        go_ret
        exact taken_same (HK.out.grown (grown_drewN _ _ none) (by simp)) (HG.out.trans (grown_drewN _ _ _)) HR.out (fun h => by cases h)
      · have d4 : decide (20000 < y) = false := by simpa using hy2
        have HR2 : Hid (okS v (k, y :: t, s) = (knownB v t && decide (s = 0))) := Lib.hid (by rw [HR1.out, decide_eq_true (by omega), Bool.true_and])
        clear hy hn2
        go_enter Tryd.func21, Tryd.ntmps21
        go_wp2_with fail
        go_quiet ((go_at_call 22; exact quiet_left (HT.out _)))
        obtain ⟨B, hB⟩ : ∃ B, t.any (unkB v) = B := ⟨_, rfl⟩
        rw [hB]
        have HB := Lib.hid hB; clear hB
        have HWB := Lib.hid (World.block_lt_of_cell? w _ hk0.out.1)
        cases B with
        | true =>
          have HR : Hid (okS v (k, y :: t, s) = false) := Lib.hid (by rw [HR2.out]; unfold knownB; rw [HB.out]; rfl)
          go_wp2_with fail
          go_ret
          exact taken_same (HK.out.grown (grown_drewN _ _ none) (by simp)) (HG.out.trans (grown_drewN _ _ _)) HR.out (fun h => by cases h)
        | false =>
          have HR3 : Hid (okS v (k, y :: t, s) = decide (s = 0)) := Lib.hid (by rw [HR2.out]; unfold knownB; rw [HB.out]; rfl)
          have kf := HK.out.2
          have cs : (((w.alloc (.cells #[.int .i64 k, .slice (some ⟨b, o, none⟩) n c, .int .i64 s] 43)).drewN nq).setCell ⟨bk, 0, none⟩ (.int .i64 (v + 1))).cell? ⟨w.heap.size, 2, none⟩ = some (.int .i64 s) := by
            rw [World.cell?_setCell_other _ _ _ _ (by intro e; injection e with e _; have := HWB.out; omega)]
            go_simp
          go_wp2_with fail
          go_ret
          have hK2 := (HK.out.grown (grown_drewN _ nq none) (by simp)).set (v + 1)
          have hG2 := (HG.out.trans (grown_drewN _ nq _)).trans (grown_set _ bk 0 (.int .i64 (v + 1)))
          refine ⟨v + 1, by rw [HR3.out]; exact ret_beq s, hK2, fun _ => HX.out.symm, hG2⟩
    · have d3 : (y != v + 1) = true := by simpa using hy
      have HR : Hid (okS v (k, y :: t, s) = false) := Lib.hid (by rw [HR0.out]; simp [hy])
      clear hy
      go_enter Tryd.func21, Tryd.ntmps21
      go_wp2_with fail
      go_quiet (fail)
      go_wp2_with fail
      go_ret
      exact taken_same (HK.out.grown (grown_drewN _ _ none) (by simp)) (HG.out.trans (grown_drewN _ _ _)) HR.out (fun h => by cases h)
  have e3 : (k == 3) = false := by simpa using hk
  have HR : Hid (okS v (k, l, s) = false) := Lib.hid (okS_no hk1.out hk2.out hk hk4.out)
  clear hk
  go_enter Tryd.func21, Tryd.ntmps21
  go_wp2_with fail
  go_ret
  exact taken_same HK.out HG.out HR.out (fun h => by cases h)
end Go.Proofs.YtgeidnfigncepaaDoor
