/- Valid: a whole proof is taken in, step by step. -/
import Derived.Test.YtgeidnfigncepaaDoorH
import Derived.Laws.EntriesVeiled
namespace Go.Proofs.YtgeidnfigncepaaDoor
open Go.RowKit

theorem okF_bad {v : Int} {l : List St} {i : Nat} {x : St} (hx : l[i]? = some x) (h : okS (vAfter v (l.take i)) x = false) : okF v l = false := by
  have hi : i < l.length := by
    rcases Nat.lt_or_ge i l.length with h | h
    · exact h
    · rw [List.getElem?_eq_none h] at hx; cases hx
  have e : l = l.take i ++ x :: l.drop (i + 1) := by
    conv => lhs; rw [← List.take_append_drop i l]
    rw [List.drop_eq_getElem_cons hi]
    rw [List.getElem?_eq_getElem hi] at hx
    cases hx; rfl
  rw [e, okF_append]
  simp only [okF]
  rw [h]; simp
theorem okF_step {v : Int} {l : List St} {i : Nat} {x : St} (hx : l[i]? = some x) (ht : okF v (l.take i) = true) (h : okS (vAfter v (l.take i)) x = true) :
    okF v (l.take (i + 1)) = true ∧ vAfter v (l.take (i + 1)) = nextV (vAfter v (l.take i)) x := by
  rw [List.take_add_one, hx, Option.toList_some]
  refine ⟨?_, by simp [vAfter]⟩
  rw [okF_append, ht]
  simp [okF, h]

set_option maxHeartbeats 2000000 in
theorem valid_calls (v : Int) (l : List St) (n : Nat) (hn : l.length = n) (a : Option Addr) (c : Nat) (w : World) (h : Steps w a c l) (hl : (l.length : Int) ≤ 9223372036854775807) (hlits : ∀ x ∈ l, (x.2.1.length : Int) ≤ 9223372036854775807) :
    Calls Tryd.prog 12 #[.int .i64 v, .slice a n c] w fun e w' => e = .returned (.bool (validB v l)) ∧ w.grownBy w' none := by
  rw [hn] at hl
  have HH := Lib.hid (And.intro hn (And.intro h hlits)); clear hn h hlits
  by_cases h1 : v < 0
  · have d1 : decide (v < 0) = true := by simpa using h1
    have HR : Hid (validB v l = false) := Lib.hid (by unfold validB; rw [decide_eq_false (by omega)]; rfl)
    go_enter Tryd.func12, Tryd.ntmps12
    go_wp2
    go_ret
    exact ⟨by rw [HR.out]; rfl, grown_refl _ _⟩
  have d1 : decide (v < 0) = false := by simpa using h1
  by_cases h2 : 20000 < v
  · have d2 : decide (20000 < v) = true := by simpa using h2
    have HR : Hid (validB v l = false) := Lib.hid (by unfold validB; rw [decide_eq_false (by omega)]; rfl)
    go_enter Tryd.func12, Tryd.ntmps12
    go_wp2
    go_ret
    exact ⟨by rw [HR.out]; rfl, grown_refl _ _⟩
  have d2 : decide (20000 < v) = false := by simpa using h2
  by_cases h3 : 20000 < n
  · have d3 : decide (20000 < n) = true := by simpa using h3
    have d3' : decide (20000 < (n : Int)) = true := by simp; omega
    have HR : Hid (validB v l = false) := Lib.hid (by unfold validB; rw [HH.out.1, decide_eq_false (by omega)]; rfl)
    go_enter Tryd.func12, Tryd.ntmps12
    go_wp2
    go_ret
    exact ⟨by rw [HR.out]; rfl, grown_refl _ _⟩
  have d3 : decide (20000 < n) = false := by simpa using h3
  have d3' : decide (20000 < (n : Int)) = false := by simp; omega
  have HR : Hid (validB v l = okF v l) := Lib.hid (by unfold validB; rw [HH.out.1, decide_eq_true (by omega), Bool.true_and])
  go_enter Tryd.func12, Tryd.ntmps12
  go_wp2_with fail
  obtain ⟨B0, hB0⟩ : ∃ B0, w.heap.size = B0 := ⟨_, rfl⟩
  obtain ⟨W0, hW0⟩ : ∃ W0, (w.alloc (.cells #[.int .i64 v] 3)).alloc (.cells #[.func (.func 20) #[] #[.pointer (some ⟨w.heap.size, 0, none⟩)]] 44) = W0 := ⟨_, rfl⟩
  have hg0 : w.grownBy W0 none := by rw [← hW0]; exact (World.grownBy_alloc _ _ none).trans (World.grownBy_alloc _ _ none)
  have HK0 : Hid (Known W0 B0 v) := Lib.hid (by rw [← hW0, ← hB0]; clear hW0 hB0; exact ⟨by go_simp, by go_simp⟩)
  have HU0 : Hid (W0.cell? ⟨B0 + 1, 0, none⟩ = some (.func (.func 20) #[] #[.pointer (some ⟨B0, 0, none⟩)])) := Lib.hid (by rw [← hW0, ← hB0]; clear hW0 hB0; go_simp)
  rw [hW0, hB0]
  have HG0 := Lib.hid (And.intro hg0 hB0)
  clear hg0 hW0 hB0
  go_loopg [26] n (fun g s26 wr => ∃ (i : Nat) (u : Int), s26 = .int .i64 (i : Int) ∧ g = n - i ∧ i ≤ n ∧ okF v (l.take i) = true ∧ vAfter v (l.take i) = u ∧ (0 ≤ u ∧ u ≤ 20000) ∧ Known wr B0 u ∧ wr.cell? ⟨B0 + 1, 0, none⟩ = some (.func (.func 20) #[] #[.pointer (some ⟨B0, 0, none⟩)]) ∧ w.grownBy wr none)
  case atStart => exact ⟨0, v, rfl, rfl, Nat.zero_le _, rfl, rfl, ⟨by omega, by omega⟩, HK0.out, HU0.out, HG0.out.1⟩
  case round =>
    obtain ⟨i, u, rfl, hgi, hi, hok, hva, hu, hkn, hun, hgr⟩ := hrel
    have HGI := Lib.hid (And.intro hgi (And.intro hok (And.intro hva (And.intro hu (And.intro hkn (And.intro hun hgr)))))); clear hgi hok hva hu hkn hun hgr
    by_cases hin : i < n
    · have hinB : decide (i < n) = true := by simpa using hin
      have hinI : (i : Int) < (n : Int) := by omega
      obtain ⟨x, hx⟩ : ∃ x, l[i]? = some x := ⟨_, List.getElem?_eq_getElem (by rw [HH.out.1]; exact hin)⟩
      have hst := HH.out.2.1.grown HGI.out.2.2.2.2.2.2
      obtain ⟨b, o, rfl, c0, ⟨la, lc, c1, hints⟩, c2⟩ := hst.2 i x hx
      have HX := Lib.hid hx; clear hx hst
      have ga := World.grownBy_alloc wr (.cells #[.int .i64 x.1, .slice la x.2.1.length lc, .int .i64 x.2.2] 43) none
      have HI := Lib.hid (hints.grown ga)
      have HU := Lib.hid (ga.cell HGI.out.2.2.2.2.2.1 (by simp))
      have HK := Lib.hid (HGI.out.2.2.2.2.1.alloc (.cells #[.int .i64 x.1, .slice la x.2.1.length lc, .int .i64 x.2.2] 43))
      have HGA := Lib.hid (HGI.out.2.2.2.2.2.2.trans ga)
      clear hints ga
      go_wp2_with fail
      refine (accept_calls u (B0 + 1) B0 x la lc _ HI.out (HH.out.2.2 x (List.mem_of_getElem? HX.out)) HGI.out.2.2.2.1 HU.out HK.out).mono ?_
      rintro e w' ⟨u', rfl, hk', hn', hg'⟩
      have HT := Lib.hid (And.intro hk' (And.intro hn' (grown_own HGA.out hg' (fun k hk => by cases hk; exact Nat.le_of_eq HG0.out.2))))
      have HU' := Lib.hid (hg'.cell HU.out (by simp))
      clear hk' hn' hg'
      obtain ⟨B, hB⟩ : ∃ B, okS u x = B := ⟨_, rfl⟩
      rw [hB]
      have HB := Lib.hid hB; clear hB
      cases B with
      | true =>
        go_wp2_with fail
        go_roundg (n - (i + 1))
        case measure => rw [HGI.out.1]; omega
        case rel =>
          have hs := okF_step HX.out HGI.out.2.1 (by rw [HGI.out.2.2.1]; exact HB.out)
          rw [HGI.out.2.2.1] at hs
          have hgood := okS_good HGI.out.2.2.2.1 HB.out
          have hu' := HT.out.2.1 HB.out
          rw [← hu'] at hs hgood
          exact ⟨i + 1, u', rfl, rfl, by omega, hs.1, hs.2, hgood.2.2.2, HT.out.1, HU'.out, HT.out.2.2⟩
      | false =>
        have HF := Lib.hid (okF_bad HX.out (by rw [HGI.out.2.2.1]; exact HB.out))
        go_wp2_with fail
        go_ret
        exact ⟨by rw [HR.out, HF.out]; rfl, HT.out.2.2⟩
    · have hie : i = n := by omega
      subst hie
      have hinB : decide (i < i) = false := by simp
      have HF : Hid (okF v l = true) := Lib.hid (by
        have := HGI.out.2.1
        rw [List.take_of_length_le (by rw [HH.out.1]; exact Nat.le_refl _)] at this
        exact this)
      go_wp2
      go_ret
      exact ⟨by rw [HR.out, HF.out]; rfl, HGI.out.2.2.2.2.2.2⟩
end Go.Proofs.YtgeidnfigncepaaDoor
