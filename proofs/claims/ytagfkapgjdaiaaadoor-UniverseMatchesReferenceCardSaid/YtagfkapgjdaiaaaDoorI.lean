/- Two equal relations. -/
import Derived.Test.YtagfkapgjdaiaaaDoorC
namespace Go.Proofs.YtagfkapgjdaiaaaDoor
open Go.RowKit

set_option maxHeartbeats 1000000 in
theorem same_calls (k k' : Int) (xs ys : List Int) (a a' : Option Addr) (c c' : Nat) (w : World) (h : Ints w a c xs) (h' : Ints w a' c' ys) (hl : xs.length ≤ 100000) (hl' : ys.length ≤ 100000) :
    Calls Tryd.prog 27 #[.agg #[.int .i64 k, .slice a xs.length c], .agg #[.int .i64 k', .slice a' ys.length c']] w fun e w' => e = .returned (.bool (decide (k = k' ∧ xs = ys))) ∧ w.grownBy w' none := by
  obtain ⟨R, hR⟩ : ∃ R : Bool, decide (k = k' ∧ xs = ys) = R := ⟨_, rfl⟩
  rw [hR]
  have HRR := Lib.hid hR; clear hR
  obtain ⟨n, hn⟩ : ∃ n, xs.length = n := ⟨_, rfl⟩
  obtain ⟨m, hm⟩ : ∃ m, ys.length = m := ⟨_, rfl⟩
  rw [hn] at hl ⊢
  rw [hm] at hl' ⊢
  have HN := Lib.hid (And.intro hn hm)
  have hg1 := World.grownBy_alloc w (.cells #[.int .i64 k, .slice a n c] 44) none
  have hg2 := World.grownBy_alloc (w.alloc (.cells #[.int .i64 k, .slice a n c] 44)) (.cells #[.int .i64 k', .slice a' m c'] 44) none
  have HG := Lib.hid (hg1.trans hg2); clear hg1 hg2
  have HH := Lib.hid (And.intro (h.grown HG.out) (h'.grown HG.out)); clear h h'
  by_cases hk : k = k'
  · subst hk
    have hkB : (k != k) = false := by simp
    by_cases hnm : n = m
    · have hB : ((n : Int) != (m : Int)) = false := by simp; omega
      subst hnm
      clear hn hm
      go_enter Tryd.func27, Tryd.ntmps27
      go_wp2
      obtain ⟨b, hb⟩ : ∃ b, w.heap.size = b := ⟨_, rfl⟩
      have hc : ((w.alloc (.cells #[.int .i64 k, .slice a n c] 44)).alloc (.cells #[.int .i64 k, .slice a' n c'] 44)).cell? ⟨b, 1, none⟩ = some (.slice a n c) ∧ ((w.alloc (.cells #[.int .i64 k, .slice a n c] 44)).alloc (.cells #[.int .i64 k, .slice a' n c'] 44)).cell? ⟨b + 1, 1, none⟩ = some (.slice a' n c') := by
        subst hb
        exact ⟨by go_simp, by go_simp⟩
      rw [hb]
      obtain ⟨W, hW⟩ : ∃ W, (w.alloc (.cells #[.int .i64 k, .slice a n c] 44)).alloc (.cells #[.int .i64 k, .slice a' n c'] 44) = W := ⟨_, rfl⟩
      rw [hW] at hc HG HH ⊢
      obtain ⟨c0, c1⟩ := hc
      clear hW hb
      go_loopg [5] n (fun g s5 wr => ∃ i : Nat, s5 = .int .i64 (i : Int) ∧ g = n - i ∧ i ≤ n ∧ (∀ j, j < i → xs[j]? = ys[j]?) ∧ ∃ q, wr = W.drewN q)
      case atStart => exact ⟨0, rfl, rfl, Nat.zero_le _, fun j hj => absurd hj (Nat.not_lt_zero _), 0, rfl⟩
      case round =>
        obtain ⟨i, rfl, hgi, hi, hok, q, rfl⟩ := hrel
        have HGI := Lib.hid (And.intro hgi hok); clear hgi hok
        by_cases hin : i < n
        · have hinB : decide (i < n) = true := by simp; omega
          have hinI : (i : Int) < (n : Int) := by omega
          obtain ⟨x, hx⟩ : ∃ x, xs[i]? = some x := ⟨_, List.getElem?_eq_getElem (by rw [HN.out.1]; exact hin)⟩
          obtain ⟨y, hy⟩ : ∃ y, ys[i]? = some y := ⟨_, List.getElem?_eq_getElem (by rw [HN.out.2]; exact hin)⟩
          obtain ⟨p, o, rfl, hcell⟩ : ∃ b o, a = some ⟨b, o, none⟩ ∧ W.cell? ⟨b, o + i, none⟩ = some (.int .i64 x) := by
            obtain ⟨_, ⟨h, _⟩ | ⟨b, o, ha, _, hc⟩⟩ := HH.out.1
            · rw [h] at hx; simp at hx
            · exact ⟨b, o, ha, hc i x hx⟩
          obtain ⟨p', o', rfl, hcell'⟩ : ∃ b o, a' = some ⟨b, o, none⟩ ∧ W.cell? ⟨b, o + i, none⟩ = some (.int .i64 y) := by
            obtain ⟨_, ⟨h, _⟩ | ⟨b, o, ha, _, hc⟩⟩ := HH.out.2
            · rw [h] at hy; simp at hy
            · exact ⟨b, o, ha, hc i y hy⟩
          have HX := Lib.hid (And.intro hx hy); clear hx hy
          by_cases hxy : x = y
          · subst hxy
            have hb2 : (x != x) = false := by simp
            go_wp2
            go_quiet (fail)
            go_wp2
            go_roundg (n - (i + 1))
            case measure => rw [HGI.out.1]; omega
            case rel => exact ⟨i + 1, rfl, rfl, by omega, fun j hj => by
              by_cases hji : j < i
              · exact HGI.out.2 j hji
              · have : j = i := by omega
                subst this
                rw [HX.out.1, HX.out.2], _, rfl⟩
          · have hb2 : (x != y) = true := by simpa using hxy
            have HR : Hid (R = false) := Lib.hid (by
              rw [← HRR.out, decide_eq_false_iff_not]
              rintro ⟨_, e⟩
              have h1 := HX.out.1
              rw [e, HX.out.2] at h1
              cases h1; exact hxy rfl)
            go_wp2
            go_quiet (fail)
            go_wp2
            go_ret
            exact ⟨by rw [HR.out]; rfl, HG.out.trans (by rw [World.drewN_drewN]; exact grown_drewN _ _ _)⟩
        · have hie : i = n := by omega
          subst hie
          have hinB : decide (i < i) = false := by simp
          have HR : Hid (R = true) := Lib.hid (by
            rw [← HRR.out, decide_eq_true_iff]
            refine ⟨trivial, List.ext_getElem? fun j => ?_⟩
            by_cases hj : j < i
            · exact HGI.out.2 j hj
            · rw [List.getElem?_eq_none (by rw [HN.out.1]; omega), List.getElem?_eq_none (by rw [HN.out.2]; omega)])
          go_wp2
          go_ret
          exact ⟨by rw [HR.out]; rfl, HG.out.trans (grown_drewN _ _ _)⟩
    · have hB : ((n : Int) != (m : Int)) = true := by simp; omega
      have HR : Hid (R = false) := Lib.hid (by
        rw [← HRR.out, decide_eq_false_iff_not]
        rintro ⟨_, e⟩
        rw [e] at hn; omega)
      clear hn hm
      go_enter Tryd.func27, Tryd.ntmps27
      go_wp2
      go_ret
      exact ⟨by rw [HR.out]; rfl, HG.out⟩
  · have hkB : (k != k') = true := by simpa using hk
    have HR : Hid (R = false) := Lib.hid (by
      rw [← HRR.out, decide_eq_false_iff_not]
      rintro ⟨e, _⟩
      exact hk e)
    clear hn hm
    go_enter Tryd.func27, Tryd.ntmps27
    go_wp2
    go_ret
    exact ⟨by rw [HR.out]; rfl, HG.out⟩
end Go.Proofs.YtagfkapgjdaiaaaDoor
