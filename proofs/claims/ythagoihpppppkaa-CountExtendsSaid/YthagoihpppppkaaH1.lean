/- Two circuits compared. -/
import Derived.Test.YthagoihpppppkaaGC
namespace Go.Proofs.Ythagoihpppppkaa
open Go.RowKit

theorem ext_upto {α : Type} {l m : List α} (hl : l.length = m.length) (h : ∀ j, j < l.length → l[j]? = m[j]?) : l = m := by
  apply List.ext_getElem?
  intro i
  by_cases hi : i < l.length
  · exact h i hi
  · rw [List.getElem?_eq_none (by omega), List.getElem?_eq_none (by omega)]

set_option maxRecDepth 100000 in
set_option maxHeartbeats 4000000 in
theorem same_calls (gs hs : List Gt) (a : Option Addr) (c : Nat) (b : Option Addr) (d : Nat) (w : World) (h1 : GatesW w a c gs) (h2 : GatesW w b d hs) (hl : gs.length ≤ 2000) (_hl2 : hs.length ≤ 2000) :
    Calls Try.prog 26 #[.agg #[.slice a gs.length c], .agg #[.slice b hs.length d]] w fun e w' => e = .returned (.bool (decide (gs = hs))) ∧ w.grownBy w' none := by
  obtain ⟨n, hn⟩ : ∃ n, gs.length = n := ⟨_, rfl⟩
  obtain ⟨m, hm⟩ : ∃ m, hs.length = m := ⟨_, rfl⟩
  have hg1 := World.grownBy_alloc w (.cells #[.slice a n c] 32) none
  have e1 := one_cell w (.slice a n c) 32
  obtain ⟨W1, hW1⟩ : ∃ W, w.alloc (.cells #[.slice a n c] 32) = W := ⟨_, rfl⟩
  rw [hW1] at hg1 e1
  have hg2 := World.grownBy_alloc W1 (.cells #[.slice b m d] 32) none
  have e2 := one_cell W1 (.slice b m d) 32
  obtain ⟨W2, hW2⟩ : ∃ W, W1.alloc (.cells #[.slice b m d] 32) = W := ⟨_, rfl⟩
  rw [hW2] at hg2 e2
  have q1 := hg2.cell e1.2.1 (by simp)
  have q2 := e2.2.1
  have HQ := Lib.hid (And.intro q1 q2)
  have HG := Lib.hid (World.grownBy.trans hg1 hg2)
  have HA := Lib.hid ((h1.grown hg1).grown hg2)
  have HB := Lib.hid ((h2.grown hg1).grown hg2)
  have HN := Lib.hid (And.intro hn hm)
  rw [hn] at hl ⊢
  rw [hm] at _hl2 ⊢
  clear h1 h2 hg1 hg2 e1 e2 hn hm
  by_cases hnm : n = m
  · have fe : (((n : Nat) : Int) == ((m : Nat) : Int)) = true := by simp [hnm]
    have fe2 : (n == m) = true := by simp [hnm]
    have HNM := Lib.hid hnm; clear hnm
    go_enter Try.func26, Try.ntmps26
    go_wp2_with fail
    clear q1 q2 hW1 hW2
    go_loopg [5] n (fun g s wr => ∃ k : Nat, s = .int .i64 (k : Int) ∧ g = n - k ∧ k ≤ n ∧ (∀ j : Nat, j < k → gs[j]? = hs[j]?) ∧ W2.grownBy wr none)
    case atStart => exact ⟨0, rfl, rfl, Nat.zero_le _, fun j hj => by omega, grown_refl _ _⟩
    case round =>
      obtain ⟨k, rfl, hgk, hk, heq, hgr⟩ := hrel
      have HI := Lib.hid (And.intro hgk heq); clear hgk heq
      have q1 := hgr.cell HQ.out.1 (by simp)
      have q2 := hgr.cell HQ.out.2 (by simp)
      have HGR := Lib.hid hgr; clear hgr
      by_cases hkn : k < n
      · have f1 : decide (k < n) = true := decide_eq_true hkn
        have hk1 : IntKind.i64.wrap ((k : Int) + 1) = ((k + 1 : Nat) : Int) := by rw [IntWalk.i64_in _ (by omega)]; omega
        have hjn : (k : Int) < (n : Int) := by omega
        have hjm : (k : Int) < (m : Int) := by have := HNM.out; omega
        have hj0 : (0 : Int) ≤ (k : Int) := by omega
        obtain ⟨g, hg⟩ : ∃ g, gs[k]? = some g := ⟨_, List.getElem?_eq_getElem (by rw [HN.out.1]; omega)⟩
        obtain ⟨h, hh⟩ : ∃ h, hs[k]? = some h := ⟨_, List.getElem?_eq_getElem (by rw [HN.out.2]; have := HNM.out; omega)⟩
        obtain ⟨ba, oa, rfl, x0, x1, x2⟩ := (HA.out.grown HGR.out).at hg
        obtain ⟨bb, ob, rfl, y0, y1, y2⟩ := (HB.out.grown HGR.out).at hh
        have HGH := Lib.hid (And.intro hg hh); clear hg hh
        by_cases hgh : g = h
        · have he : ∀ U : World, (Op.equalIn 10000 69 (.agg #[.int .i64 g.1, .int .i64 g.2.1, .int .i64 g.2.2]) (.agg #[.int .i64 h.1, .int .i64 h.2.1, .int .i64 h.2.2])).run Try.prog U = .ok true U := fun U => by rw [eq47 g h U, decide_eq_true hgh]
          have HS := Lib.hid (show ∀ j : Nat, j < k + 1 → gs[j]? = hs[j]? from fun j hj => by
            by_cases hjk : j = k
            · subst hjk; rw [HGH.out.1, HGH.out.2, hgh]
            · exact HI.out.2 j (by omega))
          have HQQ := Lib.hid hgh; clear hgh
          go_wp2_with fail
          go_quiet (fail)
          go_wp2_with fail
          go_roundg (n - (k + 1))
          case measure => rw [HI.out.1]; omega
          case rel => exact ⟨k + 1, rfl, rfl, by omega, HS.out, World.grownBy.trans HGR.out (grown_drewN wr nq none)⟩
        · have he : ∀ U : World, (Op.equalIn 10000 69 (.agg #[.int .i64 g.1, .int .i64 g.2.1, .int .i64 g.2.2]) (.agg #[.int .i64 h.1, .int .i64 h.2.1, .int .i64 h.2.2])).run Try.prog U = .ok false U := fun U => by rw [eq47 g h U, decide_eq_false hgh]
          have HR := Lib.hid (show decide (gs = hs) = false from decide_eq_false fun e => hgh (by have h1 := HGH.out.1; have h2 := HGH.out.2; rw [e, h2] at h1; injection h1 with h1; exact h1.symm))
          have HQQ := Lib.hid hgh; clear hgh
          go_wp2_with fail
          go_quiet (fail)
          go_wp2_with fail
          go_ret
          exact ⟨by rw [HR.out]; rfl, World.grownBy.trans HG.out (World.grownBy.trans HGR.out (grown_drewN wr nq none))⟩
      · have f1 : decide (k < n) = false := decide_eq_false hkn
        have HR := Lib.hid (show decide (gs = hs) = true from decide_eq_true (ext_upto (by rw [HN.out.1, HN.out.2]; exact HNM.out) (fun j hj => HI.out.2 j (by rw [HN.out.1] at hj; omega))))
        go_wp2_with fail
        go_ret
        exact ⟨by rw [HR.out]; rfl, World.grownBy.trans HG.out HGR.out⟩
  · have fe : (((n : Nat) : Int) == ((m : Nat) : Int)) = false := beqF (by omega)
    have fe2 : (n == m) = false := by simp [hnm]
    have HR := Lib.hid (show decide (gs = hs) = false from decide_eq_false fun e => hnm (by rw [← HN.out.1, ← HN.out.2, e]))
    clear hnm
    go_enter Try.func26, Try.ntmps26
    go_wp2_with fail
    go_ret
    exact ⟨by rw [HR.out]; rfl, HG.out⟩
end Go.Proofs.Ythagoihpppppkaa
