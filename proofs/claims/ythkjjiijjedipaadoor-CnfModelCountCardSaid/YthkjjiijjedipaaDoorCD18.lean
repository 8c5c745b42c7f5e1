/- Texts of the proof: R1. -/
import Derived.Test.YthkjjiijjedipaaDoorCD17
namespace Go.Proofs.YthkjjiijjedipaaDoor
open Go.RowKit

theorem locG_first {x : Gt} : ∀ {gs : List Gt} {k : Nat}, gs[k]? = some x → (∀ j, j < k → gs[j]? ≠ some x) → locG x gs = some k
  | [], k, h, _ => by simp at h
  | g :: gs, 0, h, _ => by simp at h; unfold locG; rw [if_pos h]
  | g :: gs, k + 1, h, hn => by
    have h0 : g ≠ x := fun e => hn 0 (by omega) (by simp [e])
    have ih := locG_first (gs := gs) (k := k) (by simpa using h) (fun j hj e => hn (j + 1) (by omega) (by simpa using e))
    unfold locG
    rw [if_neg h0, ih]
    rfl

set_option maxRecDepth 100000 in
set_option maxHeartbeats 4000000 in
theorem rfind_calls (gs : List Gt) (x : Gt) (a : Option Addr) (c : Nat) (w : World) (h : GatesR w a c gs) (hl : gs.length ≤ 2000) :
    Calls Tryd.prog 50 #[.agg #[.slice a gs.length c], gv x] w fun e w' => e = .returned (.int .i64 (locI x gs)) ∧ w.grownBy w' none := by
  obtain ⟨n, hn⟩ : ∃ n, gs.length = n := ⟨_, rfl⟩
  have hg1 := World.grownBy_alloc w (.cells #[.slice a n c] 27) none
  have e1 := one_cell w (.slice a n c) 27
  obtain ⟨W1, hW1⟩ : ∃ W, w.alloc (.cells #[.slice a n c] 27) = W := ⟨_, rfl⟩
  rw [hW1] at hg1 e1
  have hg2 := World.grownBy_alloc W1 (.cells #[.int .i64 x.1, .int .i64 x.2.1, .int .i64 x.2.2] 58) none
  have hx := gate_cells W1 x
  obtain ⟨W2, hW2⟩ : ∃ W, W1.alloc (.cells #[.int .i64 x.1, .int .i64 x.2.1, .int .i64 x.2.2] 58) = W := ⟨_, rfl⟩
  rw [hW2] at hg2 hx
  have q1 := hg2.cell e1.2.1 (by simp)
  have HQ := Lib.hid q1
  have HX := Lib.hid hx
  have HG := Lib.hid (World.grownBy.trans hg1 hg2)
  have HA := Lib.hid ((h.grown hg1).grown hg2)
  have HN := Lib.hid hn
  rw [hn] at hl ⊢
  clear h hg1 hg2 e1 hn hx
  go_enter Tryd.func50, Tryd.ntmps50
  go_wp2_with fail
  clear q1 hW1 hW2
  go_loopg [5] n (fun g s wr => ∃ k : Nat, s = .int .i64 (k : Int) ∧ g = n - k ∧ k ≤ n ∧ (∀ j : Nat, j < k → gs[j]? ≠ some x) ∧ W2.grownBy wr none)
  case atStart => exact ⟨0, rfl, rfl, Nat.zero_le _, fun j hj => by omega, grown_refl _ _⟩
  case round =>
    obtain ⟨k, rfl, hgk, hk, hno, hgr⟩ := hrel
    have HI := Lib.hid (And.intro hgk hno); clear hgk hno
    have q1 := hgr.cell HQ.out (by simp)
    obtain ⟨y0, y1, y2⟩ := HX.out.grown hgr
    have HGR := Lib.hid hgr; clear hgr
    by_cases hkn : k < n
    · have f1 : decide (k < n) = true := decide_eq_true hkn
      have hk1 : IntKind.i64.wrap ((k : Int) + 1) = ((k + 1 : Nat) : Int) := by rw [IntWalk.i64_in _ (by omega)]; omega
      have hjn : (k : Int) < (n : Int) := by omega
      have hj0 : (0 : Int) ≤ (k : Int) := by omega
      obtain ⟨g, hg⟩ : ∃ g, gs[k]? = some g := ⟨_, List.getElem?_eq_getElem (by rw [HN.out]; omega)⟩
      obtain ⟨ba, oa, rfl, x0, x1, x2⟩ := (HA.out.grown HGR.out).at hg
      have HGG := Lib.hid hg; clear hg
      by_cases hgx : g = x
      · have he : ∀ U : World, (Op.equalIn 10000 58 (.agg #[.int .i64 g.1, .int .i64 g.2.1, .int .i64 g.2.2]) (.agg #[.int .i64 x.1, .int .i64 x.2.1, .int .i64 x.2.2])).run Tryd.prog U = .ok true U := fun U => by rw [eq47 g x U, decide_eq_true hgx]
        have HR := Lib.hid (show locI x gs = (k : Int) from locI_nat (locG_first (by rw [← hgx]; exact HGG.out) HI.out.2))
        have HQQ := Lib.hid hgx; clear hgx
        go_wp2_with fail
        go_quiet (fail)
        go_wp2_with fail
        go_ret
        exact ⟨by rw [HR.out]; rfl, World.grownBy.trans HG.out (World.grownBy.trans HGR.out (grown_drewN wr nq none))⟩
      · have he : ∀ U : World, (Op.equalIn 10000 58 (.agg #[.int .i64 g.1, .int .i64 g.2.1, .int .i64 g.2.2]) (.agg #[.int .i64 x.1, .int .i64 x.2.1, .int .i64 x.2.2])).run Tryd.prog U = .ok false U := fun U => by rw [eq47 g x U, decide_eq_false hgx]
        have HS := Lib.hid (show ∀ j : Nat, j < k + 1 → gs[j]? ≠ some x from fun j hj e => by
          by_cases hjk : j = k
          · subst hjk; rw [HGG.out] at e; injection e with e; exact hgx e
          · exact HI.out.2 j (by omega) e)
        have HQQ := Lib.hid hgx; clear hgx
        go_wp2_with fail
        go_quiet (fail)
        go_wp2_with fail
        go_roundg (n - (k + 1))
        case measure => rw [HI.out.1]; omega
        case rel => exact ⟨k + 1, rfl, rfl, by omega, HS.out, World.grownBy.trans HGR.out (grown_drewN wr nq none)⟩
    · have f1 : decide (k < n) = false := decide_eq_false hkn
      have HR := Lib.hid (show locI x gs = -1 from locI_none fun i hi => HI.out.2 i (by have := (List.getElem?_eq_some_iff.1 hi).1; rw [HN.out] at this; omega) hi)
      go_wp2_with fail
      go_ret
      exact ⟨by rw [HR.out]; rfl, World.grownBy.trans HG.out HGR.out⟩
end Go.Proofs.YthkjjiijjedipaaDoor
