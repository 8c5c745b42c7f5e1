/- The search for a gate where there is an index. -/
import Derived.Test.YthagoihpppppkaaM1
namespace Go.Proofs.Ythagoihpppppkaa
open Go.RowKit

set_option maxRecDepth 100000 in
set_option maxHeartbeats 4000000 in
theorem find_ix (gs : List Gt) (x : Gt) (fm : Nat) (p b : Nat) (owned : Bool) (va : Option Addr) (vc : Nat) (vis : Int) (w : World) (h : Grw p w owned va vc gs (some b) vis) (hx : WfG x)
    (hone : ∀ (i j : Nat) (g : Gt), gs[i]? = some g → gs[j]? = some g → i = j) :
    Calls Try.prog 64 #[.pointer (some ⟨p, 0, none⟩), gv x, .int .i64 (fm : Int)] w fun e w' => e = .returned (.int .i64 (locI x gs)) ∧ w.grownBy w' none := by
  have hg := World.grownBy_alloc w (.cells #[.int .i64 x.1, .int .i64 x.2.1, .int .i64 x.2.2] 69) none
  have hxc := gate_cells w x
  obtain ⟨W, hW⟩ : ∃ W, w.alloc (.cells #[.int .i64 x.1, .int .i64 x.2.1, .int .i64 x.2.2] 69) = W := ⟨_, rfl⟩
  rw [hW] at hg hxc
  have HX := Lib.hid hxc
  have HG := Lib.hid hg
  have HW := Lib.hid (h.grown hg)
  have HONE := Lib.hid (And.intro hone hx)
  have k2 := HW.out.c2
  have hE := mapnil_eq b
  have hNe := mapnil_ne b
  clear h hone hg hxc hx
  go_enter Try.func64, Try.ntmps64
  go_wp2_with fail
  go_quiet (fail)
  go_wp2_with fail
  obtain ⟨W0, hW0⟩ : ∃ z, W.drewN nq = z := ⟨_, rfl⟩
  have HG0 := Lib.hid (World.grownBy.trans HG.out (show W.grownBy W0 none by rw [← hW0]; exact grown_drewN W nq none))
  have hG0 : W.grownBy W0 none := by rw [← hW0]; exact grown_drewN W nq none
  have HW0 := Lib.hid (HW.out.grown hG0)
  have x0 := hG0.cell HX.out.1 (by simp)
  have x1 := hG0.cell HX.out.2.1 (by simp)
  have x2 := hG0.cell HX.out.2.2 (by simp)
  rw [hW0]
  clear hW hW0 hG0 k2 hE hNe
  have k2 := HW0.out.c2
  obtain ⟨c, hL, hc⟩ := (HW0.out.ix b rfl).2.looks HONE.out.2
  have HC := Lib.hid hc; clear hc
  by_cases hxm : x ∈ gs
  · rw [decide_eq_true hxm] at hL
    have HR := Lib.hid (locI_mem HONE.out.1 HC.out hxm)
    clear hxm
    go_quiet (fail)
    go_wp2_with fail
    go_ret
    exact ⟨by rw [HR.out]; rfl, World.grownBy.trans HG0.out (grown_drewN W0 nq none)⟩
  · rw [decide_eq_false hxm] at hL
    have HR := Lib.hid (locI_not hxm)
    clear hxm
    go_quiet (fail)
    go_wp2_with fail
    go_ret
    exact ⟨by rw [HR.out]; rfl, World.grownBy.trans HG0.out (grown_drewN W0 nq none)⟩
end Go.Proofs.Ythagoihpppppkaa
