/- Texts of the proof: M9. -/
import Derived.Test.YthkjjiijjedipaaDoorCD34
import Derived.Recover
import Derived.Test.YthkjjiijjedipaaDoorCD35
namespace Go.Proofs.YthkjjiijjedipaaDoor
open Go.RowKit

theorem catch28_idle (x : Value) (w : World) :
    CallsD Tryd.prog 28 #[x] .returning w fun e u' w' => e = .returned (.tuple #[]) ∧ u' = .returning ∧ w' = w := by
  refine callsD_of_wpS Tryd.func28 rfl fun c₀ cs hu => ?_
  apply wpS_seq
  apply wpS_region
  simp [wpOpsS, go_sem, recoverD, hu, Tryd.ntmps28, Exit.thenS]
  refine wpS_cond (t := false) (by simp [Act.eval, Array.replicate]) ?_
  simp only [Bool.false_eq_true, if_false]
  refine wpS_of_wp (wp_skip ?_)
  cases c₀
  simp_all [bodyPostS, results, Tryd.results28]
set_option maxRecDepth 100000 in
theorem res12 (tmps : Array Value) (w : World) (b : Nat) (v : Int) (a : Option Addr) (n c : Nat) (ht : tmps.getD 6 undef = .pointer (some ⟨b, 0, none⟩)) (h0 : w.cell? ⟨b, 0, none⟩ = some (.int .i64 v)) (h1 : w.cell? ⟨b, 1, none⟩ = some (.slice a n c)) :
    (results Tryd.f12 tmps).run Tryd.prog w = .ok (cnfV v a n c) w := by
  have ht' : tmps[6]?.getD undef = .pointer (some ⟨b, 0, none⟩) := by simpa using ht
  simp [results, ht', go_sem, h0, h1, Result.andThen]
theorem hmf : ∀ (fn : Fn) (first cap : Array Value) (w : World), (Instr.makeFunc fn first cap).run Tryd.prog w = .ok (.func fn first cap) w := fun _ _ _ _ => rfl

theorem sets3 {w : World} {b : Nat} {u0 u1 : Value} (h0 : w.cell? ⟨b, 0, none⟩ = some u0) (h1 : w.cell? ⟨b, 1, none⟩ = some u1) (x y z : Value) :
    (((w.setCell ⟨b, 0, none⟩ x).setCell ⟨b, 0, none⟩ y).setCell ⟨b, 1, none⟩ z).cell? ⟨b, 0, none⟩ = some y ∧ (((w.setCell ⟨b, 0, none⟩ x).setCell ⟨b, 0, none⟩ y).setCell ⟨b, 1, none⟩ z).cell? ⟨b, 1, none⟩ = some z := by
  have a0 := World.cell?_setCell_same w ⟨b, 0, none⟩ x h0
  have a1 : (w.setCell ⟨b, 0, none⟩ x).cell? ⟨b, 1, none⟩ = some u1 := by rw [World.cell?_setCell_other _ _ _ _ (ne_at (by decide))]; exact h1
  have b0 := World.cell?_setCell_same (w.setCell ⟨b, 0, none⟩ x) ⟨b, 0, none⟩ y a0
  have b1 : ((w.setCell ⟨b, 0, none⟩ x).setCell ⟨b, 0, none⟩ y).cell? ⟨b, 1, none⟩ = some u1 := by rw [World.cell?_setCell_other _ _ _ _ (ne_at (by decide))]; exact a1
  exact ⟨by rw [World.cell?_setCell_other _ _ _ _ (ne_at (by decide))]; exact b0, World.cell?_setCell_same _ _ _ b1⟩
theorem sets3b {w : World} {b : Nat} {u0 u1 : Value} (h0 : w.cell? ⟨b, 0, none⟩ = some u0) (h1 : w.cell? ⟨b, 1, none⟩ = some u1) (x y z : Value) :
    (((w.setCell ⟨b, 1, none⟩ x).setCell ⟨b, 0, none⟩ y).setCell ⟨b, 1, none⟩ z).cell? ⟨b, 0, none⟩ = some y ∧ (((w.setCell ⟨b, 1, none⟩ x).setCell ⟨b, 0, none⟩ y).setCell ⟨b, 1, none⟩ z).cell? ⟨b, 1, none⟩ = some z := by
  have a0 : (w.setCell ⟨b, 1, none⟩ x).cell? ⟨b, 0, none⟩ = some u0 := by rw [World.cell?_setCell_other _ _ _ _ (ne_at (by decide))]; exact h0
  have a1 := World.cell?_setCell_same w ⟨b, 1, none⟩ x h1
  have b0 := World.cell?_setCell_same (w.setCell ⟨b, 1, none⟩ x) ⟨b, 0, none⟩ y a0
  have b1 : ((w.setCell ⟨b, 1, none⟩ x).setCell ⟨b, 0, none⟩ y).cell? ⟨b, 1, none⟩ = some x := by rw [World.cell?_setCell_other _ _ _ _ (ne_at (by decide))]; exact a1
  exact ⟨by rw [World.cell?_setCell_other _ _ _ _ (ne_at (by decide))]; exact b0, World.cell?_setCell_same _ _ _ b1⟩
set_option maxRecDepth 100000 in
set_option maxHeartbeats 4000000 in
theorem tse0_calls (m : Nat) (n : Nat) (a : Option Addr) (c : Nat) (w : World) (_hm : m ≤ 100) :
    Calls Tryd.prog 12 #[.agg #[.slice a n c], .int .i64 0, .int .i64 (m : Int)] w fun e w' => e = .returned (cnfV (m : Int) none 0 0) ∧ w.grownBy w' none := by
  have hg1 := World.grownBy_alloc w (.cells #[.slice a n c] 27) none
  obtain ⟨W1, hW1⟩ : ∃ W, w.alloc (.cells #[.slice a n c] 27) = W := ⟨_, rfl⟩
  rw [hW1] at hg1
  have hg2 := World.grownBy_alloc W1 (.cells #[.int .i64 0, .slice none 0 0] 35) none
  have e2 := one_cells W1 (.int .i64 0) (.slice none 0 0) 35
  obtain ⟨W2, hW2⟩ : ∃ W, W1.alloc (.cells #[.int .i64 0, .slice none 0 0] 35) = W := ⟨_, rfl⟩
  rw [hW2] at hg2 e2
  have hmf := hmf
  have HG := Lib.hid (World.grownBy.trans hg1 hg2)
  have HZ := Lib.hid hg1.size
  obtain ⟨_, q0, q1, f0, f1⟩ := e2
  clear hg1 hg2
  go_enter_defers Tryd.func12, Tryd.ntmps12
  go_wp2_with fail
  have HF := Lib.hid (sets3 q0 q1 (.int .i64 (m : Int)) (.int .i64 (m : Int)) (.slice none 0 0))
  have HGF : Hid (w.grownBy (((W2.setCell ⟨W1.heap.size, 0, none⟩ (.int .i64 (m : Int))).setCell ⟨W1.heap.size, 0, none⟩ (.int .i64 (m : Int))).setCell ⟨W1.heap.size, 1, none⟩ (.slice none 0 0)) none) := Lib.hid (grown_own (grown_own (grown_own HG.out (grown_set _ _ _ _) (fun k e => by cases e; exact HZ.out)) (grown_set _ _ _ _) (fun k e => by cases e; exact HZ.out)) (grown_set _ _ _ _) (fun k e => by cases e; exact HZ.out))
  refine leaves_cons (f := 28) (args := #[.pointer (some ⟨W1.heap.size, 0, none⟩)]) (by simp) (by simp [go_sem]) ?_
  refine (catch28_idle _ _).mono ?_
  rintro e u' w'' ⟨rfl, rfl, rfl⟩
  exact ⟨_, res12 _ _ W1.heap.size _ none 0 0 rfl HF.out.1 HF.out.2, rfl, HGF.out⟩

set_option maxRecDepth 100000 in
set_option maxHeartbeats 4000000 in
theorem tse1_span (m : Nat) (n : Nat) (a : Option Addr) (c : Nat) (w : World) (_hm : m ≤ 100) :
    Calls Tryd.prog 12 #[.agg #[.slice a n c], .int .i64 1, .int .i64 (m : Int)] w fun e w' => ∃ a' c', e = .returned (cnfV (m : Int) a' 1 c') ∧ Span w.heap.size w'.heap.size w' (fun W => ClsW W a' c' [[]]) ∧ w.grownBy w' none := by
  have hg1 := World.grownBy_alloc w (.cells #[.slice a n c] 27) none
  obtain ⟨W1, hW1⟩ : ∃ W, w.alloc (.cells #[.slice a n c] 27) = W := ⟨_, rfl⟩
  rw [hW1] at hg1
  have hg2 := World.grownBy_alloc W1 (.cells #[.int .i64 0, .slice none 0 0] 35) none
  have e2 := one_cells W1 (.int .i64 0) (.slice none 0 0) 35
  obtain ⟨W2, hW2⟩ : ∃ W, W1.alloc (.cells #[.int .i64 0, .slice none 0 0] 35) = W := ⟨_, rfl⟩
  rw [hW2] at hg2 e2
  have hmf := hmf
  have HG := Lib.hid (World.grownBy.trans hg1 hg2)
  have HZ := Lib.hid hg1.size
  obtain ⟨_, q0, q1, f0, f1⟩ := e2
  clear hg1 hg2
  go_enter_defers Tryd.func12, Tryd.ntmps12
  go_upto_region 5 with fail
  have p0 := World.cell?_setCell_same W2 ⟨W1.heap.size, 0, none⟩ (.int .i64 (m : Int)) q0
  have p1 : (W2.setCell ⟨W1.heap.size, 0, none⟩ (.int .i64 (m : Int))).cell? ⟨W1.heap.size, 1, none⟩ = some (.slice none 0 0) := by rw [World.cell?_setCell_other _ _ _ _ (ne_at (by decide))]; exact q1
  have pf0 : ∀ o, (W2.setCell ⟨W1.heap.size, 0, none⟩ (.int .i64 (m : Int))).frozen? ⟨W1.heap.size, o, none⟩ = W2.frozen? ⟨W1.heap.size, o, none⟩ := fun o => World.frozen?_setCell _ _ _ _
  have pf1 := (pf0 1).trans f1
  replace pf0 := (pf0 0).trans f0
  have HG3 := Lib.hid (grown_own HG.out (grown_set W2 W1.heap.size 0 (.int .i64 (m : Int))) (fun k e => by cases e; exact HZ.out))
  obtain ⟨pf, hpf⟩ : ∃ z, W1.heap.size = z := ⟨_, rfl⟩
  obtain ⟨W3, hW3⟩ : ∃ z, W2.setCell ⟨W1.heap.size, 0, none⟩ (.int .i64 (m : Int)) = z := ⟨_, rfl⟩
  rw [hW3] at p0 p1 pf0 pf1 HG3 ⊢
  rw [hpf] at p0 p1 pf0 pf1 HZ ⊢
  clear hW3 hpf q0 q1 f0 f1
  have g1 := World.grownBy_alloc W3 (.cells #[] 3) none
  obtain ⟨E1, e1⟩ : ∃ z, W3.alloc (.cells #[] 3) = z := ⟨_, rfl⟩
  rw [e1] at g1
  have g2 := World.grownBy_alloc E1 (.cells #[.slice (some ⟨W3.heap.size, 0, none⟩) 0 0] 28) none
  have c1 := one_cell E1 (.slice (some ⟨W3.heap.size, 0, none⟩) 0 0) 28
  obtain ⟨E2, e2⟩ : ∃ z, E1.alloc (.cells #[.slice (some ⟨W3.heap.size, 0, none⟩) 0 0] 28) = z := ⟨_, rfl⟩
  rw [e2] at g2 c1
  have hlt : pf < W3.heap.size := lies_lt p0
  have HE := Lib.hid (World.grownBy.trans g1 g2)
  have r0 := HE.out.cell p0 (by simp)
  have r1 := HE.out.cell p1 (by simp)
  have rf0 := (grown_frozen HE.out hlt 0).trans pf0
  have rf1 := (grown_frozen HE.out hlt 1).trans pf1
  have HR := Lib.hid (And.intro r0 r1)
  have HC1 := Lib.hid c1.2.1
  have HEL : Hid (w.heap.size ≤ E1.heap.size) := Lib.hid (by have h1 := g1.size; have h2 := HG3.out.size; omega)
  have HNE : Hid (pf ≠ E1.heap.size) := Lib.hid (by have := g1.size; omega)
  clear c1 g1 g2 hlt
  go_wp2_with fail
  have HF := Lib.hid (sets3b HR.out.1 HR.out.2 (.slice (some ⟨E1.heap.size, 0, none⟩) 1 1) (.int .i64 (m : Int)) (.slice (some ⟨E1.heap.size, 0, none⟩) 1 1))
  obtain ⟨WF, hWF⟩ : ∃ z, ((E2.setCell ⟨pf, 1, none⟩ (.slice (some ⟨E1.heap.size, 0, none⟩) 1 1)).setCell ⟨pf, 0, none⟩ (.int .i64 (m : Int))).setCell ⟨pf, 1, none⟩ (.slice (some ⟨E1.heap.size, 0, none⟩) 1 1) = z := ⟨_, rfl⟩
  have HGF : Hid (E2.grownBy WF (some pf)) := Lib.hid (by rw [← hWF]; exact ((grown_set _ _ _ _).trans (grown_set _ _ _ _)).trans (grown_set _ _ _ _))
  rw [hWF] at HF ⊢
  have HCW : Hid (Span w.heap.size WF.heap.size WF (fun W => ClsW W (some ⟨E1.heap.size, 0, none⟩) 1 [[]])) := Lib.hid (by
    have hc := HGF.out.cell HC1.out (fun e => HNE.out (Option.some.inj e).symm)
    have hlt := lies_lt hc
    refine ⟨Nat.le_refl _, fun W hW => ⟨Nat.le_refl _, .inr ⟨E1.heap.size, 0, rfl, fun j z hz => ?_⟩⟩⟩
    match j, hz with
    | 0, hz =>
      simp at hz
      subst hz
      have hb := hW E1.heap.size HEL.out hlt
      exact ⟨_, _, (World.cell?_of_block (a := ⟨E1.heap.size, 0, none⟩) hb).trans hc, intsW_nil _ _ _⟩)
  refine leaves_cons (f := 28) (args := #[.pointer (some ⟨pf, 0, none⟩)]) (by simp) (by simp [go_sem]) ?_
  refine (catch28_idle _ _).mono ?_
  rintro e u' w'' ⟨rfl, rfl, rfl⟩
  exact ⟨_, res12 _ _ pf _ (some ⟨E1.heap.size, 0, none⟩) 1 1 rfl HF.out.1 HF.out.2, _, _, rfl, HCW.out, grown_own (World.grownBy.trans HG3.out HE.out) HGF.out (fun k e => by cases e; exact HZ.out)⟩
end Go.Proofs.YthkjjiijjedipaaDoor
