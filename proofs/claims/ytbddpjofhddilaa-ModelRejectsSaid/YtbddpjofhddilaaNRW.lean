/- The reference's state at a time. -/
import Derived.Test.YtbddpjofhddilaaNRV
namespace Go.Proofs.Ytbddpjofhddilaa
open Go.RowKit

set_option maxRecDepth 100000 in
set_option maxHeartbeats 2000000 in
theorem rAt_calls (sa : Option Addr) (n sc : Nat) (st : Int) (ta : Option Addr) (L : List (List Rl)) (tc : Nat) (lp t : Int) (w : World) (h : Sts w ta tc L) (hlo : loopedB L.length lp = true) (ht0 : 0 ≤ t) (ht1 : t ≤ 9223372036854775807) :
    Calls Try.prog 27 #[.agg #[.slice sa n sc, .int .i64 st, .slice ta L.length tc, .int .i64 lp], .int .i64 t] w fun e w' =>
      ∃ a' c', e = .returned (.slice a' (atL L lp t).length c') ∧ Rels w' a' c' (atL L lp t) ∧ w.grownBy w' none := by
  have hlo' := loopedB_iff.1 hlo
  obtain ⟨hi0, hi1⟩ := indexI_in hlo'.2.2.1 hlo'.2.2.2 ht0
  obtain ⟨I, hI⟩ : ∃ I : Nat, indexI L.length lp t = (I : Int) := ⟨_, (Int.toNat_of_nonneg hi0).symm⟩
  rw [hI] at hi0 hi1
  obtain ⟨l, hl⟩ : ∃ l, L[I]? = some l := ⟨_, List.getElem?_eq_getElem (by omega)⟩
  have hat : atL L lp t = l := by unfold atL; rw [hI, Int.toNat_natCast, List.getD_eq_getElem?_getD, hl]; rfl
  rw [hat]
  have hg1 := World.grownBy_alloc w (.cells #[.slice sa n sc, .int .i64 st, .slice ta L.length tc, .int .i64 lp] 33) none
  obtain ⟨sb, so, rfl, la, lc, cs, hrels⟩ := (h.grown hg1).2 I l hl
  have hfc := four_cells w (.slice sa n sc) (.int .i64 st) (.slice (some ⟨sb, so, none⟩) L.length tc) (.int .i64 lp) 33
  have HIX := Lib.hid (fun (W' : World) => rIndex_calls sa n sc st (some ⟨sb, so, none⟩) L.length tc lp t W' hlo'.2.1 hlo'.2.2.1 hlo'.2.2.2 ht0 ht1)
  rw [hI] at HIX
  obtain ⟨k, hk⟩ : ∃ k, L.length = k := ⟨_, rfl⟩
  rw [hk] at hi1 HIX hfc hg1 cs hrels ⊢
  obtain ⟨W, hW⟩ : ∃ W, w.alloc (.cells #[.slice sa n sc, .int .i64 st, .slice (some ⟨sb, so, none⟩) k tc, .int .i64 lp] 33) = W := ⟨_, rfl⟩
  rw [hW] at hfc hg1 cs hrels
  obtain ⟨c0, c1, c2, c3⟩ := hfc
  have HST := Lib.hid hrels
  have HG := Lib.hid hg1
  have f0 : decide (t < 0) = false := decide_eq_false (by omega)
  have hIk : (I : Int) < (k : Int) := hi1
  have hk0 : ((k : Int) == 0) = false := by simp; omega
  obtain ⟨p, hp⟩ : ∃ p, l.length = p := ⟨_, rfl⟩
  rw [hp] at cs ⊢
  clear hrels hl hat hI hlo hlo' h hk hp hg1 ht0 hi0
  go_enter Try.func27, Try.ntmps27
  go_wp2_with fail
  clear hW
  go_region_held3 (fun w' => W.grownBy w' none ∧ w'.cell? ⟨w.heap.size, 0, none⟩ = some (.slice sa n sc) ∧ w'.cell? ⟨w.heap.size, 1, none⟩ = some (.int .i64 st) ∧ w'.cell? ⟨w.heap.size, 2, none⟩ = some (.slice (some ⟨sb, so, none⟩) k tc) ∧ w'.cell? ⟨w.heap.size, 3, none⟩ = some (.int .i64 lp) ∧ w'.cell? ⟨sb, so + I, none⟩ = some (.slice la p lc))
    (first | exact ⟨⟨rfl, rfl, rfl, Nat.le_refl _, fun _ _ _ => rfl⟩, c0, c1, c2, c3, cs⟩ | (go_split_ands; exact held_nextM g3 (by assumption) (by assumption) (by assumption) (by assumption) (by assumption) (by assumption)) | fail)
    (first | (go_at_call 81; with_reducible refine (HIX.out _).mono ?_; rintro e w3 ⟨rfl, g3⟩) | fail)
  all_goals
    have h13 : W.grownBy w3 none := by go_split_ands; assumption
    have HS := Lib.hid (And.intro (HST.out.grown h13) (HG.out.trans h13))
    clear h13
    go_wp2
    go_ret
    exact ⟨_, _, rfl, HS.out.1, HS.out.2⟩
end Go.Proofs.Ytbddpjofhddilaa
