/- The scanner: the letter of a step. -/
import Derived.Test.YtgeidnfigncepaaDoorJ
namespace Go.Proofs.YtgeidnfigncepaaDoor
open Go.RowKit

def kindAt (s : ByteArray) (k : Nat) : Int := match rest s k with
  | [] => 0
  | c :: _ => kindB c
theorem kindAt_yes {s : ByteArray} {k : Nat} {q : Int} (h : nextIs s k (letB q) = true) (hq : 1 ≤ q ∧ q ≤ 4) : kindAt s k = q := by
  unfold kindAt; rw [nextIs_cons h]; exact kind_let hq
theorem kindAt_no {s : ByteArray} {k : Nat} (h : ∀ q : Int, 1 ≤ q → q ≤ 4 → nextIs s k (letB q) = false) : kindAt s k = 0 := by
  unfold kindAt
  cases hr : rest s k with
  | nil => rfl
  | cons c u =>
    by_cases h0 : kindB c = 0
    · exact h0
    · obtain ⟨e1, e2, e3⟩ := let_kind h0
      have := nextIs_not (h _ e2 e3) u
      rw [e1] at this
      exact absurd hr this

/-- Behind a letter, if there is one. -/
def stepped (z : Int) (k : Nat) : Nat := if z = 0 then k else k + 1
set_option maxHeartbeats 2000000 in
theorem kind_calls (b k : Nat) (s : ByteArray) (w : World) (hs : s.size ≤ 2000000) (hk : k ≤ s.size) (h : Scan w b s k) :
    Calls Tryd.prog 24 #[.pointer (some ⟨b, 0, none⟩)] w fun e w' => e = .returned (.int .i64 (kindAt s k)) ∧ Scan w' b s (stepped (kindAt s k) k) ∧ w.grownBy w' (some b) := by
  have hb := World.block_lt_of_cell? w _ h.c0
  have HS := Lib.hid (And.intro h (And.intro hs (And.intro hk hb))); clear h hs hk hb
  go_enter Tryd.func24, Tryd.ntmps24
  go_wp2_with fail
  obtain ⟨B0, hB0⟩ : ∃ B0, w.heap.size = B0 := ⟨_, rfl⟩
  obtain ⟨W0, hW0⟩ : ∃ W0, w.alloc (.cells #[.int .i64 1, .int .i64 2, .int .i64 3, .int .i64 4] 3) = W0 := ⟨_, rfl⟩
  have hc : ∀ i : Nat, i < 4 → W0.cell? ⟨B0, i, none⟩ = some (.int .i64 ((i : Int) + 1)) := by
    intro i hi
    rw [← hW0, ← hB0, World.cell?_alloc_new]
    match i, hi with
    | 0, _ => rfl
    | 1, _ => rfl
    | 2, _ => rfl
    | 3, _ => rfl
  have hg : w.grownBy W0 (some b) := by rw [← hW0]; exact World.grownBy_alloc _ _ _
  have HW := Lib.hid (And.intro hc (And.intro hg hB0))
  have HSC := Lib.hid (HS.out.1.grown (show w.grownBy W0 none by rw [← hW0]; exact World.grownBy_alloc _ _ _) (by simp))
  rw [hW0, hB0]
  clear hc hg hB0 hW0
  go_loopg [7] 4 (fun g s7 wr => ∃ i : Nat, s7 = .int .i64 (i : Int) ∧ g = 4 - i ∧ i ≤ 4 ∧ (∀ q : Int, 1 ≤ q → q ≤ i → nextIs s k (letB q) = false) ∧ Scan wr b s k ∧ W0.grownBy wr (some b))
  case atStart => exact ⟨0, rfl, rfl, Nat.zero_le _, fun q h1 h2 => by omega, HSC.out, grown_refl _ _⟩
  case round =>
    obtain ⟨i, rfl, hgi, hi, hno, hsc, hgr⟩ := hrel
    have HGI := Lib.hid (And.intro hgi (And.intro hno (And.intro hsc hgr))); clear hgi hno hsc hgr
    by_cases hin : i < 4
    · have hinB : decide (i < 4) = true := by simpa using hin
      have hinB' : decide ((i : Int) < 4) = true := by simp; omega
      have hinI : (i : Int) < 4 := by omega
      have hcell := HGI.out.2.2.2.cell (HW.out.1 i hin) (by have := HS.out.2.2.2; have := HW.out.2.2; simp; omega)
      go_wp2_with fail
      refine (letter_calls _ _).mono ?_
      rintro e w' ⟨rfl, rfl⟩
      go_wp2_with fail
      refine (take_calls b k s (letB ((i : Int) + 1)) _ rfl wr HS.out.2.1 HS.out.2.2.1 HGI.out.2.2.1).mono ?_
      rintro e w' ⟨rfl, hsc', hg'⟩
      obtain ⟨B, hB⟩ : ∃ B, nextIs s k (letB ((i : Int) + 1)) = B := ⟨_, rfl⟩
      rw [hB] at hsc' ⊢
      have HB := Lib.hid (And.intro hB (And.intro hsc' (HGI.out.2.2.2.trans hg'))); clear hB hsc' hg'
      cases B with
      | true =>
        have HK : Hid (kindAt s k = (i : Int) + 1) := Lib.hid (kindAt_yes HB.out.1 ⟨by omega, by omega⟩)
        go_wp2_with fail
        go_ret
        exact ⟨by rw [HK.out]; rfl, by rw [HK.out, stepped, if_neg (by omega)]; exact HB.out.2.1, HW.out.2.1.trans HB.out.2.2⟩
      | false =>
        go_wp2_with fail
        go_roundg (4 - (i + 1))
        case measure => rw [HGI.out.1]; omega
        case rel => exact ⟨i + 1, rfl, rfl, by omega, fun q h1 h2 => by
          by_cases hq : q ≤ i
          · exact HGI.out.2.1 q h1 hq
          · have : q = (i : Int) + 1 := by omega
            rw [this]; exact HB.out.1, HB.out.2.1, HB.out.2.2⟩
    · have hie : i = 4 := by omega
      subst hie
      have HK : Hid (kindAt s k = 0) := Lib.hid (kindAt_no (fun q h1 h2 => HGI.out.2.1 q h1 (by omega)))
      go_wp2_with fail
      go_ret
      exact ⟨by rw [HK.out]; rfl, by rw [HK.out, stepped, if_pos rfl]; exact HGI.out.2.2.1, HW.out.2.1.trans HGI.out.2.2.2⟩
end Go.Proofs.YtgeidnfigncepaaDoor
