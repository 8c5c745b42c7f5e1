/- White space and comments: where the scanner stands behind them. -/
import Derived.Test.YtmcokfalkkjgmaaDoorD
namespace Go.Proofs.YtmcokfalkkjgmaaDoor
open Go.RowKit

def spaceEnd (s : ByteArray) (k : Nat) : Nat := adv (fun j => isSpace (cur s j)) (s.size - k) k
def lineEnd (s : ByteArray) (k : Nat) : Nat := adv (fun j => inLine s j) (s.size - k) k
def skipTo (s : ByteArray) : Nat → Nat → Nat
  | 0, k => k
  | n + 1, k => if onCom s (spaceEnd s k) then skipTo s n (lineEnd s (spaceEnd s k)) else spaceEnd s k
def skipEnd (s : ByteArray) (k : Nat) : Nat := skipTo s (s.size + 1 - k) k

theorem spaceEnd_bd {s : ByteArray} {k : Nat} (h : k ≤ s.size) : k ≤ spaceEnd s k ∧ spaceEnd s k ≤ s.size := by
  have := adv_ge (fun j => isSpace (cur s j)) (s.size - k) k
  unfold spaceEnd; omega
theorem lineEnd_bd {s : ByteArray} {k : Nat} (h : k ≤ s.size) : k ≤ lineEnd s k ∧ lineEnd s k ≤ s.size := by
  have := adv_ge (fun j => inLine s j) (s.size - k) k
  unfold lineEnd; omega
theorem onCom_lt {s : ByteArray} {k : Nat} (h : onCom s k = true) : k < s.size := by
  simp [onCom] at h; exact cur_pos (by omega)
theorem lineEnd_com {s : ByteArray} {k : Nat} (h : onCom s k = true) : k + 1 ≤ lineEnd s k := by
  have hk := onCom_lt h
  have hq : inLine s k = true := by
    simp [onCom] at h
    simp [inLine, hk, h.1]
  have := adv_yes (q := fun j => inLine s j) hk hq
  have := adv_ge (fun j => inLine s j) (s.size - (k + 1)) (k + 1)
  unfold lineEnd; omega
theorem skipTo_fuel {s : ByteArray} : ∀ n m k, k ≤ s.size → s.size + 1 - k ≤ n → s.size + 1 - k ≤ m → skipTo s n k = skipTo s m k
  | 0, m, k, hk, h1, h2 => by omega
  | n + 1, 0, k, hk, h1, h2 => by omega
  | n + 1, m + 1, k, hk, h1, h2 => by
    simp only [skipTo]
    cases hc : onCom s (spaceEnd s k)
    · rfl
    · have b1 := spaceEnd_bd hk
      have b2 := lineEnd_bd b1.2
      have b3 := lineEnd_com hc
      simp only [if_true]
      exact skipTo_fuel n m _ b2.2 (by omega) (by omega)
theorem skipEnd_com {s : ByteArray} {k : Nat} (hk : k ≤ s.size) (hc : onCom s (spaceEnd s k) = true) : skipEnd s k = skipEnd s (lineEnd s (spaceEnd s k)) := by
  have b1 := spaceEnd_bd hk
  have b2 := lineEnd_bd b1.2
  have b3 := lineEnd_com hc
  unfold skipEnd
  rw [show s.size + 1 - k = (s.size - k) + 1 by omega]
  simp only [skipTo, hc, if_true]
  exact skipTo_fuel _ _ _ b2.2 (by omega) (by omega)
theorem skipEnd_no {s : ByteArray} {k : Nat} (hk : k ≤ s.size) (hc : onCom s (spaceEnd s k) = false) : skipEnd s k = spaceEnd s k := by
  unfold skipEnd
  rw [show s.size + 1 - k = (s.size - k) + 1 by omega]
  simp [skipTo, hc]
theorem skipTo_bd {s : ByteArray} : ∀ n k, k ≤ s.size → k ≤ skipTo s n k ∧ skipTo s n k ≤ s.size
  | 0, k, h => ⟨Nat.le_refl _, h⟩
  | n + 1, k, h => by
    have b1 := spaceEnd_bd h
    have b2 := lineEnd_bd b1.2
    simp only [skipTo]
    split
    · have := skipTo_bd n _ b2.2; omega
    · exact b1
theorem skipEnd_bd {s : ByteArray} {k : Nat} (h : k ≤ s.size) : k ≤ skipEnd s k ∧ skipEnd s k ≤ s.size := skipTo_bd _ _ h

set_option maxHeartbeats 1000000 in
theorem skip_calls (b k : Nat) (s : ByteArray) (w : World) (hs : s.size ≤ maxLen) (hk : k ≤ s.size) (h : Scan w b s k) :
    Calls Tryd.prog 18 #[.pointer (some ⟨b, 0, none⟩)] w fun e w' => e = .returned (.tuple #[]) ∧ Scan w' b s (skipEnd s k) ∧ w.grownBy w' (some b) := by
  have HS := Lib.hid hs
  go_enter Tryd.func18, Tryd.ntmps18
  go_wp2
  go_loopg [] (s.size + 1 - k) (fun g wr => ∃ j, g = s.size + 1 - j ∧ j ≤ s.size ∧ Scan wr b s j ∧ skipEnd s j = skipEnd s k ∧ w.grownBy wr (some b))
  case atStart => exact ⟨k, rfl, hk, h, rfl, grown_refl _ _⟩
  case round =>
    obtain ⟨j, hg, hj, hsc, ha, hgr⟩ := hrel
    have HG := Lib.hid hg; clear hg
    have HA := Lib.hid ha; clear ha
    have HR := Lib.hid hgr; clear hgr
    have b1 := spaceEnd_bd hj
    have b2 := lineEnd_bd b1.2
    go_wp2_with fail
    refine (while_space b j s _ HS.out hj hsc).mono ?_
    rintro e w1 ⟨rfl, hsc1, hg1⟩
    have hsc1 : Scan w1 b s (spaceEnd s j) := hsc1
    go_wp2_with fail
    refine (onComment_calls b (spaceEnd s j) s _ HS.out hsc1).mono ?_
    rintro e w2 ⟨rfl, n2, rfl⟩
    cases hc : onCom s (spaceEnd s j)
    · have HC := Lib.hid hc; clear hc
      go_wp2
      refine bodyPost_ret (results_none rfl _ _ _) rfl ?_
      refine ⟨rfl, ?_, (HR.out.trans hg1).trans (grown_drewN _ _ _)⟩
      rw [← HA.out, skipEnd_no hj HC.out]
      exact hsc1.drewN _
    · have b3 := lineEnd_com hc
      have HC := Lib.hid hc; clear hc
      go_wp2_with fail
      refine (while_line b (spaceEnd s j) s _ HS.out b1.2 (hsc1.drewN _)).mono ?_
      rintro e w3 ⟨rfl, hsc3, hg3⟩
      go_wp2
      go_roundg (s.size + 1 - lineEnd s (spaceEnd s j))
      case measure => rw [HG.out]; omega
      case rel => exact ⟨lineEnd s (spaceEnd s j), rfl, b2.2, hsc3, by rw [← HA.out]; exact (skipEnd_com hj HC.out).symm, (((HR.out.trans hg1).trans (grown_drewN _ n2 _)).trans hg3)⟩
end Go.Proofs.YtmcokfalkkjgmaaDoor
