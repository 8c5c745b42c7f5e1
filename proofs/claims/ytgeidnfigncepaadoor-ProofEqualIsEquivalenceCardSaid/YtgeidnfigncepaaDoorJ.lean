/- The scanner: one byte is taken, a kind is read. -/
import Derived.Test.YtgeidnfigncepaaDoorD
namespace Go.Proofs.YtgeidnfigncepaaDoor
open Go.RowKit

/-- The scanner in block b: its text s and its place k. -/
structure Scan (w : World) (b : Nat) (s : ByteArray) (k : Nat) : Prop where
  c0 : w.cell? ⟨b, 0, none⟩ = some (.string s)
  c1 : w.cell? ⟨b, 1, none⟩ = some (.int .i64 (k : Int))
  fr : w.frozen? ⟨b, 1, none⟩ = false
theorem Scan.drewN {w : World} {b : Nat} {s : ByteArray} {k : Nat} (h : Scan w b s k) (n : Nat) : Scan (w.drewN n) b s k := ⟨h.c0, h.c1, h.fr⟩
theorem Scan.grown {w w' : World} {b : Nat} {s : ByteArray} {k : Nat} {r : Option Nat} (h : Scan w b s k) (hg : w.grownBy w' r) (hr : some b ≠ r) : Scan w' b s k := by
  have hlt := World.block_lt_of_cell? w _ h.c0
  exact ⟨hg.cell h.c0 hr, hg.cell h.c1 hr, by rw [World.frozen?_of_block (hg.block b hlt hr)]; exact h.fr⟩
theorem Scan.set {w : World} {b : Nat} {s : ByteArray} {k : Nat} (h : Scan w b s k) (j : Nat) (i : Int) (hi : i = j) : Scan (w.setCell ⟨b, 1, none⟩ (.int .i64 i)) b s j := by
  subst hi
  have h0 := h.c0; have h1 := h.c1; have h2 := h.fr
  exact ⟨by go_simp, by go_simp, by go_simp⟩

/-- What is still to be read. -/
def rest (s : ByteArray) (k : Nat) : List UInt8 := s.data.toList.drop k
theorem rest_at {s : ByteArray} {k : Nat} (h : k < s.size) : rest s k = s[k] :: rest s (k + 1) := by
  unfold rest
  rw [List.drop_eq_getElem_cons (by simpa using h)]; rfl
theorem rest_end {s : ByteArray} {k : Nat} (h : ¬ k < s.size) : rest s k = [] := by
  unfold rest
  exact List.drop_eq_nil_of_le (by simp; omega)
theorem rest_length (s : ByteArray) (k : Nat) : (rest s k).length = s.size - k := by
  unfold rest; simp
theorem rest_drop (s : ByteArray) (k n : Nat) : (rest s k).drop n = rest s (k + n) := by unfold rest; rw [List.drop_drop]

/-- Is c the next byte? -/
def nextIs (s : ByteArray) (k : Nat) (c : UInt8) : Bool := decide ((rest s k).head? = some c)
def after (B : Bool) (k : Nat) : Nat := if B then k + 1 else k
theorem nextIs_lt {s : ByteArray} {k : Nat} {c : UInt8} (h : nextIs s k c = true) : k < s.size := by
  rcases Nat.lt_or_ge k s.size with h' | h'
  · exact h'
  · simp [nextIs, rest_end (Nat.not_lt.2 h')] at h
theorem nextIs_cons {s : ByteArray} {k : Nat} {c : UInt8} (h : nextIs s k c = true) : rest s k = c :: rest s (k + 1) := by
  have hlt := nextIs_lt h
  rw [nextIs, rest_at hlt, decide_eq_true_eq, List.head?_cons] at h
  cases h
  exact rest_at hlt
theorem nextIs_not {s : ByteArray} {k : Nat} {c : UInt8} (h : nextIs s k c = false) (u : List UInt8) : rest s k ≠ c :: u := by
  intro e
  rw [nextIs, e, decide_eq_false_iff_not] at h
  exact h rfl

set_option maxHeartbeats 1000000 in
theorem take_calls (b k : Nat) (s : ByteArray) (c : UInt8) (cn : Int) (hc : (c.toNat : Int) = cn) (w : World) (hs : s.size ≤ 2000000) (hk : k ≤ s.size) (h : Scan w b s k) :
    Calls Tryd.prog 25 #[.pointer (some ⟨b, 0, none⟩), .int .u8 cn] w fun e w' => e = .returned (.bool (nextIs s k c)) ∧ Scan w' b s (after (nextIs s k c) k) ∧ w.grownBy w' (some b) := by
  have HS := Lib.hid h
  obtain ⟨c0, c1, fr⟩ := h
  have HC := Lib.hid hc; clear hc
  by_cases hk : k < s.size
  · have hlt : (k : Int) < (s.size : Int) := by omega
    have hd : decide (s.size ≤ k) = false := by simp; omega
    by_cases hq : (s[k].toNat : Int) = cn
    · have hne : ((s[k].toNat : Int) != cn) = false := by simpa using hq
      have HB : Hid (nextIs s k c = true) := Lib.hid (by
        rw [nextIs, rest_at hk, decide_eq_true_eq, List.head?_cons]
        rw [UInt8.toNat_inj.1 (by have := HC.out; omega : s[k].toNat = c.toNat)])
      clear hq
      go_enter Tryd.func25, Tryd.ntmps25
      go_wp2
      go_quiet (fail)
      go_wp2
      go_ret
      exact ⟨by rw [HB.out]; rfl, by rw [HB.out]; exact (HS.out.drewN _).set (k + 1) _ rfl, (grown_drewN _ _ _).trans (grown_set _ _ _ _)⟩
    · have hne : ((s[k].toNat : Int) != cn) = true := by simpa using hq
      have HB : Hid (nextIs s k c = false) := Lib.hid (by
        rw [nextIs, rest_at hk, decide_eq_false_iff_not, List.head?_cons]
        intro e; cases e; exact hq HC.out)
      clear hq
      go_enter Tryd.func25, Tryd.ntmps25
      go_wp2
      go_quiet (fail)
      go_wp2
      go_ret
      exact ⟨by rw [HB.out]; rfl, by rw [HB.out]; exact HS.out.drewN _, grown_drewN _ _ _⟩
  · have hd : decide (s.size ≤ k) = true := by simp; omega
    have HB : Hid (nextIs s k c = false) := Lib.hid (by rw [nextIs, rest_end hk]; rfl)
    go_enter Tryd.func25, Tryd.ntmps25
    go_wp2
    go_quiet (fail)
    go_wp2
    go_ret
    exact ⟨by rw [HB.out]; rfl, by rw [HB.out]; exact HS.out.drewN _, grown_drewN _ _ _⟩

theorem letter_calls (k : Int) (w : World) : Calls Tryd.prog 27 #[.int .i64 k] w fun e w' => e = .returned (.int .u8 ((letB k).toNat : Int)) ∧ w = w' := by
  by_cases h1 : k = 1
  · subst h1
    go_enter Tryd.func27, Tryd.ntmps27
    go_wp2
    go_ret
    exact ⟨rfl, rfl⟩
  have e1 : (k == 1) = false := by simpa using h1
  by_cases h2 : k = 2
  · subst h2
    go_enter Tryd.func27, Tryd.ntmps27
    go_wp2
    go_ret
    exact ⟨rfl, rfl⟩
  have e2 : (k == 2) = false := by simpa using h2
  by_cases h3 : k = 3
  · subst h3
    go_enter Tryd.func27, Tryd.ntmps27
    go_wp2
    go_ret
    exact ⟨rfl, rfl⟩
  have e3 : (k == 3) = false := by simpa using h3
  by_cases h4 : k = 4
  · subst h4
    go_enter Tryd.func27, Tryd.ntmps27
    go_wp2
    go_ret
    exact ⟨rfl, rfl⟩
  have e4 : (k == 4) = false := by simpa using h4
  have HR : Hid (letB k = 0) := Lib.hid (by unfold letB; rw [if_neg h1, if_neg h2, if_neg h3, if_neg h4])
  clear h1 h2 h3 h4
  go_enter Tryd.func27, Tryd.ntmps27
  go_wp2
  go_ret
  exact ⟨by rw [HR.out]; rfl, rfl⟩
end Go.Proofs.YtgeidnfigncepaaDoor
