/- Which specifications are larger than the laws cover. -/
import Derived.Test.YtagfkapgjdaiaaaDoorK
namespace Go.Proofs.YtagfkapgjdaiaaaDoor
open Go.RowKit

def great (ss : List ByteArray) : Bool := decide (20 < ss.length) || ss.any fun s => decide (100 < s.size)
theorem great_no {ss : List ByteArray} (h : great ss = false) : ss.length ≤ 20 ∧ ∀ s ∈ ss, s.size ≤ 100 := by
  simp [great] at h
  exact ⟨h.1, h.2⟩
set_option maxRecDepth 100000 in
set_option maxHeartbeats 2000000 in
theorem great_calls (ss : List ByteArray) (sa : Option Addr) (sc : Nat) (a2 a3 a4 : Option Addr) (n2 c2 n3 c3 n4 c4 : Nat) (w : World) (hs : Named w sa ss) (hsl : (ss.length : Int) ≤ 9223372036854775807) :
    Calls Tryd.prog 10 #[.agg #[.slice sa ss.length sc, .slice a2 n2 c2, .slice a3 n3 c3, .slice a4 n4 c4]] w fun e w' => e = .returned (.bool (great ss)) ∧ w.grownBy w' none := by
  have hg := World.grownBy_alloc w (.cells #[.slice sa ss.length sc, .slice a2 n2 c2, .slice a3 n3 c3, .slice a4 n4 c4] 27) none
  have HN := Lib.hid (And.intro (hs.grown hg) hg); clear hs hg
  obtain ⟨n, hn⟩ : ∃ n, ss.length = n := ⟨_, rfl⟩
  rw [hn] at hsl HN ⊢
  have HL := Lib.hid hn; clear hn
  by_cases hbig : 20 < n
  · have d1 : decide ((20 : Int) < (n : Int)) = true := by simp; omega
    have HR : Hid (great ss = true) := Lib.hid (by simp [great, HL.out, hbig])
    go_enter Tryd.func10, Tryd.ntmps10
    go_wp2_with fail
    go_ret
    exact ⟨by rw [HR.out]; rfl, HN.out.2⟩
  · have d1 : decide ((20 : Int) < (n : Int)) = false := by simp; omega
    go_enter Tryd.func10, Tryd.ntmps10
    go_wp2_with fail
    obtain ⟨b, hb⟩ : ∃ b, w.heap.size = b := ⟨_, rfl⟩
    have c0 : (w.alloc (.cells #[.slice sa n sc, .slice a2 n2 c2, .slice a3 n3 c3, .slice a4 n4 c4] 27)).cell? ⟨b, 0, none⟩ = some (.slice sa n sc) := by rw [← hb]; clear hb; go_simp
    obtain ⟨W, hW⟩ : ∃ W, w.alloc (.cells #[.slice sa n sc, .slice a2 n2 c2, .slice a3 n3 c3, .slice a4 n4 c4] 27) = W := ⟨_, rfl⟩
    rw [hW] at HN c0 ⊢
    rw [hb]
    clear hW hb
    go_loopg [3] n (fun gk s3 wr => ∃ i : Nat, s3 = .int .i64 (i : Int) ∧ gk = n - i ∧ i ≤ n ∧ wr = W ∧ (∀ s ∈ ss.take i, s.size ≤ 100))
    case atStart => exact ⟨0, rfl, rfl, Nat.zero_le _, rfl, fun s hs => by simp at hs⟩
    case round =>
      obtain ⟨i, rfl, hgi, hi, rfl, hall⟩ := hrel
      have HG := Lib.hid (And.intro hgi hall); clear hgi hall
      by_cases hin : i < n
      · have hinB : decide (i < n) = true := by simpa using hin
        have hinI : (i : Int) < (n : Int) := by omega
        obtain ⟨s, hs⟩ : ∃ s, ss[i]? = some s := ⟨_, List.getElem?_eq_getElem (by rw [HL.out]; exact hin)⟩
        obtain ⟨nb, no, rfl, cs⟩ := HN.out.1 i s hs
        have HS := Lib.hid hs; clear hs
        by_cases hsz : 100 < s.size
        · have d2 : decide ((100 : Int) < (s.size : Int)) = true := by simp; omega
          have HR : Hid (great ss = true) := Lib.hid (by simp [great]; exact .inr ⟨s, List.mem_of_getElem? HS.out, hsz⟩)
          go_wp2_with fail
          go_ret
          exact ⟨by rw [HR.out]; rfl, HN.out.2⟩
        · have d2 : decide ((100 : Int) < (s.size : Int)) = false := by simp; omega
          go_wp2_with fail
          go_roundg (n - (i + 1))
          case measure => rw [HG.out.1]; omega
          case rel => exact ⟨i + 1, rfl, rfl, by omega, rfl, fun y hy => by
            rw [List.take_add_one, HS.out, Option.toList_some, List.mem_append] at hy
            rcases hy with hy | hy
            · exact HG.out.2 y hy
            · simp at hy; subst hy; omega⟩
      · have hie : i = n := by omega
        subst hie
        have hinB : decide (i < i) = false := by simp
        have HR : Hid (great ss = false) := Lib.hid (by
          have h1 := HG.out.2
          rw [List.take_of_length_le (by rw [HL.out]; exact Nat.le_refl _)] at h1
          simp [great, HL.out]
          exact ⟨by omega, h1⟩)
        go_wp2_with fail
        go_ret
        exact ⟨by rw [HR.out]; rfl, HN.out.2⟩
end Go.Proofs.YtagfkapgjdaiaaaDoor
