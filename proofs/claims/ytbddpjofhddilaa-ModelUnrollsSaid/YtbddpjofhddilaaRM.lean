/- Containment; whether a relation fits. -/
import Derived.Test.YtbddpjofhddilaaRL
namespace Go.Proofs.Ytbddpjofhddilaa
open Go.RowKit

theorem field53 (x : Int) (a : Option Addr) (p c : Nat) (w : World) : (Instr.field 53 (.agg #[.int .i64 x, .slice a p c]) 1).run Try.prog w = .ok (.slice a p c) w := by kernel_rfl

/-- Whether a row lies in another. -/
def inB (xs ys : List Int) : Bool := decide ((diffL xs ys).length = 0)

set_option maxRecDepth 100000 in
set_option maxHeartbeats 2000000 in
theorem in_calls (x y : Int) (xs ys : List Int) (xa ya : Option Addr) (xc yc : Nat) (w : World) (h : IntsW w xa xc xs) (h' : IntsW w ya yc ys) (hl : xs.length ≤ 100000) (hl' : ys.length ≤ 100000) :
    Calls Try.prog 99 #[.agg #[.int .i64 x, .slice xa xs.length xc], .agg #[.int .i64 y, .slice ya ys.length yc]] w fun e w' => e = .returned (.bool (inB xs ys)) ∧ w.grownBy w' none := by
  obtain ⟨n, hn⟩ : ∃ n, xs.length = n := ⟨_, rfl⟩
  obtain ⟨m, hm⟩ : ∃ m, ys.length = m := ⟨_, rfl⟩
  have hg1 := World.grownBy_alloc w (.cells #[.int .i64 x, .slice xa n xc] 53) none
  have hg2 := World.grownBy_alloc (w.alloc (.cells #[.int .i64 x, .slice xa n xc] 53)) (.cells #[.int .i64 y, .slice ya m yc] 53) none
  have hg := hg1.trans hg2
  have HD := Lib.hid (And.intro (diff_calls x y xs ys xa ya xc yc _ (h.grown hg) (h'.grown hg) hl hl') hg)
  rw [hn, hm] at HD ⊢
  obtain ⟨p, hp⟩ : ∃ p, (diffL xs ys).length = p := ⟨_, rfl⟩
  rw [hp] at HD
  have HP : Hid (inB xs ys = decide (p = 0)) := Lib.hid (by rw [inB, hp])
  clear hg hg1 hg2 hn hm h h' hl hl' hp
  go_enter Try.func99, Try.ntmps99
  go_wp2_with fail
  refine HD.out.1.mono ?_
  rintro e w1 ⟨a', c', rfl, -, g1⟩
  have HG := Lib.hid (HD.out.2.trans g1); clear g1
  have hf := field53 x a' p c'
  by_cases hp0 : p = 0
  · have f0 : ((p : Int) == 0) = true := by simp; omega
    have HPP : Hid (inB xs ys = true) := Lib.hid (by rw [HP.out]; simpa using hp0)
    clear hp0
    go_wp2_with fail
    go_ret
    exact ⟨by rw [HPP.out]; rfl, HG.out⟩
  · have f0 : ((p : Int) == 0) = false := by simp; omega
    have HPP : Hid (inB xs ys = false) := Lib.hid (by rw [HP.out]; simpa using hp0)
    clear hp0
    go_wp2_with fail
    go_ret
    exact ⟨by rw [HPP.out]; rfl, HG.out⟩
end Go.Proofs.Ytbddpjofhddilaa
