/- Texts of the proof: S1. -/
import Derived.Test.YthkjjiijjedipaaDoorCD11
import Derived.Shelf.SlIterI.Nil
import Derived.Shelf.SlIterI.Sorted
import Derived.Shelf.SortM.Plain
import Derived.Shelf.SortM.SortNone
import Derived.Maps.OwnIn
namespace Go.Proofs.YthkjjiijjedipaaDoor
open Go.RowKit Go.Maps Go.Sort Go.Shelf

def Tryd.sortA_ren : Go.Shelf.Ren := ⟨fun | 5 => 52 | 8 => 58 | 7 => 57 | 19 => 70 | 20 => 71 | 10 => 61 | 11 => 62 | 12 => 63 | 13 => 64 | 14 => 65 | 15 => 66 | 16 => 67 | 17 => 68 | 18 => 69 | 30 => 76 | 31 => 77 | 32 => 78 | 33 => 79 | 34 => 80 | 35 => 81 | 40 => 86 | n => n, fun | 23 => 28 | 25 => 3 | 3 => 3 | 32 => 92 | 22 => 28 | 0 => 0 | 44 => 105 | 46 => 107 | 4 => 4 | 36 => 98 | 35 => 97 | 41 => 66 | 5 => 5 | 9 => 9 | 53 => 112 | 57 => 116 | 63 => 121 | 64 => 122 | n => n, fun | n => n⟩
theorem Tryd.sortA : Go.Proofs.SlLaysM.n5 Tryd.prog Tryd.sortA_ren where
  mixed := by kernel_rfl
  f5 := ⟨Tryd.f52.name, of_decide_eq_true (by kernel_rfl), Tryd.func52.trans (congrArg some (by kernel_rfl))⟩
  f7 := ⟨Tryd.f57.name, of_decide_eq_true (by kernel_rfl), Tryd.func57.trans (congrArg some (by kernel_rfl))⟩
  f8 := Tryd.func58.trans (congrArg some (by kernel_rfl))
  f10 := ⟨Tryd.f61.name, of_decide_eq_true (by kernel_rfl), Tryd.func61.trans (congrArg some (by kernel_rfl))⟩
  f11 := ⟨Tryd.f62.name, of_decide_eq_true (by kernel_rfl), Tryd.func62.trans (congrArg some (by kernel_rfl))⟩
  f12 := ⟨Tryd.f63.name, of_decide_eq_true (by kernel_rfl), Tryd.func63.trans (congrArg some (by kernel_rfl))⟩
  f13 := ⟨Tryd.f64.name, of_decide_eq_true (by kernel_rfl), Tryd.func64.trans (congrArg some (by kernel_rfl))⟩
  f14 := ⟨Tryd.f65.name, of_decide_eq_true (by kernel_rfl), Tryd.func65.trans (congrArg some (by kernel_rfl))⟩
  f15 := ⟨Tryd.f66.name, of_decide_eq_true (by kernel_rfl), Tryd.func66.trans (congrArg some (by kernel_rfl))⟩
  f16 := ⟨Tryd.f67.name, of_decide_eq_true (by kernel_rfl), Tryd.func67.trans (congrArg some (by kernel_rfl))⟩
  f17 := ⟨Tryd.f68.name, of_decide_eq_true (by kernel_rfl), Tryd.func68.trans (congrArg some (by kernel_rfl))⟩
  f18 := ⟨Tryd.f69.name, of_decide_eq_true (by kernel_rfl), Tryd.func69.trans (congrArg some (by kernel_rfl))⟩
  f19 := Tryd.func70.trans (congrArg some (by kernel_rfl))
  f20 := Tryd.func71.trans (congrArg some (by kernel_rfl))
  f30 := ⟨Tryd.f76.name, of_decide_eq_true (by kernel_rfl), Tryd.func76.trans (congrArg some (by kernel_rfl))⟩
  f31 := Tryd.func77.trans (congrArg some (by kernel_rfl))
  f32 := Tryd.func78.trans (congrArg some (by kernel_rfl))
  f33 := ⟨Tryd.f79.name, of_decide_eq_true (by kernel_rfl), Tryd.func79.trans (congrArg some (by kernel_rfl))⟩
  f34 := ⟨Tryd.f80.name, of_decide_eq_true (by kernel_rfl), Tryd.func80.trans (congrArg some (by kernel_rfl))⟩
  f35 := ⟨Tryd.f81.name, of_decide_eq_true (by kernel_rfl), Tryd.func81.trans (congrArg some (by kernel_rfl))⟩
  f40 := ⟨Tryd.f86.name, of_decide_eq_true (by kernel_rfl), Tryd.func86.trans (congrArg some (by kernel_rfl))⟩
  t0 := Tryd.underlying0
  a0 := Tryd.isAgg0
  z0 := Tryd.sizeOf0
  v0 := Tryd.zeroValue0
  t3 := Tryd.underlying3
  a3 := Tryd.isAgg3
  z3 := Tryd.sizeOf3
  v3 := Tryd.zeroValue3
  t4 := Tryd.underlying4
  a4 := Tryd.isAgg4
  z4 := Tryd.sizeOf4
  v4 := Tryd.zeroValue4
  t5 := Tryd.underlying5
  a5 := Tryd.isAgg5
  z5 := Tryd.sizeOf5
  v5 := Tryd.zeroValue5
  t9 := Tryd.underlying9
  a9 := Tryd.isAgg9
  z9 := Tryd.sizeOf9
  v9 := Tryd.zeroValue9
  t22 := Tryd.underlying28
  a22 := Tryd.isAgg28
  z22 := Tryd.sizeOf28
  v22 := Tryd.zeroValue28
  t23 := Tryd.underlying28
  a23 := Tryd.isAgg28
  z23 := Tryd.sizeOf28
  v23 := Tryd.zeroValue28
  t25 := Tryd.underlying3
  a25 := Tryd.isAgg3
  z25 := Tryd.sizeOf3
  v25 := Tryd.zeroValue3
  t32 := Tryd.underlying92
  a32 := Tryd.isAgg92
  z32 := Tryd.sizeOf92
  v32 := Tryd.zeroValue92
  t35 := Tryd.underlying97
  a35 := Tryd.isAgg97
  z35 := Tryd.sizeOf97
  v35 := Tryd.zeroValue97
  t36 := Tryd.underlying98
  a36 := Tryd.isAgg98
  z36 := Tryd.sizeOf98
  v36 := Tryd.zeroValue98
  t41 := Tryd.underlying66
  a41 := Tryd.isAgg66
  z41 := Tryd.sizeOf66
  v41 := Tryd.zeroValue66
  t44 := Tryd.underlying105
  a44 := Tryd.isAgg105
  z44 := Tryd.sizeOf105
  v44 := Tryd.zeroValue105
  t46 := Tryd.underlying107
  a46 := Tryd.isAgg107
  z46 := Tryd.sizeOf107
  v46 := Tryd.zeroValue107
  t53 := Tryd.underlying112
  a53 := Tryd.isAgg112
  z53 := Tryd.sizeOf112
  v53 := Tryd.zeroValue112
  t57 := Tryd.underlying116
  a57 := Tryd.isAgg116
  z57 := Tryd.sizeOf116
  v57 := Tryd.zeroValue116
  t63 := Tryd.underlying121
  a63 := Tryd.isAgg121
  z63 := Tryd.sizeOf121
  v63 := Tryd.zeroValue121
  t64 := Tryd.underlying122
  a64 := Tryd.isAgg122
  z64 := Tryd.sizeOf122
  v64 := Tryd.zeroValue122

theorem values_calls (a : Option Addr) (n c : Nat) (w : World) : Calls Tryd.prog 46 #[.slice a n c] w fun e w' => e = .returned (.func (.func 53) #[] #[.pointer (some ⟨w.heap.size, 0, none⟩)]) ∧ w' = w.alloc (.cells #[.slice a n c] 28) := by
  go_enter Tryd.func46, Tryd.ntmps46
  go_wp2
  go_ret
  exact ⟨rfl, rfl⟩
abbrev oneV (x : Int) : Array Value := #[.int .i64 x]
theorem intsW_span {w : World} {a : Option Addr} {c : Nat} {l : List Int} (h : IntsW w a c l) : Span 0 w.heap.size w (fun W => IntsW W a c l) := ⟨Nat.le_refl _, fun W hW => by
  obtain ⟨hc, h | ⟨b, o, ha, hz⟩⟩ := h
  · exact ⟨hc, .inl h⟩
  · exact ⟨hc, .inr ⟨b, o, ha, fun j z hj => (World.cell?_of_block (hW b (Nat.zero_le _) (lies_lt (hz j z hj)))).trans (hz j z hj)⟩⟩⟩

set_option maxRecDepth 100000 in
set_option maxHeartbeats 4000000 in
/-- The iterator over a row. -/
theorem values_gives (zs : List Int) (a : Option Addr) (c Bm B0 : Nat) (w : World) (hm : w.cell? ⟨Bm, 0, none⟩ = some (.slice a zs.length c)) (hz : Span 0 B0 w (fun W => IntsW W a c zs)) (hl : zs.length ≤ 100000) :
    GivesG oneV Fence.wide Tryd.prog 53 #[.pointer (some ⟨Bm, 0, none⟩)] (fun b => b < B0) zs w := by
  intro nn l J Safe hcap hJ hY h0
  obtain ⟨lx, hlx⟩ : ∃ m, zs.length = m := ⟨_, rfl⟩
  rw [hlx] at hl hm
  have HXY := Lib.hid (And.intro hz hlx)
  have HH := Lib.hid (And.intro hJ hY)
  have hlow : Low B0 Safe w w := fun b hb => ⟨rfl, hcap b hb⟩
  have HL := Lib.hid (And.intro hlow h0)
  clear hz hlx hJ hY h0 hcap hlow
  refine callsIn_of_wp Tryd.func53 rfl trivial ?_ rfl
  simp only [Tryd.ntmps53, List.size_toArray, List.length_cons, List.length_nil, Nat.reduceAdd, Nat.reduceSub, Array.replicate_succ, Array.replicate_zero, List.push_toArray, List.append_toArray, List.nil_append, List.cons_append]
  gi_wp2_with fail
  clear hm
  gi_loopg [7] lx (fun g s7 wr => ∃ i : Nat, s7 = .int .i64 (i : Int) ∧ g = lx - i ∧ i ≤ lx ∧ J (zs.take i) wr ∧ Low B0 Safe w wr)
  case atStart => exact ⟨0, rfl, rfl, Nat.zero_le _, HL.out.2, HL.out.1⟩
  case round =>
    obtain ⟨i, rfl, hgi, hi, hj, hlow⟩ := hrel
    have HI := Lib.hid (And.intro hgi (And.intro hj hlow)); clear hgi hj hlow
    by_cases hin : i < lx
    · have hinB : decide (i < lx) = true := by simpa using hin
      have hinI : (i : Int) < (lx : Int) := by omega
      obtain ⟨z, hz⟩ : ∃ z, zs[i]? = some z := ⟨_, List.getElem?_eq_getElem (by rw [HXY.out.2]; exact hin)⟩
      have hxi : IntsW wr a c zs := HXY.out.1.2 wr (fun b _ hb => (HI.out.2.2 b hb).1)
      obtain ⟨b, o, rfl, hcell0⟩ := hxi.at hz
      have hTK : zs.take (i + 1) = zs.take i ++ [z] := by rw [List.take_add_one, hz]; rfl
      have HTK := Lib.hid hTK
      obtain ⟨fn, tmps, assign, body, hy, hRI⟩ := HH.out.2 _ z wr HI.out.2.1 (by rw [← hTK]; exact List.take_prefix _ _)
      simp only [oneV] at hy
      have HRI := Lib.hid hRI
      clear hxi hz hRI hTK
      gi_wp2_with fail
      refine ⟨fun h => (by cases h), HRI.out.mono ?_⟩
      rintro e W3 ⟨rfl, hJ3, hS3⟩
      have H3 := Lib.hid (And.intro hJ3 hS3)
      clear hJ3 hS3
      gi_wp2_with fail
      gi_roundg (lx - (i + 1))
      case measure => rw [HI.out.1]; omega
      case rel => exact ⟨i + 1, rfl, rfl, by omega, by rw [HTK.out]; exact H3.out.1, HI.out.2.2.saved H3.out.2⟩
    · have hie : i = lx := by omega
      subst hie
      have hinB : decide (i < i) = false := by simp
      have HE : Hid (zs.take i = zs) := Lib.hid (List.take_of_length_le (by rw [HXY.out.2]; exact Nat.le_refl _))
      gi_wp2_with fail
      go_end0
      exact ⟨⟨_, rfl⟩, by have := HI.out.2.1; rw [HE.out] at this; exact this⟩
end Go.Proofs.YthkjjiijjedipaaDoor
