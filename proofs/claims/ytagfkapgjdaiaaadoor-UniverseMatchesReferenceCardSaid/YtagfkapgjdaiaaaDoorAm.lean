/- The reference's First, Atoms, SortOf, Rank and Ranks. -/
import Derived.Test.YtagfkapgjdaiaaaDoorX
import Derived.Test.YtagfkapgjdaiaaaDoorR
namespace Go.Proofs.YtagfkapgjdaiaaaDoor
open Go.RowKit

set_option maxHeartbeats 2000000 in
theorem rFirst_calls (zs : List Nat) (a : Option Addr) (c : Nat) (st : Int) (w : World) (h : Nums w a c zs) (hz : ∀ z ∈ zs, z ≤ 5) (hl : zs.length ≤ 4) (m : Nat) (hm : m ≤ zs.length) :
    Calls Tryd.prog 17 #[.agg #[.slice a zs.length c, .int .i64 st], .int .i64 (m : Int)] w fun e w' => e = .returned (.int .i64 (sum (zs.take m) : Nat)) ∧ w.grownBy w' none := by
  obtain ⟨n, hn⟩ : ∃ n, zs.length = n := ⟨_, rfl⟩
  rw [hn] at hl hm ⊢
  have hg := World.grownBy_alloc w (.cells #[.slice a n c, .int .i64 st] 30) none
  have HH := Lib.hid (And.intro hz (And.intro hn (And.intro (h.grown hg) hg))); clear hz hn h hg
  go_enter Tryd.func17, Tryd.ntmps17
  go_wp2_with fail
  obtain ⟨b, hb⟩ : ∃ b, w.heap.size = b := ⟨_, rfl⟩
  have c0 : (w.alloc (.cells #[.slice a n c, .int .i64 st] 30)).cell? ⟨b, 0, none⟩ = some (.slice a n c) := by rw [← hb]; clear hb; go_simp
  obtain ⟨W, hW⟩ : ∃ W, w.alloc (.cells #[.slice a n c, .int .i64 st] 30) = W := ⟨_, rfl⟩
  rw [hW] at HH c0 ⊢
  rw [hb]
  clear hW hb
  go_loopg [5, 6] m (fun gk s5 s6 wr => ∃ i : Nat, s5 = .int .i64 (sum (zs.take i) : Nat) ∧ s6 = .int .i64 (i : Int) ∧ gk = m - i ∧ i ≤ m ∧ wr = W)
  case atStart => exact ⟨0, rfl, rfl, rfl, Nat.zero_le _, rfl⟩
  case round =>
    obtain ⟨i, rfl, rfl, hgi, hi, rfl⟩ := hrel
    have HGI := Lib.hid hgi; clear hgi
    by_cases him : i < m
    · have d1 : decide (i < m) = true := by simpa using him
      have d2 : decide (i < n) = true := by simp; omega
      have hinI : (i : Int) < (n : Int) := by omega
      obtain ⟨z, hz⟩ : ∃ z, zs[i]? = some z := ⟨_, List.getElem?_eq_getElem (by have := HH.out.2.1; omega)⟩
      have hz5 := HH.out.1 z (List.mem_of_getElem? hz)
      obtain ⟨ab, ao, rfl, cz⟩ := HH.out.2.2.1.at hz
      have hs := sum_le (l := zs.take i) (m := 5) (fun y hy => HH.out.1 y (List.mem_of_mem_take hy))
      rw [List.length_take] at hs
      have HSN : Hid (sum (zs.take (i + 1)) = sum (zs.take i) + z) := Lib.hid (by rw [List.take_add_one, hz, Option.toList_some, sum_snoc])
      obtain ⟨S, hS⟩ : ∃ S, sum (zs.take i) = S := ⟨_, rfl⟩
      rw [hS] at hs HSN ⊢
      have hS20 : S ≤ 20 := by omega
      clear hS hs hz
      go_wp2_with fail
      go_roundg (m - (i + 1))
      case measure => rw [HGI.out]; omega
      case rel => exact ⟨i + 1, by rw [HSN.out]; rfl, rfl, rfl, by omega, rfl⟩
    · have hie : i = m := by omega
      subst hie
      have d1 : decide (i < i) = false := by simp
      go_wp2_with fail
      go_ret
      exact ⟨rfl, HH.out.2.2.2⟩

set_option maxHeartbeats 2000000 in
theorem rAtoms_calls (zs : List Nat) (a : Option Addr) (c : Nat) (st : Int) (w : World) (h : Nums w a c zs) (hz : ∀ z ∈ zs, z ≤ 5) (hl : zs.length ≤ 4) :
    Calls Tryd.prog 19 #[.agg #[.slice a zs.length c, .int .i64 st]] w fun e w' => e = .returned (.int .i64 (sum zs : Nat)) ∧ w.grownBy w' none := by
  have HH := Lib.hid (And.intro h hz); clear h hz
  have HL := Lib.hid hl; clear hl
  go_enter Tryd.func19, Tryd.ntmps19
  go_wp2_with fail
  have hg := World.grownBy_alloc w (.cells #[.slice a zs.length c, .int .i64 st] 30) none
  refine (rFirst_calls zs a c st _ (HH.out.1.grown hg) HH.out.2 HL.out zs.length (Nat.le_refl _)).mono ?_
  rintro e w1 ⟨rfl, g1⟩
  rw [List.take_length]
  have HG := Lib.hid (hg.trans g1); clear hg g1
  go_wp2
  go_ret
  exact ⟨rfl, HG.out⟩

theorem sortOf_at (zs : List Nat) (x : Int) : ∀ n i, n + i = zs.length → (sum (zs.take i) : Nat) ≤ x → sortOf zs x n i = if x < (sum (zs.take (i + 1)) : Nat) then (if 0 < n then some i else none) else sortOf zs x (n - 1) (i + 1)
  | 0, i, h, _ => by
    by_cases h1 : x < (sum (zs.take (i + 1)) : Nat)
    · simp [sortOf, h1]
    · simp [sortOf, h1]
  | n + 1, i, h, _ => by simp [sortOf]
set_option maxHeartbeats 2000000 in
theorem rSort_calls (zs : List Nat) (a : Option Addr) (c : Nat) (st x : Int) (w : World) (h : Nums w a c zs) (hz : ∀ z ∈ zs, z ≤ 5) (hl : zs.length ≤ 4) :
    Calls Tryd.prog 21 #[.agg #[.slice a zs.length c, .int .i64 st], .int .i64 x] w fun e w' => e = .returned (.int .i64 (sortI zs x)) ∧ w.grownBy w' none := by
  have HH := Lib.hid (And.intro h hz); clear h hz
  obtain ⟨n, hn⟩ : ∃ n, zs.length = n := ⟨_, rfl⟩
  rw [hn] at hl ⊢
  have HN := Lib.hid hn; clear hn
  have HG := Lib.hid (World.grownBy_alloc w (.cells #[.slice a n c, .int .i64 st] 30) none)
  go_enter Tryd.func21, Tryd.ntmps21
  go_wp2_with fail
  go_loopg [5] n (fun g s5 wr => ∃ (i : Nat), s5 = .int .i64 (i : Int) ∧ g = n - i ∧ i ≤ n ∧ (0 ≤ x → ((sum (zs.take i) : Nat) : Int) ≤ x ∧ sortOf zs x n 0 = sortOf zs x (n - i) i) ∧ (wr.cell? ⟨w.heap.size, 0, none⟩ = some (.slice a n c) ∧ wr.cell? ⟨w.heap.size, 1, none⟩ = some (.int .i64 st)) ∧ w.grownBy wr none)
  case atStart => exact ⟨0, rfl, rfl, Nat.zero_le _, fun h => ⟨by simpa [sum] using h, rfl⟩, ⟨by go_simp, by go_simp⟩, HG.out⟩
  case round =>
    obtain ⟨i, rfl, hgi, hi, hso, ⟨c0, c1⟩, hgr⟩ := hrel
    have HGI := Lib.hid (And.intro hgi hso); clear hgi hso
    have HW := Lib.hid hgr; clear hgr
    have HF := Lib.hid (fun (W : World) (m : Nat) (hm : m ≤ n) (hW : w.grownBy W none) => by
      have hf := rFirst_calls zs a c st W (HH.out.1.grown hW) HH.out.2 (by rw [HN.out]; exact hl) m (by rw [HN.out]; exact hm)
      rw [HN.out] at hf
      exact hf)
    by_cases hin : i < n
    · have hinB : decide (i < n) = true := by simpa using hin
      go_wp2_with fail
      refine (HF.out _ i (by omega) HW.out).mono ?_
      rintro e w1 ⟨rfl, g1⟩
      have hd0 := g1.cell c0 (by simp)
      have hd1 := g1.cell c1 (by simp)
      have HG1 := Lib.hid (HW.out.trans g1); clear g1 c0 c1
      by_cases hlo : ((sum (zs.take i) : Nat) : Int) ≤ x
      · have hx0 : 0 ≤ x := by omega
        have HS := Lib.hid (show sortOf zs x (n - i) i = if x < (sum (zs.take (i + 1)) : Nat) then some i else sortOf zs x (n - (i + 1)) (i + 1) by rw [show n - i = (n - (i + 1)) + 1 by omega]; rfl)
        obtain ⟨S, hS⟩ : ∃ S, sum (zs.take i) = S := ⟨_, rfl⟩
        rw [hS] at hlo ⊢
        have dlo : decide ((S : Int) ≤ x) = true := by simpa using hlo
        clear hS hlo
        go_wp2_with fail
        refine (HF.out _ (i + 1) (by omega) HG1.out).mono ?_
        rintro e w2 ⟨rfl, g2⟩
        have hd0' := g2.cell hd0 (by simp)
        have hd1' := g2.cell hd1 (by simp)
        have HG2 := Lib.hid (HG1.out.trans g2); clear g2 hd0 hd1
        obtain ⟨T, hT⟩ : ∃ T, sum (zs.take (i + 1)) = T := ⟨_, rfl⟩
        rw [hT] at HS ⊢
        have HT := Lib.hid hT; clear hT
        by_cases hxt : x < (T : Int)
        · have dx : decide (x < (T : Int)) = true := by simpa using hxt
          go_wp2_with fail
          go_ret
          refine ⟨?_, HG2.out⟩
          unfold sortI
          rw [if_neg (by omega), HN.out, (HGI.out.2 hx0).2, HS.out, if_pos hxt]
          rfl
        · have dx : decide (x < (T : Int)) = false := by simpa using hxt
          go_wp2_with fail
          go_roundg (n - (i + 1))
          case measure => rw [HGI.out.1]; omega
          case rel => exact ⟨i + 1, rfl, rfl, by omega, fun h0 => ⟨by rw [HT.out]; omega, by rw [(HGI.out.2 h0).2, HS.out, if_neg (by omega)]⟩, ⟨hd0', hd1'⟩, HG2.out⟩
      · have hx0 : x < 0 := by
          rcases Int.lt_or_le x 0 with h | h
          · exact h
          · exact absurd (HGI.out.2 h).1 hlo
        obtain ⟨S, hS⟩ : ∃ S, sum (zs.take i) = S := ⟨_, rfl⟩
        rw [hS] at hlo ⊢
        have dlo : decide ((S : Int) ≤ x) = false := by simpa using hlo
        clear hS hlo
        go_wp2_with fail
        go_roundg (n - (i + 1))
        case measure => rw [HGI.out.1]; omega
        case rel => exact ⟨i + 1, rfl, rfl, by omega, fun h0 => absurd h0 (by omega), ⟨hd0, hd1⟩, HG1.out⟩
    · have hie : i = n := by omega
      subst hie
      have hinB : decide (i < i) = false := by simp
      go_wp2_with fail
      go_ret
      refine ⟨?_, HW.out⟩
      unfold sortI
      by_cases hx : x < 0
      · rw [if_pos hx]; rfl
      · rw [if_neg hx, HN.out, (HGI.out.2 (by omega)).2, Nat.sub_self]; rfl
end Go.Proofs.YtagfkapgjdaiaaaDoor
