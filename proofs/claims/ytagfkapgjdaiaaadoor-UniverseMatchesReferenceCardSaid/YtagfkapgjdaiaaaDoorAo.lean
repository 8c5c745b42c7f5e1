/- The reference's Rank, Ranks and Tuple. -/
import Derived.Test.YtagfkapgjdaiaaaDoorAm
import Derived.Test.YtagfkapgjdaiaaaDoorY
namespace Go.Proofs.YtagfkapgjdaiaaaDoor
open Go.RowKit

theorem inside_lt {N : Nat} {l : List Int} (h : ∀ x ∈ l, inside N x = true) : ∀ d ∈ l.map Int.toNat, d < N := fun d hd => by
  obtain ⟨x, hx, rfl⟩ := List.mem_map.1 hd
  have := h x hx
  simp [inside] at this
  omega
set_option maxRecDepth 100000 in
set_option maxHeartbeats 2000000 in
theorem rRank_calls (zs : List Nat) (a : Option Addr) (c : Nat) (st : Int) (ts : List Int) (ta : Option Addr) (tc : Nat) (w : World) (h : Nums w a c zs) (hz : ∀ z ∈ zs, z ≤ 5) (hl : zs.length ≤ 4) (ht : Ints w ta tc ts) (htl : ts.length ≤ 1000) :
    Calls Tryd.prog 23 #[.agg #[.slice a zs.length c, .int .i64 st], .slice ta ts.length tc] w fun e w' => e = .returned (.int .i64 (rankI (sum zs) ts)) ∧ w.grownBy w' none := by
  obtain ⟨n, hn⟩ : ∃ n, ts.length = n := ⟨_, rfl⟩
  rw [hn] at htl ⊢
  have hsl := sum_le hz
  obtain ⟨N, hN⟩ : ∃ N, sum zs = N := ⟨_, rfl⟩
  rw [hN] at hsl ⊢
  have hN20 : N ≤ 20 := by omega
  have HH := Lib.hid (And.intro h (And.intro hz hl)); clear h hz
  have HT := Lib.hid (And.intro hn ht); clear hn ht
  have HG := Lib.hid (World.grownBy_alloc w (.cells #[.slice a zs.length c, .int .i64 st] 30) none)
  have HN := Lib.hid hN
  clear hsl hl hN
  by_cases h3 : 3 < n
  · have h3I : decide ((3 : Int) < (n : Int)) = true := by simp; omega
    go_enter Tryd.func23, Tryd.ntmps23
    go_wp2_with fail
    go_ret
    exact ⟨by unfold rankI; rw [if_pos (by rw [HT.out.1]; exact h3)]; rfl, HG.out⟩
  · have h3I : decide ((3 : Int) < (n : Int)) = false := by simp; omega
    go_enter Tryd.func23, Tryd.ntmps23
    go_wp2_with fail
    refine (rAtoms_calls zs a c st _ (HH.out.1.grown HG.out) HH.out.2.1 HH.out.2.2).mono ?_
    rintro e w1 ⟨rfl, g1⟩
    rw [HN.out]
    have HG1 := Lib.hid (HG.out.trans g1); clear g1 HG
    go_wp2_with fail
    go_loopg [6, 7] n (fun g s6 s7 wr => ∃ i : Nat, s7 = .int .i64 (i : Int) ∧ s6 = .int .i64 (num N ((ts.take i).map Int.toNat) : Nat) ∧ g = n - i ∧ i ≤ n ∧ (∀ x ∈ ts.take i, inside N x = true) ∧ wr = w1)
    case atStart => exact ⟨0, rfl, rfl, rfl, Nat.zero_le _, fun x hx => by simp at hx, rfl⟩
    case round =>
      obtain ⟨i, rfl, rfl, hgi, hi, hok, rfl⟩ := hrel
      have HGI := Lib.hid (And.intro hgi hok); clear hgi hok
      by_cases hin : i < n
      · have hinB : decide (i < n) = true := by simpa using hin
        have hinI : (i : Int) < (n : Int) := by omega
        obtain ⟨x, hx⟩ : ∃ x, ts[i]? = some x := ⟨_, List.getElem?_eq_getElem (by have := HT.out.1; omega)⟩
        obtain ⟨b, o, rfl, hcell⟩ := (HT.out.2.grown HG1.out).at hx
        have HX := Lib.hid hx; clear hx
        have hS := num_le (base := N) (ds := (ts.take i).map Int.toNat) hN20 (by simp; omega) (inside_lt HGI.out.2)
        have HSN : Hid (∀ d : Nat, (d : Int) = x → num N ((ts.take (i + 1)).map Int.toNat) = num N ((ts.take i).map Int.toNat) * N + d) := Lib.hid (fun d hd => by
          rw [List.take_add_one, HX.out, Option.toList_some, List.map_append, List.map_singleton, num_snoc]
          congr 1
          omega)
        obtain ⟨S, hSe⟩ : ∃ S, num N ((ts.take i).map Int.toNat) = S := ⟨_, rfl⟩
        rw [hSe] at hS HSN ⊢
        clear hSe
        have HR : Hid (inside N x = false → rankI N ts = -1) := Lib.hid (fun hbad => by
          unfold rankI
          rw [if_neg (by rw [HT.out.1]; exact h3), if_neg]
          intro hall
          rw [List.all_eq_true.1 hall x (List.mem_of_getElem? HX.out)] at hbad
          cases hbad)
        by_cases hi1 : x < 0
        · have d1 : decide (x < 0) = true := by simpa using hi1
          go_wp2_with fail
          go_ret
          exact ⟨by rw [HR.out (by simp [inside]; omega)]; rfl, HG1.out⟩
        · have d1 : decide (x < 0) = false := by simpa using hi1
          by_cases hi2 : (N : Int) ≤ x
          · have d2 : decide ((N : Int) ≤ x) = true := by simpa using hi2
            go_wp2_with fail
            go_ret
            exact ⟨by rw [HR.out (by simp [inside]; omega)]; rfl, HG1.out⟩
          · obtain ⟨d, rfl⟩ : ∃ d : Nat, x = (d : Int) := ⟨x.toNat, by omega⟩
            have d2 : decide (N ≤ d) = false := by simp; omega
            have hmul : (S : Int) * (N : Int) ≤ 160000 := by
              have h1 : S * N ≤ 8000 * 20 := Nat.mul_le_mul hS hN20
              have h2 : ((S * N : Nat) : Int) ≤ 160000 := by omega
              rwa [Int.natCast_mul] at h2
            have hmul0 : 0 ≤ (S : Int) * (N : Int) := Int.mul_nonneg (by omega) (by omega)
            have hd20 : (d : Int) ≤ 20 := by omega
            have HI : Hid (inside N (d : Int) = true) := Lib.hid (by simp [inside]; omega)
            clear hi2 hi1
            go_wp2_with fail
            go_roundg (n - (i + 1))
            case measure => rw [HGI.out.1]; omega
            case rel => exact ⟨i + 1, rfl, by rw [HSN.out d rfl]; simp, rfl, by omega, fun y hy => by
              rw [List.take_add_one, HX.out, Option.toList_some, List.mem_append] at hy
              rcases hy with hy | hy
              · exact HGI.out.2 y hy
              · simp at hy; subst hy; exact HI.out, rfl⟩
      · have hie : i = n := by omega
        subst hie
        have hinB : decide (i < i) = false := by simp
        have hti : ts.take i = ts := List.take_of_length_le (by rw [HT.out.1]; exact Nat.le_refl _)
        have HR : Hid (rankI N ts = (num N ((ts.take i).map Int.toNat) : Nat)) := Lib.hid (by
          have h1 := HGI.out.2
          rw [hti] at h1 ⊢
          unfold rankI
          rw [if_neg (by rw [HT.out.1]; exact h3), if_pos (List.all_eq_true.2 h1)])
        clear hti
        go_wp2_with fail
        go_ret
        exact ⟨by rw [HR.out]; rfl, HG1.out⟩

set_option maxRecDepth 100000 in
set_option maxHeartbeats 2000000 in
theorem rRanks_calls (zs : List Nat) (a : Option Addr) (c : Nat) (st : Int) (k : Nat) (w : World) (h : Nums w a c zs) (hz : ∀ z ∈ zs, z ≤ 5) (hl : zs.length ≤ 4) (hk : k ≤ 3) :
    Calls Tryd.prog 33 #[.agg #[.slice a zs.length c, .int .i64 st], .int .i64 (k : Int)] w fun e w' => e = .returned (.int .i64 (sum zs ^ k : Nat)) ∧ w.grownBy w' none := by
  have hsl := sum_le hz
  obtain ⟨N, hN⟩ : ∃ N, sum zs = N := ⟨_, rfl⟩
  rw [hN] at hsl ⊢
  have hN20 : N ≤ 20 := by omega
  obtain ⟨n, hn⟩ : ∃ n, zs.length = n := ⟨_, rfl⟩
  have HA := Lib.hid (fun (W : World) (hW : w.grownBy W none) => by
    have hf := rAtoms_calls zs a c st W (h.grown hW) hz hl
    rw [hN, hn] at hf
    exact hf)
  rw [hn] at ⊢
  have HG := Lib.hid (World.grownBy_alloc w (.cells #[.slice a n c, .int .i64 st] 30) none)
  clear hsl hl hN h hz hn
  go_enter Tryd.func33, Tryd.ntmps33
  go_wp2_with fail
  go_loopg [5, 6] k (fun g s5 s6 wr => ∃ i : Nat, s6 = .int .i64 (i : Int) ∧ s5 = .int .i64 ((N ^ i : Nat) : Int) ∧ g = k - i ∧ i ≤ k ∧ (wr.cell? ⟨w.heap.size, 0, none⟩ = some (.slice a n c) ∧ wr.cell? ⟨w.heap.size, 1, none⟩ = some (.int .i64 st)) ∧ w.grownBy wr none)
  case atStart => exact ⟨0, rfl, rfl, rfl, Nat.zero_le _, ⟨by go_simp, by go_simp⟩, HG.out⟩
  case round =>
    obtain ⟨i, rfl, rfl, hgi, hi, ⟨c0, c1⟩, hgr⟩ := hrel
    have HGI := Lib.hid (And.intro hgi hgr); clear hgi hgr
    by_cases hik : i < k
    · have d1 : decide (i < k) = true := by simpa using hik
      have d2 : decide ((i : Int) < 3) = true := by simp; omega
      have hP : N ^ i ≤ 20 ^ 2 := Nat.le_trans (Nat.pow_le_pow_left hN20 i) (Nat.pow_le_pow_right (by omega) (by omega))
      have HPS : Hid (N ^ (i + 1) = N ^ i * N) := Lib.hid (Nat.pow_succ ..)
      obtain ⟨P, hPP⟩ : ∃ P, N ^ i = P := ⟨_, rfl⟩
      rw [hPP] at hP HPS ⊢
      have hmul : (P : Int) * (N : Int) ≤ 8000 := by
        have h1 : P * N ≤ 20 ^ 2 * 20 := Nat.mul_le_mul hP hN20
        have h2 : ((P * N : Nat) : Int) ≤ 8000 := by omega
        rwa [Int.natCast_mul] at h2
      have hmul0 : 0 ≤ (P : Int) * (N : Int) := Int.mul_nonneg (by omega) (by omega)
      clear hPP hP
      go_wp2_with fail
      refine (HA.out _ HGI.out.2).mono ?_
      rintro e w1 ⟨rfl, g1⟩
      have e0 := g1.cell c0 (by simp)
      have e1 := g1.cell c1 (by simp)
      have HG1 := Lib.hid (HGI.out.2.trans g1); clear g1 c0 c1
      go_wp2_with fail
      go_roundg (k - (i + 1))
      case measure => rw [HGI.out.1]; omega
      case rel => exact ⟨i + 1, rfl, by rw [HPS.out]; simp, rfl, by omega, ⟨e0, e1⟩, HG1.out⟩
    · have hie : i = k := by omega
      subst hie
      have d1 : decide (i < i) = false := by simp
      go_wp2_with fail
      go_ret
      exact ⟨rfl, HGI.out.2⟩
end Go.Proofs.YtagfkapgjdaiaaaDoor
