/- Which scopes the reference takes for valid; whose atoms a tuple has. -/
import Derived.Test.YtagfkapgjdaiaaaDoorAo
import Derived.Deep.RegionHeld3
namespace Go.Proofs.YtagfkapgjdaiaaaDoor
open Go.RowKit

def sizedR (zs : List Int) (st : Int) : Bool := decide (zs.length ≤ 4) && decide (1 ≤ st) && decide (st ≤ 4) && sized zs && decide (sum (zs.map Int.toNat) ≤ 12)
theorem sized_take {zs : List Int} {i : Nat} {z : Int} (h : sized (zs.take i) = true) (hz : zs[i]? = some z) (h1 : 1 ≤ z ∧ z ≤ 5) : sized (zs.take (i + 1)) = true := by
  unfold sized at *
  rw [List.take_add_one, hz, Option.toList_some, List.all_append, h]
  simp [h1.1, h1.2]
theorem sized_sum {zs : List Int} (h : sized zs = true) (hl : zs.length ≤ 4) : sum (zs.map Int.toNat) ≤ 20 := by
  have h1 := sum_le (l := zs.map Int.toNat) (m := 5) (fun y hy => by
    obtain ⟨z, hz, rfl⟩ := List.mem_map.1 hy
    have := sized_at h hz
    omega)
  rw [List.length_map] at h1
  omega
set_option maxRecDepth 100000 in
set_option maxHeartbeats 4000000 in
theorem rSized_calls (zs : List Int) (a : Option Addr) (c : Nat) (st : Int) (w : World) (h : Ints w a c zs) (hl : zs.length ≤ 1000000) :
    Calls Tryd.prog 30 #[.agg #[.slice a zs.length c, .int .i64 st]] w fun e w' => e = .returned (.bool (sizedR zs st)) ∧ w.grownBy w' none := by
  obtain ⟨n, hn⟩ : ∃ n, zs.length = n := ⟨_, rfl⟩
  rw [hn] at hl ⊢
  have hg := World.grownBy_alloc w (.cells #[.slice a n c, .int .i64 st] 30) none
  have HG := Lib.hid (And.intro (h.grown hg) (And.intro hn hg)); clear h hn hg
  by_cases hbad : 4 < n ∨ st < 1 ∨ 4 < st
  · have HR : Hid (sizedR zs st = false) := Lib.hid (by
      unfold sizedR
      rw [HG.out.2.1]
      rcases hbad with h | h | h
      · rw [show decide (n ≤ 4) = false by simp; omega]; simp
      · rw [show decide (1 ≤ st) = false by simp; omega]; simp
      · rw [show decide (st ≤ 4) = false by simp; omega]; simp)
    have h4 : decide ((4 : Int) < (n : Int)) = true ∨ (decide ((4 : Int) < (n : Int)) = false ∧ decide (st < 1) = true) ∨ (decide ((4 : Int) < (n : Int)) = false ∧ decide (st < 1) = false ∧ decide (4 < st) = true) := by
      by_cases b1 : 4 < n
      · exact .inl (by simp; omega)
      · by_cases b2 : st < 1
        · exact .inr (.inl ⟨by simp; omega, by simpa using b2⟩)
        · exact .inr (.inr ⟨by simp; omega, by simpa using b2, by simp; omega⟩)
    clear hbad
    rcases h4 with e1 | ⟨e1, e2⟩ | ⟨e1, e2, e3⟩
    all_goals
      go_enter Tryd.func30, Tryd.ntmps30
      go_wp2_with fail
      go_ret
      exact ⟨by rw [HR.out]; rfl, HG.out.2.2⟩
  · have e1 : decide ((4 : Int) < (n : Int)) = false := by simp; omega
    have e2 : decide (st < 1) = false := by simp; omega
    have e3 : decide (4 < st) = false := by simp; omega
    have hn4 : n ≤ 4 := by omega
    have HST : Hid (1 ≤ st ∧ st ≤ 4) := Lib.hid (by omega)
    clear hbad
    go_enter Tryd.func30, Tryd.ntmps30
    go_wp2_with fail
    obtain ⟨b, hb⟩ : ∃ b, w.heap.size = b := ⟨_, rfl⟩
    have c0 : (w.alloc (.cells #[.slice a n c, .int .i64 st] 30)).cell? ⟨b, 0, none⟩ = some (.slice a n c) := by rw [← hb]; clear hb; go_simp
    obtain ⟨W, hW⟩ : ∃ W, w.alloc (.cells #[.slice a n c, .int .i64 st] 30) = W := ⟨_, rfl⟩
    rw [hW] at HG c0 ⊢
    rw [hb]
    clear hW hb
    go_loopg [3, 4] n (fun gk s3 s4 wr => ∃ i : Nat, s3 = .int .i64 (sum ((zs.take i).map Int.toNat) : Nat) ∧ s4 = .int .i64 (i : Int) ∧ gk = n - i ∧ i ≤ n ∧ sized (zs.take i) = true ∧ wr = W)
    case atStart => exact ⟨0, rfl, rfl, rfl, Nat.zero_le _, rfl, rfl⟩
    case round =>
      obtain ⟨i, rfl, rfl, hgi, hi, hsz, rfl⟩ := hrel
      have hS20 := sized_sum hsz (by simp; omega)
      have HGI := Lib.hid (And.intro hgi hsz); clear hgi hsz
      by_cases hin : i < n
      · have hinB : decide (i < n) = true := by simpa using hin
        have hinI : (i : Int) < (n : Int) := by omega
        obtain ⟨z, hz⟩ : ∃ z, zs[i]? = some z := ⟨_, List.getElem?_eq_getElem (by have := HG.out.2.1; omega)⟩
        obtain ⟨ab, ao, rfl, cz⟩ := HG.out.1.at hz
        have HZ := Lib.hid hz; clear hz
        have HR : Hid (¬ (1 ≤ z ∧ z ≤ 5) → sizedR zs st = false) := Lib.hid (fun hno => by
          unfold sizedR
          rw [show sized zs = false by
            cases hq : sized zs with
            | false => rfl
            | true => exact absurd (sized_at hq (List.mem_of_getElem? HZ.out)) hno]
          simp)
        by_cases h1 : z < 1
        · have d1 : decide (z < 1) = true := by simpa using h1
          go_wp2_with fail
          go_ret
          exact ⟨by rw [HR.out (by omega)]; rfl, HG.out.2.2⟩
        · have d1 : decide (z < 1) = false := by simpa using h1
          by_cases h5 : 5 < z
          · have d2 : decide (5 < z) = true := by simpa using h5
            go_wp2_with fail
            go_ret
            exact ⟨by rw [HR.out (by omega)]; rfl, HG.out.2.2⟩
          · have d2 : decide (5 < z) = false := by simpa using h5
            have HSN : Hid (((sum ((zs.take (i + 1)).map Int.toNat) : Nat) : Int) = (sum ((zs.take i).map Int.toNat) : Nat) + z) := Lib.hid (by
              rw [List.take_add_one, HZ.out, Option.toList_some, List.map_append, List.map_singleton, sum_snoc]
              omega)
            have HNX := Lib.hid (sized_take HGI.out.2 HZ.out (by omega))
            obtain ⟨S, hS⟩ : ∃ S, sum ((zs.take i).map Int.toNat) = S := ⟨_, rfl⟩
            rw [hS] at hS20 HSN ⊢
            have hz5 : z ≤ 5 := by omega
            have hz1 : 1 ≤ z := by omega
            clear hS h1 h5
            go_wp2_with fail
            go_roundg (n - (i + 1))
            case measure => rw [HGI.out.1]; omega
            case rel => exact ⟨i + 1, by rw [HSN.out], rfl, rfl, by omega, HNX.out, rfl⟩
      · have hie : i = n := by omega
        subst hie
        have hinB : decide (i < i) = false := by simp
        have HR : Hid (sizedR zs st = decide (sum ((zs.take i).map Int.toNat) ≤ 12)) := Lib.hid (by
          have h1 := HGI.out.2
          rw [List.take_of_length_le (by rw [HG.out.2.1]; exact Nat.le_refl _)] at h1 ⊢
          unfold sizedR
          rw [h1, HG.out.2.1, show decide (i ≤ 4) = true by simpa using hn4, show decide (1 ≤ st) = true by simpa using HST.out.1, show decide (st ≤ 4) = true by simpa using HST.out.2]
          simp)
        obtain ⟨S, hS⟩ : ∃ S, sum ((zs.take i).map Int.toNat) = S := ⟨_, rfl⟩
        rw [hS] at HR ⊢
        clear hS hS20
        by_cases h12 : S ≤ 12
        · have d12 : decide ((S : Int) ≤ 12) = true := by simp; omega
          go_wp2_with fail
          go_ret
          exact ⟨by rw [HR.out, show decide (S ≤ 12) = true by simpa using h12]; rfl, HG.out.2.2⟩
        · have d12 : decide ((S : Int) ≤ 12) = false := by simp; omega
          go_wp2_with fail
          go_ret
          exact ⟨by rw [HR.out, show decide (S ≤ 12) = false by simpa using h12]; rfl, HG.out.2.2⟩
theorem validI_sized (k : Nat) (zs : List Int) (st : Int) : validI k zs st = (decide (k = zs.length) && sizedR zs st) := by
  unfold validI sizedR
  by_cases h : zs.length = k
  · subst h; simp
  · have h1 : decide (zs.length = k) = false := by simpa using h
    have h2 : decide (k = zs.length) = false := by simp; omega
    rw [h1, h2]; simp

set_option maxHeartbeats 4000000 in
theorem rValid_calls (sa : Option Addr) (k sc : Nat) (a2 a3 a4 : Option Addr) (n2 c2 n3 c3 n4 c4 : Nat) (zs : List Int) (a : Option Addr) (c : Nat) (st : Int) (w : World) (h : Ints w a c zs) (hl : zs.length ≤ 1000000) :
    Calls Tryd.prog 12 #[.agg #[.slice sa k sc, .slice a2 n2 c2, .slice a3 n3 c3, .slice a4 n4 c4], .agg #[.slice a zs.length c, .int .i64 st]] w fun e w' => e = .returned (.bool (validI k zs st)) ∧ w.grownBy w' none := by
  obtain ⟨n, hn⟩ : ∃ n, zs.length = n := ⟨_, rfl⟩
  have hg1 := World.grownBy_alloc w (.cells #[.slice sa k sc, .slice a2 n2 c2, .slice a3 n3 c3, .slice a4 n4 c4] 27) none
  have hg2 := World.grownBy_alloc (w.alloc (.cells #[.slice sa k sc, .slice a2 n2 c2, .slice a3 n3 c3, .slice a4 n4 c4] 27)) (.cells #[.slice a n c, .int .i64 st] 30) none
  have HG := Lib.hid (hg1.trans hg2); clear hg1 hg2
  have HC := Lib.hid (fun (W : World) (hW : w.grownBy W none) => by
    have hf := rSized_calls zs a c st W (h.grown hW) hl
    rw [hn] at hf
    exact hf)
  have HV : Hid (validI k zs st = (decide (k = n) && sizedR zs st)) := Lib.hid (by rw [validI_sized, hn])
  rw [hn]
  clear h hl hn
  by_cases hk : k = n
  · have dk : ((k : Int) == (n : Int)) = true := by simp; omega
    have HK : Hid (validI k zs st = sizedR zs st) := Lib.hid (by rw [HV.out, show decide (k = n) = true by simpa using hk]; simp)
    subst hk
    go_enter Tryd.func12, Tryd.ntmps12
    go_wp2_with fail
    refine (HC.out _ HG.out).mono ?_
    rintro e w1 ⟨rfl, g1⟩
    have HG1 := Lib.hid (HG.out.trans g1); clear g1
    go_wp2_with fail
    go_ret
    exact ⟨by rw [HK.out]; rfl, HG1.out⟩
  · have dk : ((k : Int) == (n : Int)) = false := by simp; omega
    have HK : Hid (validI k zs st = false) := Lib.hid (by rw [HV.out, show decide (k = n) = false by simpa using hk]; simp)
    go_enter Tryd.func12, Tryd.ntmps12
    go_wp2_with fail
    go_ret
    exact ⟨by rw [HK.out]; rfl, HG.out⟩
end Go.Proofs.YtagfkapgjdaiaaaDoor
