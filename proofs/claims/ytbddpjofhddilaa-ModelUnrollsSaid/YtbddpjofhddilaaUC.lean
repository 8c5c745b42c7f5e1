/- The rank of a tuple; two equal tuples; two equal relations. -/
import Derived.Test.YtbddpjofhddilaaUB
namespace Go.Proofs.Ytbddpjofhddilaa
open Go.RowKit

theorem num_lt (base : Nat) : ∀ (k : Nat) (ds : List Nat), ds.length = k → (∀ d ∈ ds, d < base) → num base ds < base ^ k
  | 0, ds, hk, _ => by
    have : ds = [] := List.eq_nil_of_length_eq_zero hk
    subst this; simp [num]
  | k + 1, ds, hk, hd => by
    have hne : ds ≠ [] := by intro e; subst e; simp at hk
    rw [← List.dropLast_concat_getLast hne, num_snoc, Nat.pow_succ]
    have h1 := num_lt base k ds.dropLast (by simp; omega) (fun d h => hd d (List.dropLast_subset ds h))
    have h2 := hd _ (List.getLast_mem hne)
    have h3 : (num base ds.dropLast + 1) * base ≤ base ^ k * base := Nat.mul_le_mul_right _ h1
    rw [Nat.add_mul] at h3
    omega
theorem num_le {base : Nat} {ds : List Nat} (hb : base ≤ 20) (hl : ds.length ≤ 3) (hd : ∀ d ∈ ds, d < base) : num base ds ≤ 8000 := by
  have h1 := num_lt base _ ds rfl hd
  have h2 : base ^ ds.length ≤ 20 ^ ds.length := Nat.pow_le_pow_left hb _
  have h3 : 20 ^ ds.length ≤ 20 ^ 3 := Nat.pow_le_pow_right (by omega) hl
  omega

def inside (N : Nat) (x : Int) : Bool := decide (0 ≤ x) && decide (x < (N : Int))
/-- The rank of a tuple over N atoms. -/
def rankI (N : Nat) (ts : List Int) : Int := if 3 < ts.length then -1 else if ts.all (inside N) then (num N (ts.map Int.toNat) : Nat) else -1

set_option maxHeartbeats 1000000 in
theorem rank_calls (zs : List Nat) (a : Option Addr) (c : Nat) (st : Int) (ts : List Int) (ta : Option Addr) (tc : Nat) (w : World) (h : Nums w a c zs) (hz : ∀ z ∈ zs, z ≤ 5) (hl : zs.length ≤ 4) (ht : Ints w ta tc ts) (htl : ts.length ≤ 1000) :
    Calls Try.prog 38 #[.agg #[.slice a zs.length c, .int .i64 st], .slice ta ts.length tc] w fun e w' => e = .returned (.int .i64 (rankI (sum zs) ts)) ∧ w.grownBy w' none := by
  obtain ⟨n, hn⟩ : ∃ n, ts.length = n := ⟨_, rfl⟩
  rw [hn] at htl ⊢
  have hsl := sum_le hz
  obtain ⟨N, hN⟩ : ∃ N, sum zs = N := ⟨_, rfl⟩
  rw [hN] at hsl ⊢
  have hN20 : N ≤ 20 := by omega
  have HH := Lib.hid (And.intro h (And.intro hz hl)); clear h hz
  have HT := Lib.hid (And.intro hn ht); clear hn ht
  have hg := World.grownBy_alloc w (.cells #[.slice a zs.length c, .int .i64 st] 30) none
  have HG := Lib.hid hg; clear hg
  clear hsl hl
  go_enter Try.func38, Try.ntmps38
  go_wp2_with fail
  refine (atoms_calls zs a c st _ (HH.out.1.grown HG.out) HH.out.2.1 HH.out.2.2).mono ?_
  rintro e w1 ⟨rfl, g1⟩
  rw [hN]
  have HG1 := Lib.hid (HG.out.trans g1); clear g1 HG hN
  by_cases h3 : 3 < n
  · have h3B : decide (3 < n) = true := by simp; omega
    have h3I : decide ((3 : Int) < (n : Int)) = true := by simp; omega
    go_wp2
    go_ret
    exact ⟨by unfold rankI; rw [if_pos (by rw [HT.out.1]; exact h3)]; rfl, HG1.out⟩
  · have h3B : decide (3 < n) = false := by simp; omega
    have h3I : decide ((3 : Int) < (n : Int)) = false := by simp; omega
    go_wp2
    go_loopg [7, 15] n (fun g s7 s15 wr => ∃ i : Nat, s15 = .int .i64 (i : Int) ∧ g = n - i ∧ i ≤ n ∧ (∀ j x, j < i → ts[j]? = some x → inside N x = true) ∧ wr = w1)
    case atStart => exact ⟨0, rfl, rfl, Nat.zero_le _, fun j x hj _ => absurd hj (Nat.not_lt_zero _), rfl⟩
    case round =>
      obtain ⟨i, rfl, hgi, hi, hok, rfl⟩ := hrel
      have HGI := Lib.hid (And.intro hgi hok); clear hgi hok
      by_cases hin : i < n
      · have hinB : decide (i < n) = true := by simp; omega
        have hinI : (i : Int) < (n : Int) := by omega
        have hln := HT.out.1
        obtain ⟨x, hx⟩ : ∃ x, ts[i]? = some x := ⟨_, List.getElem?_eq_getElem (by omega)⟩
        obtain ⟨b, o, rfl, hcell⟩ : ∃ b o, ta = some ⟨b, o, none⟩ ∧ wr.cell? ⟨b, o + i, none⟩ = some (.int .i64 x) := by
          obtain ⟨_, ⟨h, _⟩ | ⟨b, o, ha, _, hc⟩⟩ := HT.out.2.grown HG1.out
          · rw [h] at hx; simp at hx
          · exact ⟨b, o, ha, hc i x hx⟩
        have HX := Lib.hid hx; clear hx hln
        by_cases hi1 : x < 0
        · have d1 : decide (x < 0) = true := by simpa using hi1
          have HR : Hid (rankI N ts = -1) := Lib.hid (by
            unfold rankI
            rw [if_neg (by rw [HT.out.1]; exact h3), if_neg]
            intro hall
            have := List.all_eq_true.1 hall x (List.mem_of_getElem? HX.out)
            unfold inside at this; simp at this; omega)
          go_wp2
          go_ret
          exact ⟨by rw [HR.out]; rfl, HG1.out⟩
        · have d1 : decide (x < 0) = false := by simpa using hi1
          by_cases hi2 : (N : Int) ≤ x
          · have d2 : decide ((N : Int) ≤ x) = true := by simpa using hi2
            have HR : Hid (rankI N ts = -1) := Lib.hid (by
              unfold rankI
              rw [if_neg (by rw [HT.out.1]; exact h3), if_neg]
              intro hall
              have := List.all_eq_true.1 hall x (List.mem_of_getElem? HX.out)
              unfold inside at this; simp at this; omega)
            go_wp2
            go_ret
            exact ⟨by rw [HR.out]; rfl, HG1.out⟩
          · have d2 : decide ((N : Int) ≤ x) = false := by simpa using hi2
            have HI : Hid (inside N x = true) := Lib.hid (by unfold inside; simp; omega)
            go_wp2
            go_roundg (n - (i + 1))
            case measure => rw [HGI.out.1]; omega
            case rel => exact ⟨i + 1, rfl, rfl, by omega, fun j y hj hy => by
              by_cases hji : j < i
              · exact HGI.out.2 j y hji hy
              · have : j = i := by omega
                subst this
                rw [HX.out] at hy; cases hy; exact HI.out, rfl⟩
      · have hie : i = n := by omega
        subst hie
        have hinB : decide (i < i) = false := by simp
        have hall : ts.all (inside N) = true := by
          rw [List.all_eq_true]
          intro x hx
          obtain ⟨j, hj⟩ := List.getElem?_of_mem hx
          exact HGI.out.2 j x (by have := (List.getElem?_eq_some_iff.1 hj).1; rw [HT.out.1] at this; exact this) hj
        have hpos : ∀ x ∈ ts, 0 ≤ x ∧ x < (N : Int) := fun x hx => by
          have := List.all_eq_true.1 hall x hx
          unfold inside at this; simpa using this
        have hnl : (ts.map Int.toNat).length = i := by rw [List.length_map, HT.out.1]
        have hdl : ∀ d ∈ ts.map Int.toNat, d < N := fun d hd => by
          obtain ⟨x, hx, rfl⟩ := List.mem_map.1 hd
          have := hpos x hx; omega
        have HR : Hid (rankI N ts = (num N (ts.map Int.toNat) : Nat)) := Lib.hid (by
          unfold rankI
          rw [if_neg (by rw [HT.out.1]; exact h3), if_pos hall])
        have HP := Lib.hid (And.intro hpos (And.intro hnl hdl)); clear hall hpos hnl hdl
        go_wp2_with fail
        have hc := number_calls N (ts.map Int.toNat) ta tc wr ((HT.out.2.grown HG1.out).nums (fun x hx => (HP.out.1 x hx).1)) (by omega) (fun d hd => by have := HP.out.2.2 d hd; omega)
          (fun m => by have := num_le (ds := (ts.map Int.toNat).take m) hN20 (by rw [List.length_take, HP.out.2.1]; omega) (fun d hd => HP.out.2.2 d (List.mem_of_mem_take hd)); omega) (by rw [HP.out.2.1]; omega)
        rw [HP.out.2.1] at hc
        refine hc.mono ?_
        clear hc
        rintro e w2 ⟨rfl, rfl⟩
        go_wp2
        go_ret
        exact ⟨by rw [HR.out]; rfl, HG1.out⟩

end Go.Proofs.Ytbddpjofhddilaa
