/- Which scopes are valid. -/
import Derived.Test.YtbddpjofhddilaaUC
namespace Go.Proofs.Ytbddpjofhddilaa
open Go.RowKit

/-- Whether a scope is valid, by the sizes of its sorts, its steps and the number of sorts of the specification. -/
def sized (zs : List Int) : Bool := zs.all fun z => decide (1 ≤ z) && decide (z ≤ 5)
def validI (k : Nat) (zs : List Int) (st : Int) : Bool :=
  decide (k ≤ 4) && decide (zs.length = k) && decide (1 ≤ st) && decide (st ≤ 4) && sized zs && decide (sum (zs.map Int.toNat) ≤ 12)

theorem sized_at {zs : List Int} (h : sized zs = true) {z : Int} (hz : z ∈ zs) : 1 ≤ z ∧ z ≤ 5 := by
  have := List.all_eq_true.1 h z hz
  simpa using this

set_option maxHeartbeats 2000000 in
theorem valid_calls (sa : Option Addr) (k sc : Nat) (a2 a3 a4 : Option Addr) (n2 c2 n3 c3 n4 c4 : Nat) (zs : List Int) (a : Option Addr) (c : Nat) (st : Int) (w : World) (h : Ints w a c zs) (hk : k ≤ 1000000) (hl : zs.length ≤ 1000000) :
    Calls Try.prog 63 #[.agg #[.slice sa k sc, .slice a2 n2 c2, .slice a3 n3 c3, .slice a4 n4 c4], .agg #[.slice a zs.length c, .int .i64 st]] w fun e w' => e = .returned (.bool (validI k zs st)) ∧ w.grownBy w' none := by
  obtain ⟨n, hn⟩ : ∃ n, zs.length = n := ⟨_, rfl⟩
  rw [hn] at hl ⊢
  have HN := Lib.hid (And.intro hn h); clear hn h
  have hg1 := World.grownBy_alloc w (.cells #[.slice sa k sc, .slice a2 n2 c2, .slice a3 n3 c3, .slice a4 n4 c4] 27) none
  have hg2 := World.grownBy_alloc (w.alloc (.cells #[.slice sa k sc, .slice a2 n2 c2, .slice a3 n3 c3, .slice a4 n4 c4] 27)) (.cells #[.slice a n c, .int .i64 st] 30) none
  have HG := Lib.hid (hg1.trans hg2); clear hg1 hg2
  by_cases hbad : 4 < k ∨ n ≠ k ∨ st < 1 ∨ 4 < st
  · have HR : Hid (validI k zs st = false) := Lib.hid (by
      unfold validI
      rw [HN.out.1]
      rcases hbad with h | h | h | h
      · rw [show decide (k ≤ 4) = false by simp; omega]; simp
      · rw [show decide (n = k) = false by simpa using h]; simp
      · rw [show decide (1 ≤ st) = false by simp; omega]; simp
      · rw [show decide (st ≤ 4) = false by simp; omega]; simp)
    have h4 : (decide (4 < k) = true ∧ decide ((4 : Int) < (k : Int)) = true) ∨ (decide (4 < k) = false ∧ decide ((4 : Int) < (k : Int)) = false ∧ ((n : Int) != (k : Int)) = true) ∨ (decide (4 < k) = false ∧ decide ((4 : Int) < (k : Int)) = false ∧ ((n : Int) != (k : Int)) = false ∧ decide (st < 1) = true) ∨
        (decide (4 < k) = false ∧ decide ((4 : Int) < (k : Int)) = false ∧ ((n : Int) != (k : Int)) = false ∧ decide (st < 1) = false ∧ decide (4 < st) = true) := by
      by_cases b1 : 4 < k
      · exact .inl ⟨by simpa using b1, by simp; omega⟩
      · have e1 : decide (4 < k) = false := by simpa using b1
        have e1' : decide ((4 : Int) < (k : Int)) = false := by simp; omega
        by_cases b2 : n = k
        · have e2 : ((n : Int) != (k : Int)) = false := by simp; omega
          by_cases b3 : st < 1
          · exact .inr (.inr (.inl ⟨e1, e1', e2, by simpa using b3⟩))
          · exact .inr (.inr (.inr ⟨e1, e1', e2, by simpa using b3, by simp; omega⟩))
        · exact .inr (.inl ⟨e1, e1', by simp; omega⟩)
    clear hbad
    rcases h4 with ⟨e1, e2⟩ | ⟨e1, e2, e3⟩ | ⟨e1, e2, e3, e4⟩ | ⟨e1, e2, e3, e4, e5⟩
    all_goals
      go_enter Try.func63, Try.ntmps63
      go_wp2_with fail
      go_ret
      exact ⟨by rw [HR.out]; rfl, HG.out⟩
  · have hk4 : k ≤ 4 := by omega
    have hnk : n = k := by omega
    subst hnk
    have e1 : decide (4 < n) = false := by simp; omega
    have e2 : decide ((4 : Int) < (n : Int)) = false := by simp; omega
    have e3 : ((n : Int) != (n : Int)) = false := by simp
    have e4 : decide (st < 1) = false := by simp; omega
    have e5 : decide (4 < st) = false := by simp; omega
    have HST : Hid (1 ≤ st ∧ st ≤ 4) := Lib.hid (by omega)
    clear hbad
    go_enter Try.func63, Try.ntmps63
    go_wp2_with fail
    go_loopg [6, 33] n (fun g s6 s33 wr => ∃ i : Nat, s33 = .int .i64 (i : Int) ∧ g = n - i ∧ i ≤ n ∧ (∀ j z, j < i → zs[j]? = some z → 1 ≤ z ∧ z ≤ 5) ∧ wr = (w.alloc (.cells #[.slice sa n sc, .slice a2 n2 c2, .slice a3 n3 c3, .slice a4 n4 c4] 27)).alloc (.cells #[.slice a n c, .int .i64 st] 30))
    case atStart => exact ⟨0, rfl, rfl, Nat.zero_le _, fun j z hj _ => absurd hj (Nat.not_lt_zero _), rfl⟩
    case round =>
      obtain ⟨i, rfl, hgi, hi, hok, rfl⟩ := hrel
      have HGI := Lib.hid (And.intro hgi hok); clear hgi hok
      by_cases hin : i < n
      · have hinB : decide (i < n) = true := by simp; omega
        have hinI : (i : Int) < (n : Int) := by omega
        have hln := HN.out.1
        obtain ⟨x, hx⟩ : ∃ x, zs[i]? = some x := ⟨_, List.getElem?_eq_getElem (by omega)⟩
        obtain ⟨b, o, rfl, hcell⟩ : ∃ b o, a = some ⟨b, o, none⟩ ∧ ((w.alloc (.cells #[.slice sa n sc, .slice a2 n2 c2, .slice a3 n3 c3, .slice a4 n4 c4] 27)).alloc (.cells #[.slice a n c, .int .i64 st] 30)).cell? ⟨b, o + i, none⟩ = some (.int .i64 x) := by
          obtain ⟨_, ⟨h, _⟩ | ⟨b, o, ha, _, hc⟩⟩ := HN.out.2.grown HG.out
          · rw [h] at hx; simp at hx
          · exact ⟨b, o, ha, hc i x hx⟩
        have HX := Lib.hid hx; clear hx hln
        by_cases hx1 : 1 ≤ x ∧ x ≤ 5
        · have d1 : decide (x < 1) = false := by simp; omega
          have d2 : decide (5 < x) = false := by simp; omega
          have HX5 := Lib.hid hx1; clear hx1
          go_wp2
          go_roundg (n - (i + 1))
          case measure => rw [HGI.out.1]; omega
          case rel => exact ⟨i + 1, rfl, rfl, by omega, fun j y hj hy => by
              by_cases hji : j < i
              · exact HGI.out.2 j y hji hy
              · have : j = i := by omega
                subst this
                rw [HX.out] at hy; cases hy; exact HX5.out, rfl⟩
        · have HR : Hid (validI n zs st = false) := Lib.hid (by
            have hs : sized zs = false := by
              cases hs : sized zs with
              | false => rfl
              | true => exact absurd (sized_at hs (List.mem_of_getElem? HX.out)) hx1
            unfold validI
            rw [hs]; simp)
          have hd : decide (x < 1) = true ∨ (decide (x < 1) = false ∧ decide (5 < x) = true) := by
            by_cases h : x < 1
            · exact .inl (by simpa using h)
            · exact .inr ⟨by simpa using h, by simp; omega⟩
          clear hx1
          rcases hd with d1 | ⟨d1, d2⟩
          all_goals
            go_wp2
            go_ret
            exact ⟨by rw [HR.out]; rfl, HG.out⟩
      · have hie : i = n := by omega
        subst hie
        have hinB : decide (i < i) = false := by simp
        have hall : ∀ z ∈ zs, 1 ≤ z ∧ z ≤ 5 := fun z hz => by
          obtain ⟨j, hj⟩ := List.getElem?_of_mem hz
          exact HGI.out.2 j z (by have := (List.getElem?_eq_some_iff.1 hj).1; rw [HN.out.1] at this; exact this) hj
        have HR : Hid (validI i zs st = decide (sum (zs.map Int.toNat) ≤ 12)) := Lib.hid (by
          have hs : sized zs = true := List.all_eq_true.2 (fun z hz => by have := hall z hz; simp; omega)
          unfold validI
          rw [hs, HN.out.1]
          have := HST.out
          simp [hk4, this.1, this.2])
        have HA := Lib.hid hall; clear hall
        go_wp2_with fail
        have hc := atoms_calls (zs.map Int.toNat) a c st _ ((HN.out.2.nums (fun z hz => by have := HA.out z hz; omega)).grown HG.out) (fun d hd => by
          obtain ⟨z, hz, rfl⟩ := List.mem_map.1 hd
          have := HA.out z hz; omega) (by rw [List.length_map, HN.out.1]; omega)
        rw [List.length_map, HN.out.1] at hc
        refine hc.mono ?_
        clear hc
        rintro e w1 ⟨rfl, g1⟩
        have HG1 := Lib.hid (HG.out.trans g1); clear g1
        obtain ⟨S, hS⟩ : ∃ S, sum (zs.map Int.toNat) = S := ⟨_, rfl⟩
        rw [hS] at HR ⊢
        clear hS
        by_cases hS12 : S ≤ 12
        · have dS : decide (S ≤ 12) = true := by simpa using hS12
          have dSI : decide ((S : Int) ≤ 12) = true := by simp; omega
          have HD := Lib.hid dS
          go_wp2
          go_ret
          exact ⟨by rw [HR.out, HD.out]; rfl, HG1.out⟩
        · have dS : decide (S ≤ 12) = false := by simpa using hS12
          have dSI : decide ((S : Int) ≤ 12) = false := by simp; omega
          have HD := Lib.hid dS
          go_wp2
          go_ret
          exact ⟨by rw [HR.out, HD.out]; rfl, HG1.out⟩
end Go.Proofs.Ytbddpjofhddilaa
