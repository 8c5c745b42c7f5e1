/- Texts of the proof: M4. -/
import Derived.Test.YthkjjiijjedipaaDoorCD09
namespace Go.Proofs.YthkjjiijjedipaaDoor
open Go.RowKit

theorem drewN_more (W : World) (q n k : Nat) : (W.drewN (q + n)).drewN k = W.drewN (q + (n + k)) := by rw [World.drewN_drewN, Nat.add_assoc]
def smallP (l : List (List Int)) : Bool := decide (l.length ≤ 60) && l.all fun z => decide (z.length ≤ 20)
set_option maxHeartbeats 2000000 in
theorem small_calls (v : Int) (l : List (List Int)) (a : Option Addr) (c : Nat) (w : World) (h : ClsW w a c l) (hl : (l.length : Int) ≤ 9223372036854775807) :
    Calls Tryd.prog 20 #[cnfV v a l.length c] w fun e w' => e = .returned (.bool (smallP l)) ∧ w.grownBy w' none := by
  obtain ⟨n, hn⟩ : ∃ n, l.length = n := ⟨_, rfl⟩
  have hg1 := World.grownBy_alloc w (.cells #[.int .i64 v, .slice a n c] 35) none
  have e1 := one_cells w (.int .i64 v) (.slice a n c) 35
  obtain ⟨W1, hW1⟩ : ∃ W, w.alloc (.cells #[.int .i64 v, .slice a n c] 35) = W := ⟨_, rfl⟩
  rw [hW1] at hg1 e1
  have q1 := e1.2.2.1
  have HH := Lib.hid (h.grown hg1)
  have HG := Lib.hid hg1
  have HN := Lib.hid hn
  rw [hn] at hl ⊢
  clear h hg1 e1 hn
  by_cases h60 : 60 < n
  · have d1 : decide (60 < n) = true := decide_eq_true h60
    have d2 : decide (60 < (n : Int)) = true := decide_eq_true (by omega)
    have HR : Hid (smallP l = false) := Lib.hid (by unfold smallP; rw [HN.out, decide_eq_false (by omega : ¬ n ≤ 60)]; rfl)
    go_enter Tryd.func20, Tryd.ntmps20
    go_wp2_with fail
    go_ret
    exact ⟨by rw [HR.out]; rfl, HG.out⟩
  have d1 : decide (60 < n) = false := decide_eq_false h60
  have d2 : decide (60 < (n : Int)) = false := decide_eq_false (by omega)
  go_enter Tryd.func20, Tryd.ntmps20
  go_wp2_with fail
  go_loopg [3] n (fun g s wr => ∃ i : Nat, s = .int .i64 (i : Int) ∧ g = n - i ∧ i ≤ n ∧ (∀ z ∈ l.take i, decide (z.length ≤ 20) = true) ∧ W1 = wr)
  case atStart => exact ⟨0, rfl, rfl, Nat.zero_le _, fun z hz => (by simp at hz), rfl⟩
  case round =>
    obtain ⟨i, rfl, hgi, hi, hok, rfl⟩ := hrel
    have HGI := Lib.hid (And.intro hgi hok); clear hgi hok
    by_cases hin : i < n
    · have hinB : decide (i < n) = true := by simpa using hin
      have hinI : (i : Int) < (n : Int) := by omega
      obtain ⟨z, hz⟩ : ∃ z, l[i]? = some z := ⟨_, List.getElem?_eq_getElem (by rw [HN.out]; exact hin)⟩
      obtain ⟨b, o, a', c', rfl, c0, c1⟩ := HH.out.at hz
      have HX := Lib.hid hz; clear hz c1
      obtain ⟨p, hp⟩ : ∃ p, z.length = p := ⟨_, rfl⟩
      rw [hp] at c0
      have HP := Lib.hid hp; clear hp
      by_cases h20 : 20 < p
      · have d3 : decide (20 < p) = true := decide_eq_true h20
        have d4 : decide (20 < (p : Int)) = true := decide_eq_true (by omega)
        have HR : Hid (smallP l = false) := Lib.hid (by unfold smallP; rw [all_not HX.out (by rw [HP.out]; exact decide_eq_false (by omega)), Bool.and_false])
        go_wp2_with fail
        go_ret
        exact ⟨by rw [HR.out]; rfl, HG.out⟩
      · have d3 : decide (20 < p) = false := decide_eq_false h20
        have d4 : decide (20 < (p : Int)) = false := decide_eq_false (by omega)
        have HY : Hid (decide (z.length ≤ 20) = true) := Lib.hid (by rw [HP.out]; exact decide_eq_true (by omega))
        go_wp2_with fail
        go_roundg (n - (i + 1))
        case measure => rw [HGI.out.1]; omega
        case rel => exact ⟨i + 1, rfl, rfl, by omega, all_step HGI.out.2 HX.out HY.out, rfl⟩
    · have hie : i = n := by omega
      subst hie
      have hinB : decide (i < i) = false := by simp
      have HR : Hid (smallP l = true) := Lib.hid (by unfold smallP; rw [HN.out, decide_eq_true (by omega : i ≤ 60), all_end HN.out HGI.out.2]; rfl)
      go_wp2_with fail
      go_ret
      exact ⟨by rw [HR.out]; rfl, HG.out⟩

set_option maxHeartbeats 2000000 in
theorem same_calls (v v' : Int) (l m : List (List Int)) (a a' : Option Addr) (c c' : Nat) (w : World) (h : ClsW w a c l) (h' : ClsW w a' c' m) (hl : l.length ≤ 60000) (hl2 : ∀ z ∈ l, z.length ≤ 100000) :
    Calls Tryd.prog 23 #[cnfV v a l.length c, cnfV v' a' m.length c'] w fun e w' => e = .returned (.bool (decide (v = v' ∧ l = m))) ∧ w.grownBy w' none := by
  obtain ⟨n, hn⟩ : ∃ n, l.length = n := ⟨_, rfl⟩
  obtain ⟨n', hn'⟩ : ∃ n, m.length = n := ⟨_, rfl⟩
  have hg1 := (World.grownBy_alloc w (.cells #[.int .i64 v, .slice a n c] 35) none).trans (World.grownBy_alloc _ (.cells #[.int .i64 v', .slice a' n' c'] 35) none)
  have e1 := two_cells w (.int .i64 v) (.slice a n c) (.int .i64 v') (.slice a' n' c') 35 35
  have e0 : (w.alloc (.cells #[.int .i64 v, .slice a n c] 35)).heap.size = w.heap.size + 1 := by simp
  obtain ⟨W0, hW0⟩ : ∃ W, w.alloc (.cells #[.int .i64 v, .slice a n c] 35) = W := ⟨_, rfl⟩
  rw [hW0] at hg1 e1 e0
  obtain ⟨W1, hW1⟩ : ∃ W, W0.alloc (.cells #[.int .i64 v', .slice a' n' c'] 35) = W := ⟨_, rfl⟩
  rw [hW1] at hg1 e1
  obtain ⟨_, q0, q1, r0, r1, _, _⟩ := e1
  have HH := Lib.hid (And.intro (h.grown hg1) (h'.grown hg1))
  have HG := Lib.hid hg1
  have HN := Lib.hid (And.intro hn (And.intro hn' hl2))
  rw [hn] at hl ⊢
  rw [hn']
  clear h h' hg1 hn hn' hl2
  by_cases hv : v = v'
  · have k0 : (v != v') = false := by simpa using hv
    subst hv
    have HD : Hid (decide (v = v ∧ l = m) = decide (l = m)) := Lib.hid (by congr 1; simp)
    rw [HD.out]
    by_cases hnn : n = n'
    · have k1 : ((n : Int) != (n' : Int)) = false := by simp; omega
      subst hnn
      go_enter Tryd.func23, Tryd.ntmps23
      go_wp2_with fail
      clear hW0 hW1 e0
      go_loopg [5] n (fun g s wr => ∃ i : Nat, s = .int .i64 (i : Int) ∧ g = n - i ∧ i ≤ n ∧ (∀ j, j < i → l[j]? = m[j]?) ∧ ∃ q, wr = W1.drewN q)
      case atStart => exact ⟨0, rfl, rfl, Nat.zero_le _, fun j hj => absurd hj (Nat.not_lt_zero _), 0, rfl⟩
      case round =>
        obtain ⟨i, rfl, hgi, hi, hok, q, rfl⟩ := hrel
        have HGI := Lib.hid (And.intro hgi hok); clear hgi hok
        by_cases hin : i < n
        · have hinB : decide (i < n) = true := by simpa using hin
          have hinI : (i : Int) < (n : Int) := by omega
          obtain ⟨x, hx⟩ : ∃ x, l[i]? = some x := ⟨_, List.getElem?_eq_getElem (by rw [HN.out.1]; exact hin)⟩
          obtain ⟨y, hy⟩ : ∃ y, m[i]? = some y := ⟨_, List.getElem?_eq_getElem (by rw [HN.out.2.1]; exact hin)⟩
          obtain ⟨b, o, a1, c1, rfl, c0, hi1⟩ := HH.out.1.at hx
          obtain ⟨b2, o2, a2, c2, rfl, d0, hi2⟩ := HH.out.2.at hy
          have hxl := HN.out.2.2 x (List.mem_of_getElem? hx)
          have HX := Lib.hid (And.intro hx hy); clear hx hy
          have HC : Hid (∀ W : World, W1.grownBy W none → Calls Tryd.prog 19 #[.slice a1 x.length c1, .slice a2 y.length c2] W fun e w' => e = .returned (.bool (decide (x = y))) ∧ ∃ q, w' = W.drewN q) := Lib.hid (fun W hW => sameInts_calls x y a1 a2 c1 c2 W (hi1.grown hW) (hi2.grown hW) hxl)
          clear hi1 hi2
          obtain ⟨p, hp⟩ : ∃ p, x.length = p := ⟨_, rfl⟩
          obtain ⟨p', hp'⟩ : ∃ p, y.length = p := ⟨_, rfl⟩
          rw [hp, hp'] at HC
          rw [hp] at c0
          rw [hp'] at d0
          clear hp hp' hxl
          by_cases hk : x = y
          · have HK : Hid (decide (x = y) = true) := Lib.hid (decide_eq_true hk)
            rw [HK.out] at HC
            clear hk
            go_wp2_with fail
            go_quiet (exact (HC.out _ (grown_drewN _ _ _)).mono (fun _ _ h => ⟨h.1, h.2.elim (fun _ hk => ⟨_, hk.trans (drewN_more _ _ _ _)⟩)⟩))
            go_wp2_with fail
            go_roundg (n - (i + 1))
            case measure => rw [HGI.out.1]; omega
            case rel => exact ⟨i + 1, rfl, rfl, by omega, agree_step HGI.out.2 (by rw [HX.out.1, HX.out.2, of_decide_eq_true HK.out]), _, rfl⟩
          · have HK : Hid (decide (x = y) = false) := Lib.hid (decide_eq_false hk)
            rw [HK.out] at HC
            have HR : Hid (decide (l = m) = false) := Lib.hid (decide_eq_false (list_ne HX.out.1 HX.out.2 hk))
            clear hk
            go_wp2_with fail
            go_quiet (exact (HC.out _ (grown_drewN _ _ _)).mono (fun _ _ h => ⟨h.1, h.2.elim (fun _ hk => ⟨_, hk.trans (drewN_more _ _ _ _)⟩)⟩))
            go_wp2_with fail
            go_ret
            exact ⟨by rw [HR.out]; rfl, HG.out.trans ((grown_drewN _ _ _).trans (grown_drewN _ _ _))⟩
        · have hie : i = n := by omega
          subst hie
          have hinB : decide (i < i) = false := by simp
          have HR : Hid (decide (l = m) = true) := Lib.hid (decide_eq_true (list_eq HN.out.1 HN.out.2.1 HGI.out.2))
          go_wp2_with fail
          go_ret
          exact ⟨by rw [HR.out]; rfl, HG.out.trans (grown_drewN _ _ _)⟩
    · have k1 : ((n : Int) != (n' : Int)) = true := by simp; omega
      have HR : Hid (decide (l = m) = false) := Lib.hid (decide_eq_false (by rintro rfl; exact hnn (HN.out.1.symm.trans HN.out.2.1)))
      clear hnn
      go_enter Tryd.func23, Tryd.ntmps23
      go_wp2_with fail
      go_ret
      exact ⟨by rw [HR.out]; rfl, HG.out⟩
  · have k0 : (v != v') = true := by simpa using hv
    have HR : Hid (decide (v = v' ∧ l = m) = false) := Lib.hid (decide_eq_false (fun e => hv e.1))
    clear hv
    go_enter Tryd.func23, Tryd.ntmps23
    go_wp2_with fail
    go_ret
    exact ⟨by rw [HR.out]; rfl, HG.out⟩
end Go.Proofs.YthkjjiijjedipaaDoor
