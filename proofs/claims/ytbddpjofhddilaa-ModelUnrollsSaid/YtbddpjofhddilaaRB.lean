/- Two relations, two states are compared. -/
import Derived.Test.YtbddpjofhddilaaRA
namespace Go.Proofs.Ytbddpjofhddilaa
open Go.RowKit

set_option maxHeartbeats 1000000 in
theorem equalInts_calls (xs ys : List Int) (a a' : Option Addr) (c c' : Nat) (w : World) (h : IntsW w a c xs) (h' : IntsW w a' c' ys) (hl : (xs.length : Int) ≤ 9223372036854775807) :
    Calls Try.prog 75 #[.slice a xs.length c, .slice a' ys.length c'] w fun e w' => e = .returned (.bool (decide (xs = ys))) ∧ ∃ q, w' = w.drewN q := by
  obtain ⟨n, hn⟩ : ∃ n, xs.length = n := ⟨_, rfl⟩
  obtain ⟨m, hm⟩ : ∃ m, ys.length = m := ⟨_, rfl⟩
  rw [hn] at hl ⊢
  rw [hm]
  have HN := Lib.hid (And.intro hn hm)
  have HH := Lib.hid (And.intro h h'); clear h h'
  by_cases hnm : n = m
  · have hB : ((n : Int) != (m : Int)) = false := by simp; omega
    subst hnm
    clear hn hm
    go_enter Try.func75, Try.ntmps75
    go_wp2
    go_loopg [13] n (fun g s5 wr => ∃ i : Nat, s5 = .int .i64 (i : Int) ∧ g = n - i ∧ i ≤ n ∧ (∀ j, j < i → xs[j]? = ys[j]?) ∧ ∃ q, wr = w.drewN q)
    case atStart => exact ⟨0, rfl, rfl, Nat.zero_le _, fun j hj => absurd hj (Nat.not_lt_zero _), 0, rfl⟩
    case round =>
      obtain ⟨i, rfl, hgi, hi, hok, q, rfl⟩ := hrel
      have HGI := Lib.hid (And.intro hgi hok); clear hgi hok
      by_cases hin : i < n
      · have hinB : decide (i < n) = true := by simpa using hin
        have hinI : (i : Int) < (n : Int) := by omega
        obtain ⟨x, hx⟩ : ∃ x, xs[i]? = some x := ⟨_, List.getElem?_eq_getElem (by rw [HN.out.1]; exact hin)⟩
        obtain ⟨y, hy⟩ : ∃ y, ys[i]? = some y := ⟨_, List.getElem?_eq_getElem (by rw [HN.out.2]; exact hin)⟩
        obtain ⟨b, o, rfl, hcell⟩ := HH.out.1.at hx
        obtain ⟨b', o', rfl, hcell'⟩ := HH.out.2.at hy
        have HX := Lib.hid (And.intro hx hy); clear hx hy
        by_cases hxy : x = y
        · subst hxy
          have hb2 : (x != x) = false := by simp
          go_wp2
          go_quiet (fail)
          go_wp2
          go_roundg (n - (i + 1))
          case measure => rw [HGI.out.1]; omega
          case rel => exact ⟨i + 1, rfl, rfl, by omega, agree_step HGI.out.2 (by rw [HX.out.1, HX.out.2]), _, rfl⟩
        · have hb2 : (x != y) = true := by simpa using hxy
          have HR : Hid (decide (xs = ys) = false) := Lib.hid (decide_eq_false (list_ne HX.out.1 HX.out.2 hxy))
          clear hxy
          go_wp2
          go_quiet (fail)
          go_wp2
          go_ret
          exact ⟨by rw [HR.out]; rfl, _, World.drewN_drewN _ _ _⟩
      · have hie : i = n := by omega
        subst hie
        have hinB : decide (i < i) = false := by simp
        have HR : Hid (decide (xs = ys) = true) := Lib.hid (decide_eq_true (list_eq HN.out.1 HN.out.2 HGI.out.2))
        go_wp2
        go_ret
        exact ⟨by rw [HR.out]; rfl, _, rfl⟩
  · have hB : ((n : Int) != (m : Int)) = true := by simp; omega
    have HR : Hid (decide (xs = ys) = false) := Lib.hid (decide_eq_false (by rintro rfl; omega))
    clear hn hm
    go_enter Try.func75, Try.ntmps75
    go_wp2
    go_ret
    exact ⟨by rw [HR.out]; rfl, 0, rfl⟩

set_option maxHeartbeats 1000000 in
theorem relEqual_calls (x y : Rl) (a a' : Option Addr) (c c' : Nat) (w : World) (h : IntsW w a c x.2) (h' : IntsW w a' c' y.2) (hl : (x.2.length : Int) ≤ 9223372036854775807) :
    Calls Try.prog 67 #[.agg #[.int .i64 x.1, .slice a x.2.length c], .agg #[.int .i64 y.1, .slice a' y.2.length c']] w
      fun e w' => e = .returned (.bool (decide (x = y))) ∧ w.grownBy w' none := by
  obtain ⟨kx, lx⟩ := x
  obtain ⟨ky, ly⟩ := y
  simp only at h h' hl ⊢
  obtain ⟨n, hn⟩ : ∃ n, lx.length = n := ⟨_, rfl⟩
  obtain ⟨m, hm⟩ : ∃ m, ly.length = m := ⟨_, rfl⟩
  have HL := Lib.hid hl; clear hl
  have HH := Lib.hid (And.intro h h'); clear h h'
  have hg : w.grownBy ((w.alloc (.cells #[.int .i64 kx, .slice a lx.length c] 53)).alloc (.cells #[.int .i64 ky, .slice a' ly.length c'] 53)) none := (World.grownBy_alloc _ _ none).trans (World.grownBy_alloc _ _ none)
  rw [hn, hm] at hg ⊢
  have HG := Lib.hid hg; clear hg
  have HN := Lib.hid (And.intro hn hm); clear hn hm
  by_cases hk : kx = ky
  · have k1 : (kx == ky) = true := by simpa using hk
    subst hk
    go_enter Try.func67, Try.ntmps67
    go_wp2_with fail
    have hc := equalInts_calls lx ly a a' c c' _ (HH.out.1.grown HG.out) (HH.out.2.grown HG.out) HL.out
    rw [HN.out.1, HN.out.2] at hc
    refine hc.mono ?_
    clear hc
    rintro e w' ⟨rfl, q, rfl⟩
    have HR : Hid (decide ((kx, lx) = (kx, ly)) = decide (lx = ly)) := Lib.hid (by congr 1; simp)
    go_wp2
    go_ret
    exact ⟨by rw [HR.out]; rfl, HG.out.trans (grown_drewN _ _ _)⟩
  · have k1 : (kx == ky) = false := by simpa using hk
    have HR : Hid (decide ((kx, lx) = (ky, ly)) = false) := Lib.hid (decide_eq_false (by intro e; injection e with e _; exact hk e))
    clear hk
    go_enter Try.func67, Try.ntmps67
    go_wp2_with fail
    go_ret
    exact ⟨by rw [HR.out]; rfl, HG.out⟩

set_option maxHeartbeats 2000000 in
theorem equalRels_calls (l m : List Rl) (a a' : Option Addr) (c c' : Nat) (w : World) (h : Rels w a c l) (h' : Rels w a' c' m) (hlen : Len l) :
    Calls Try.prog 117 #[.slice a l.length c, .slice a' m.length c', .func (.func 67) #[] #[]] w fun e w' => e = .returned (.bool (decide (l = m))) ∧ w.grownBy w' none := by
  obtain ⟨hl, hlits⟩ := hlen
  obtain ⟨n, hn⟩ : ∃ n, l.length = n := ⟨_, rfl⟩
  obtain ⟨n', hn'⟩ : ∃ n', m.length = n' := ⟨_, rfl⟩
  rw [hn] at hl ⊢
  rw [hn']
  have HN := Lib.hid (And.intro hn hn')
  have HH := Lib.hid (And.intro h (And.intro h' hlits)); clear h h' hlits
  by_cases hnm : n = n'
  · have hB : ((n : Int) != (n' : Int)) = false := by simp; omega
    subst hnm
    clear hn hn'
    go_enter Try.func117, Try.ntmps117
    go_wp2
    go_loopg [17] n (fun g s5 wr => ∃ i : Nat, s5 = .int .i64 (i : Int) ∧ g = n - i ∧ i ≤ n ∧ (∀ j, j < i → l[j]? = m[j]?) ∧ w.grownBy wr none)
    case atStart => exact ⟨0, rfl, rfl, Nat.zero_le _, fun j hj => absurd hj (Nat.not_lt_zero _), grown_refl _ _⟩
    case round =>
      obtain ⟨i, rfl, hgi, hi, hok, hgr⟩ := hrel
      have HGI := Lib.hid (And.intro hgi (And.intro hok hgr)); clear hgi hok hgr
      by_cases hin : i < n
      · have hinB : decide (i < n) = true := by simpa using hin
        have hinI : (i : Int) < (n : Int) := by omega
        obtain ⟨x, hx⟩ : ∃ x, l[i]? = some x := ⟨_, List.getElem?_eq_getElem (by rw [HN.out.1]; exact hin)⟩
        obtain ⟨y, hy⟩ : ∃ y, m[i]? = some y := ⟨_, List.getElem?_eq_getElem (by rw [HN.out.2]; exact hin)⟩
        obtain ⟨b, o, rfl, c0, la, lc, c1, hints⟩ := (HH.out.1.grown HGI.out.2.2).2 i x hx
        obtain ⟨b', o', rfl, d0, la', lc', d1, hints'⟩ := (HH.out.2.1.grown HGI.out.2.2).2 i y hy
        have HK := Lib.hid (HH.out.2.2 x (List.mem_of_getElem? hx))
        have HX := Lib.hid (And.intro hx hy); clear hx hy
        have HI := Lib.hid (And.intro hints hints'); clear hints hints'
        have ga := World.grownBy_alloc wr (.cells #[.int .i64 x.1, .slice la x.2.length lc] 53) none
        have f0 := ga.cell d0 (by simp)
        have f1 := ga.cell d1 (by simp)
        have HB := Lib.hid (ga.trans (World.grownBy_alloc _ (.cells #[.int .i64 y.1, .slice la' y.2.length lc'] 53) none))
        clear ga d0 d1
        go_wp2_with fail
        refine (relEqual_calls x y la la' lc lc' _ (HI.out.1.grown HB.out) (HI.out.2.grown HB.out) HK.out).mono ?_
        rintro e w' ⟨rfl, hg⟩
        have HG := Lib.hid (HGI.out.2.2.trans (HB.out.trans hg)); clear hg
        by_cases hxy : x = y
        · have HE : Hid (l[i]? = m[i]?) := Lib.hid (by rw [HX.out.1, HX.out.2, hxy])
          obtain ⟨B, hBB⟩ : ∃ B, decide (x = y) = B := ⟨_, rfl⟩
          have hBt : B = true := by rw [← hBB]; exact decide_eq_true hxy
          rw [hBB]
          subst hBt
          clear hBB hxy
          go_wp2_with fail
          go_roundg (n - (i + 1))
          case measure => rw [HGI.out.1]; omega
          case rel => exact ⟨i + 1, rfl, rfl, by omega, agree_step HGI.out.2.1 HE.out, HG.out⟩
        · have HR : Hid (decide (l = m) = false) := Lib.hid (decide_eq_false (list_ne HX.out.1 HX.out.2 hxy))
          obtain ⟨B, hBB⟩ : ∃ B, decide (x = y) = B := ⟨_, rfl⟩
          have hBt : B = false := by rw [← hBB]; exact decide_eq_false hxy
          rw [hBB]
          subst hBt
          clear hBB hxy
          go_wp2_with fail
          go_ret
          exact ⟨by rw [HR.out]; rfl, HG.out⟩
      · have hie : i = n := by omega
        subst hie
        have hinB : decide (i < i) = false := by simp
        have HR : Hid (decide (l = m) = true) := Lib.hid (decide_eq_true (list_eq HN.out.1 HN.out.2 HGI.out.2.1))
        go_wp2
        go_ret
        exact ⟨by rw [HR.out]; rfl, HGI.out.2.2⟩
  · have hB : ((n : Int) != (n' : Int)) = true := by simp; omega
    have HR : Hid (decide (l = m) = false) := Lib.hid (decide_eq_false (by rintro rfl; omega))
    clear hn hn'
    go_enter Try.func117, Try.ntmps117
    go_wp2
    go_ret
    exact ⟨by rw [HR.out]; rfl, grown_refl _ _⟩

set_option maxHeartbeats 1000000 in
theorem equalStates_calls (l m : List Rl) (a a' : Option Addr) (c c' : Nat) (w : World) (h : Rels w a c l) (h' : Rels w a' c' m) (hl : Len l) :
    Calls Try.prog 77 #[.slice a l.length c, .slice a' m.length c'] w fun e w' => e = .returned (.bool (decide (l = m))) ∧ w.grownBy w' none := by
  go_enter Try.func77, Try.ntmps77
  go_wp2_with fail
  refine (equalRels_calls l m a a' c c' w h h' hl).mono ?_
  rintro e w' ⟨rfl, hg⟩
  have HG := Lib.hid hg; clear hg
  go_wp2
  go_ret
  exact ⟨rfl, HG.out⟩
end Go.Proofs.Ytbddpjofhddilaa
