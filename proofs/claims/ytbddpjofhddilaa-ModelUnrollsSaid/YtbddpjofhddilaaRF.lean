/- The state at a time; the reference's comparisons. -/
import Derived.Test.YtbddpjofhddilaaRD
import Derived.Deep.RegionHeld3
namespace Go.Proofs.Ytbddpjofhddilaa
open Go.RowKit

theorem indexI_in {k : Nat} {lp t : Int} (hl0 : 0 ≤ lp) (hl1 : lp < (k : Int)) (ht : 0 ≤ t) : 0 ≤ indexI k lp t ∧ indexI k lp t < (k : Int) := by
  unfold indexI
  split
  · omega
  · have h1 := Int.emod_nonneg (t - lp) (b := (k : Int) - lp) (by omega)
    have h2 := Int.emod_lt_of_pos (t - lp) (b := (k : Int) - lp) (by omega)
    omega
/-- The state at a time. -/
def atL (L : List (List Rl)) (lp t : Int) : List Rl := L.getD (indexI L.length lp t).toNat []

set_option maxRecDepth 100000 in
set_option maxHeartbeats 1000000 in
theorem at_neg (sa : Option Addr) (n sc : Nat) (st : Int) (ta : Option Addr) (k tc : Nat) (lp t : Int) (w : World) (ht : t < 0) :
    Calls Try.prog 26 #[.agg #[.slice sa n sc, .int .i64 st, .slice ta k tc, .int .i64 lp], .int .i64 t] w fun e w' => e = .returned (.slice none 0 0) ∧ w.grownBy w' none := by
  have HG := Lib.hid (World.grownBy_alloc w (.cells #[.slice sa n sc, .int .i64 st, .slice ta k tc, .int .i64 lp] 33) none)
  have f0 : decide (t < 0) = true := decide_eq_true ht
  clear ht
  go_enter Try.func26, Try.ntmps26
  go_wp2_with fail
  go_ret
  exact ⟨rfl, HG.out⟩

theorem held_nextM {wr W W' : World} {b sb so : Nat} {v0 v1 v2 v3 u : Value} (g : W.grownBy W' none) (h : wr.grownBy W none)
    (h0 : W.cell? ⟨b, 0, none⟩ = some v0) (h1 : W.cell? ⟨b, 1, none⟩ = some v1) (h2 : W.cell? ⟨b, 2, none⟩ = some v2) (h3 : W.cell? ⟨b, 3, none⟩ = some v3) (h4 : W.cell? ⟨sb, so, none⟩ = some u) :
    wr.grownBy W' none ∧ W'.cell? ⟨b, 0, none⟩ = some v0 ∧ W'.cell? ⟨b, 1, none⟩ = some v1 ∧ W'.cell? ⟨b, 2, none⟩ = some v2 ∧ W'.cell? ⟨b, 3, none⟩ = some v3 ∧ W'.cell? ⟨sb, so, none⟩ = some u :=
  ⟨h.trans g, g.cell h0 (by simp), g.cell h1 (by simp), g.cell h2 (by simp), g.cell h3 (by simp), g.cell h4 (by simp)⟩
theorem four_cells (w : World) (u0 u1 u2 u3 : Value) (t : TypeId) : (w.alloc (.cells #[u0, u1, u2, u3] t)).cell? ⟨w.heap.size, 0, none⟩ = some u0 ∧ (w.alloc (.cells #[u0, u1, u2, u3] t)).cell? ⟨w.heap.size, 1, none⟩ = some u1 ∧
    (w.alloc (.cells #[u0, u1, u2, u3] t)).cell? ⟨w.heap.size, 2, none⟩ = some u2 ∧ (w.alloc (.cells #[u0, u1, u2, u3] t)).cell? ⟨w.heap.size, 3, none⟩ = some u3 := by
  refine ⟨by go_simp, by go_simp, by go_simp, by go_simp⟩

set_option maxRecDepth 100000 in
set_option maxHeartbeats 2000000 in
theorem at_calls (sa : Option Addr) (n sc : Nat) (st : Int) (ta : Option Addr) (L : List (List Rl)) (tc : Nat) (lp t : Int) (w : World) (h : Sts w ta tc L) (hlo : loopedB L.length lp = true) (ht0 : 0 ≤ t) (ht1 : t ≤ 9223372036854775807)
    (hr : ∀ l ∈ L, l.length ≤ 100000 ∧ ∀ r ∈ l, r.2.length ≤ 100000) :
    Calls Try.prog 26 #[.agg #[.slice sa n sc, .int .i64 st, .slice ta L.length tc, .int .i64 lp], .int .i64 t] w fun e w' =>
      ∃ a' c', e = .returned (.slice a' (atL L lp t).length c') ∧ Span w.heap.size w'.heap.size w' (fun W => Rels W a' c' (atL L lp t)) ∧ w.grownBy w' none := by
  have hlo' := loopedB_iff.1 hlo
  obtain ⟨hi0, hi1⟩ := indexI_in hlo'.2.2.1 hlo'.2.2.2 ht0
  obtain ⟨I, hI⟩ : ∃ I : Nat, indexI L.length lp t = (I : Int) := ⟨_, (Int.toNat_of_nonneg hi0).symm⟩
  rw [hI] at hi0 hi1
  obtain ⟨l, hl⟩ : ∃ l, L[I]? = some l := ⟨_, List.getElem?_eq_getElem (by omega)⟩
  have hat : atL L lp t = l := by unfold atL; rw [hI, Int.toNat_natCast, List.getD_eq_getElem?_getD, hl]; rfl
  rw [hat]
  have hg1 := World.grownBy_alloc w (.cells #[.slice sa n sc, .int .i64 st, .slice ta L.length tc, .int .i64 lp] 33) none
  obtain ⟨sb, so, rfl, la, lc, cs, hrels⟩ := (h.grown hg1).2 I l hl
  have hfc := four_cells w (.slice sa n sc) (.int .i64 st) (.slice (some ⟨sb, so, none⟩) L.length tc) (.int .i64 lp) 33
  have HIX := Lib.hid (fun (W' : World) => index_calls sa n sc st (some ⟨sb, so, none⟩) L.length tc lp t W' hlo'.2.1 hlo'.2.2.1 hlo'.2.2.2 ht0 ht1)
  have HLO := Lib.hid (fun (W' : World) => looped_calls sa n sc st (some ⟨sb, so, none⟩) L.length tc lp W')
  rw [hI] at HIX
  rw [hlo] at HLO
  obtain ⟨k, hk⟩ : ∃ k, L.length = k := ⟨_, rfl⟩
  rw [hk] at hi1 HIX HLO hfc hg1 cs hrels ⊢
  obtain ⟨W, hW⟩ : ∃ W, w.alloc (.cells #[.slice sa n sc, .int .i64 st, .slice (some ⟨sb, so, none⟩) k tc, .int .i64 lp] 33) = W := ⟨_, rfl⟩
  rw [hW] at hfc hg1 cs hrels
  obtain ⟨c0, c1, c2, c3⟩ := hfc
  have hrl := hr l (List.mem_of_getElem? hl)
  have HST := Lib.hid (fun (W' : World) (hW' : W.grownBy W' none) => cloneState_calls l la lc W' (hrels.grown hW') hrl.1 hrl.2)
  have HG := Lib.hid hg1
  have f0 : decide (t < 0) = false := decide_eq_false (by omega)
  have hIk : (I : Int) < (k : Int) := hi1
  obtain ⟨p, hp⟩ : ∃ p, l.length = p := ⟨_, rfl⟩
  rw [hp] at cs HST ⊢
  clear hrels hrl hr hl hat hI hlo hlo' h hk hp hg1 ht0 hi0
  go_enter Try.func26, Try.ntmps26
  go_wp2_with fail
  clear hW
  refine (HLO.out _).mono ?_
  rintro e W1 ⟨rfl, g1⟩
  have d0 := g1.cell c0 (by simp)
  have d1 := g1.cell c1 (by simp)
  have d2 := g1.cell c2 (by simp)
  have d3 := g1.cell c3 (by simp)
  have ds := g1.cell cs (by simp)
  have HG1 := Lib.hid g1; clear g1 c0 c1 c2 c3 cs
  have HST1 := Lib.hid (fun (W' : World) (hW' : W1.grownBy W' none) => HST.out W' (HG1.out.trans hW'))
  go_wp2_with fail
  go_region_held3 (fun w' => W1.grownBy w' none ∧ w'.cell? ⟨w.heap.size, 0, none⟩ = some (.slice sa n sc) ∧ w'.cell? ⟨w.heap.size, 1, none⟩ = some (.int .i64 st) ∧ w'.cell? ⟨w.heap.size, 2, none⟩ = some (.slice (some ⟨sb, so, none⟩) k tc) ∧ w'.cell? ⟨w.heap.size, 3, none⟩ = some (.int .i64 lp) ∧ w'.cell? ⟨sb, so + I, none⟩ = some (.slice la p lc))
    (first | exact ⟨⟨rfl, rfl, rfl, Nat.le_refl _, fun _ _ _ => rfl⟩, d0, d1, d2, d3, ds⟩ | (go_split_ands; exact held_nextM g3 (by assumption) (by assumption) (by assumption) (by assumption) (by assumption) (by assumption)) | fail)
    (first | (go_at_call 80; with_reducible refine (HIX.out _).mono ?_; rintro e w3 ⟨rfl, g3⟩; have hsz : W1.heap.size ≤ w3.heap.size := (by first | exact g3.size | (go_split_ands; exact Nat.le_trans (World.grownBy.size (by assumption)) g3.size))) | (go_at_call 79; with_reducible refine (HST1.out _ ?_).mono ?_; (go_split_ands; assumption); rintro e w4 ⟨a', c', rfl, hs, g3⟩) | fail)
  all_goals
    have h14 : W1.grownBy w4 none := by go_split_ands; assumption
    have HS := Lib.hid (And.intro (hs.wide (Nat.le_trans (HG.out.trans HG1.out).size hsz) (Nat.le_refl _) (Nat.le_refl _)) ((HG.out.trans HG1.out).trans h14))
    clear hs h14
    go_wp2
    go_ret
    exact ⟨a', c', rfl, HS.out.1, HS.out.2⟩

set_option maxRecDepth 100000 in
set_option maxHeartbeats 2000000 in
theorem rRelEqual_calls (x y : Rl) (a a' : Option Addr) (c c' : Nat) (w : World) (h : IntsW w a c x.2) (h' : IntsW w a' c' y.2) (hl : (x.2.length : Int) ≤ 9223372036854775807) :
    Calls Try.prog 59 #[.agg #[.int .i64 x.1, .slice a x.2.length c], .agg #[.int .i64 y.1, .slice a' y.2.length c']] w
      fun e w' => e = .returned (.bool (decide (x = y))) ∧ w.grownBy w' none := by
  obtain ⟨kx, lx⟩ := x
  obtain ⟨ky, ly⟩ := y
  simp only at h h' hl ⊢
  obtain ⟨n, hn⟩ : ∃ n, lx.length = n := ⟨_, rfl⟩
  obtain ⟨m, hm⟩ : ∃ m, ly.length = m := ⟨_, rfl⟩
  have hg : w.grownBy ((w.alloc (.cells #[.int .i64 kx, .slice a lx.length c] 53)).alloc (.cells #[.int .i64 ky, .slice a' ly.length c'] 53)) none := (World.grownBy_alloc _ _ none).trans (World.grownBy_alloc _ _ none)
  have hc := two_cells w (.int .i64 kx) (.slice a lx.length c) (.int .i64 ky) (.slice a' ly.length c') 53 53
  rw [hn, hm] at hg hc
  rw [hn] at hl
  rw [hn, hm]
  have HN := Lib.hid (And.intro hn hm); clear hn hm
  have HH := Lib.hid (And.intro (h.grown hg) (h'.grown hg)); clear h h'
  by_cases hk : kx = ky
  · have k1 : (kx != ky) = false := by simpa using hk
    subst hk
    by_cases hnm : n = m
    · have k2 : ((n : Int) != (m : Int)) = false := by simp; omega
      subst hnm
      have HG := Lib.hid hg; clear hg
      go_enter Try.func59, Try.ntmps59
      go_wp2_with fail
      obtain ⟨W, hW⟩ : ∃ W, (w.alloc (.cells #[.int .i64 kx, .slice a n c] 53)).alloc (.cells #[.int .i64 kx, .slice a' n c'] 53) = W := ⟨_, rfl⟩
      rw [hW] at HG HH hc ⊢
      clear hW
      obtain ⟨-, c0, c1, e0, e1, -, -⟩ := hc
      go_loopg [5] n (fun g s5 wr => ∃ i : Nat, s5 = .int .i64 (i : Int) ∧ g = n - i ∧ i ≤ n ∧ (∀ j, j < i → lx[j]? = ly[j]?) ∧ ∃ q, wr = W.drewN q)
      case atStart => exact ⟨0, rfl, rfl, Nat.zero_le _, fun j hj => absurd hj (Nat.not_lt_zero _), 0, rfl⟩
      case round =>
        obtain ⟨i, rfl, hgi, hi, hok, q, rfl⟩ := hrel
        have HGI := Lib.hid (And.intro hgi hok); clear hgi hok
        by_cases hin : i < n
        · have hinB : decide (i < n) = true := by simpa using hin
          have hinI : (i : Int) < (n : Int) := by omega
          obtain ⟨x, hx⟩ : ∃ x, lx[i]? = some x := ⟨_, List.getElem?_eq_getElem (by rw [HN.out.1]; exact hin)⟩
          obtain ⟨y, hy⟩ : ∃ y, ly[i]? = some y := ⟨_, List.getElem?_eq_getElem (by rw [HN.out.2]; exact hin)⟩
          obtain ⟨b, o, rfl, hcell⟩ := HH.out.1.at hx
          obtain ⟨b', o', rfl, hcell'⟩ := HH.out.2.at hy
          have HX := Lib.hid (And.intro hx hy); clear hx hy
          by_cases hxy : x = y
          · subst hxy
            have hb2 : (x != x) = false := by simp
            go_wp2
            go_quiet (fail)
            go_wp2
            go_roundg (n - (i + 1))
            case measure => rw [HGI.out.1]; omega
            case rel => exact ⟨i + 1, rfl, rfl, by omega, agree_step HGI.out.2 (by rw [HX.out.1, HX.out.2]), _, rfl⟩
          · have hb2 : (x != y) = true := by simpa using hxy
            have HR : Hid (decide ((kx, lx) = (kx, ly)) = false) := Lib.hid (decide_eq_false (by intro e; injection e with _ e; exact list_ne HX.out.1 HX.out.2 hxy e))
            clear hxy
            go_wp2
            go_quiet (fail)
            go_wp2
            go_ret
            exact ⟨by rw [HR.out]; rfl, HG.out.trans (by first | exact grown_drewN _ _ _ | (rw [World.drewN_drewN]; exact grown_drewN _ _ _))⟩
        · have hie : i = n := by omega
          subst hie
          have hinB : decide (i < i) = false := by simp
          have HR : Hid (decide ((kx, lx) = (kx, ly)) = true) := Lib.hid (decide_eq_true (by rw [list_eq HN.out.1 HN.out.2 HGI.out.2]))
          go_wp2
          go_ret
          exact ⟨by rw [HR.out]; rfl, HG.out.trans (grown_drewN _ _ _)⟩
    · have k2 : ((n : Int) != (m : Int)) = true := by simp; omega
      have HR : Hid (decide ((kx, lx) = (kx, ly)) = false) := Lib.hid (decide_eq_false (by intro e; injection e with _ e; have h1 := HN.out.1; have h2 := HN.out.2; rw [e] at h1; omega))
      have HG := Lib.hid hg; clear hg hnm
      go_enter Try.func59, Try.ntmps59
      go_wp2_with fail
      go_ret
      exact ⟨by rw [HR.out]; rfl, HG.out⟩
  · have k1 : (kx != ky) = true := by simpa using hk
    have HR : Hid (decide ((kx, lx) = (ky, ly)) = false) := Lib.hid (decide_eq_false (by intro e; injection e with e _; exact hk e))
    have HG := Lib.hid hg; clear hg hk
    go_enter Try.func59, Try.ntmps59
    go_wp2_with fail
    go_ret
    exact ⟨by rw [HR.out]; rfl, HG.out⟩
end Go.Proofs.Ytbddpjofhddilaa
