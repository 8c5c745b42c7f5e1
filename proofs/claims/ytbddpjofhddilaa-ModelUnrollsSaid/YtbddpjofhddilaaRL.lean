/- The difference; containment. -/
import Derived.Test.YtbddpjofhddilaaRK
import Derived.Deep.RegionWith
namespace Go.Proofs.Ytbddpjofhddilaa
open Go.RowKit

theorem six_cells (w : World) (u0 u1 v0 v1 x0 x1 : Value) (s t r : TypeId) :
    w.heap.size + 2 < (((w.alloc (.cells #[u0, u1] s)).alloc (.cells #[v0, v1] t)).alloc (.cells #[x0, x1] r)).heap.size ∧
    (((w.alloc (.cells #[u0, u1] s)).alloc (.cells #[v0, v1] t)).alloc (.cells #[x0, x1] r)).cell? ⟨w.heap.size, 0, none⟩ = some u0 ∧ (((w.alloc (.cells #[u0, u1] s)).alloc (.cells #[v0, v1] t)).alloc (.cells #[x0, x1] r)).cell? ⟨w.heap.size, 1, none⟩ = some u1 ∧
    (((w.alloc (.cells #[u0, u1] s)).alloc (.cells #[v0, v1] t)).alloc (.cells #[x0, x1] r)).cell? ⟨w.heap.size + 1, 0, none⟩ = some v0 ∧ (((w.alloc (.cells #[u0, u1] s)).alloc (.cells #[v0, v1] t)).alloc (.cells #[x0, x1] r)).cell? ⟨w.heap.size + 1, 1, none⟩ = some v1 ∧
    (((w.alloc (.cells #[u0, u1] s)).alloc (.cells #[v0, v1] t)).alloc (.cells #[x0, x1] r)).cell? ⟨w.heap.size + 2, 0, none⟩ = some x0 ∧ (((w.alloc (.cells #[u0, u1] s)).alloc (.cells #[v0, v1] t)).alloc (.cells #[x0, x1] r)).cell? ⟨w.heap.size + 2, 1, none⟩ = some x1 ∧
    (((w.alloc (.cells #[u0, u1] s)).alloc (.cells #[v0, v1] t)).alloc (.cells #[x0, x1] r)).frozen? ⟨w.heap.size + 2, 0, none⟩ = false ∧ (((w.alloc (.cells #[u0, u1] s)).alloc (.cells #[v0, v1] t)).alloc (.cells #[x0, x1] r)).frozen? ⟨w.heap.size + 2, 1, none⟩ = false := by
  refine ⟨by simp, by go_simp, by go_simp, by go_simp, by go_simp, by go_simp, by go_simp, by go_simp, by go_simp⟩

theorem results124 (tmps : Array Value) (w : World) (b : Nat) (a : Option Addr) (n c : Nat) (x : Int) (ht : tmps.getD 4 undef = .pointer (some ⟨b, 0, none⟩)) (h0 : w.cell? ⟨b, 0, none⟩ = some (.int .i64 x)) (h1 : w.cell? ⟨b, 1, none⟩ = some (.slice a n c)) :
    (results Try.f124 tmps).run Try.prog w = .ok (.agg #[.int .i64 x, .slice a n c]) w := by
  have ht' : tmps[4]?.getD undef = .pointer (some ⟨b, 0, none⟩) := by simpa using ht
  simp [results, ht', go_sem, h0, h1, Result.andThen]

/-- The difference of two rows. -/
abbrev diffL (xs ys : List Int) : List Int := mergeL (fun x y => x && !y) xs ys

set_option maxRecDepth 100000 in
set_option maxHeartbeats 2000000 in
theorem diff_calls (x y : Int) (xs ys : List Int) (xa ya : Option Addr) (xc yc : Nat) (w : World) (h : IntsW w xa xc xs) (h' : IntsW w ya yc ys) (hl : xs.length ≤ 100000) (hl' : ys.length ≤ 100000) :
    Calls Try.prog 124 #[.agg #[.int .i64 x, .slice xa xs.length xc], .agg #[.int .i64 y, .slice ya ys.length yc]] w fun e w' =>
      ∃ a' c', e = .returned (.agg #[.int .i64 x, .slice a' (diffL xs ys).length c']) ∧ Span w.heap.size w'.heap.size w' (fun W => IntsW W a' c' (diffL xs ys)) ∧ w.grownBy w' none := by
  obtain ⟨n, hn⟩ : ∃ n, xs.length = n := ⟨_, rfl⟩
  obtain ⟨m, hm⟩ : ∃ m, ys.length = m := ⟨_, rfl⟩
  obtain ⟨R, hR⟩ : ∃ R, diffL xs ys = R := ⟨_, rfl⟩
  obtain ⟨p, hp⟩ : ∃ p, R.length = p := ⟨_, rfl⟩
  rw [hR, hp]
  have hg1 := World.grownBy_alloc w (.cells #[.int .i64 x, .slice xa n xc] 53) none
  have hg2 := World.grownBy_alloc (w.alloc (.cells #[.int .i64 x, .slice xa n xc] 53)) (.cells #[.int .i64 y, .slice ya m yc] 53) none
  have hg3 := World.grownBy_alloc ((w.alloc (.cells #[.int .i64 x, .slice xa n xc] 53)).alloc (.cells #[.int .i64 y, .slice ya m yc] 53)) (.cells #[.int .i64 0, .slice none 0 0] 53) none
  have hg := (hg1.trans hg2).trans hg3
  have hc := six_cells w (.int .i64 x) (.slice xa n xc) (.int .i64 y) (.slice ya m yc) (.int .i64 0) (.slice none 0 0) 53 53 53
  obtain ⟨W, hW⟩ : ∃ W, ((w.alloc (.cells #[.int .i64 x, .slice xa n xc] 53)).alloc (.cells #[.int .i64 y, .slice ya m yc] 53)).alloc (.cells #[.int .i64 0, .slice none 0 0] 53) = W := ⟨_, rfl⟩
  rw [hW] at hg hc
  have HC := Lib.hid (fun (W' : World) (hW' : W.grownBy W' none) => mergeDiff_calls xs ys xa ya xc yc W' ((h.grown hg).grown hW') ((h'.grown hg).grown hW') hl hl')
  have hR' : mergeL (fun x y => x && !y) xs ys = R := hR
  rw [hR', hn, hm, hp] at HC
  rw [hn, hm]
  have HG := Lib.hid hg
  clear hg hg1 hg2 hg3 h h' hl hl' hn hm hR hR' hp
  obtain ⟨hlt, c0, c1, d0, d1, e0, e1, ef0, ef1⟩ := hc
  go_enter Try.func124, Try.ntmps124
  go_wp2_with fail
  clear hW
  go_region_with (go_at_call 87; refine (HC.out W.drew (grown_drewN W 1 _)).mono ?_; rintro e w3 ⟨a', c', rfl, hi, g3⟩; have HI := Lib.hid hi; clear hi; replace g3 := World.grownBy.trans (b := W.drew) (grown_drewN W 1 _) g3; have k0 := g3.cell c0 (by simp); have k1 := g3.cell c1 (by simp); have l0 := g3.cell d0 (by simp); have l1 := g3.cell d1 (by simp); have m0 := g3.cell e0 (by simp); have m1 := g3.cell e1 (by simp); have f0 := (grown_frozen g3 hlt 0).trans ef0; have f1 := (grown_frozen g3 hlt 1).trans ef1; have HG3 := Lib.hid g3; clear g3)
  all_goals
    go_wp2_with fail
    refine bodyPost_ret (results124 _ _ (w.heap.size + 2) a' p c' x rfl (by rw [World.cell?_setCell_other _ _ _ _ (by intro e; injection e with _ e; cases e)]; exact World.cell?_setCell_same _ _ _ m0) (World.cell?_setCell_same _ _ _ (by rw [World.cell?_setCell_other _ _ _ _ (by intro e; injection e with _ e; cases e)]; exact m1))) rfl ⟨a', c', rfl, ?_, ?_⟩
    · have hs := HI.out
      have hs2 := (hs.off (grown_set w3 (w.heap.size + 2) 0 (.int .i64 x)) (fun y hy => by cases hy; exact .inl (by simpa using hlt))).off (grown_set _ (w.heap.size + 2) 1 (.slice a' p c')) (fun y hy => by cases hy; exact .inl (by simpa using hlt))
      exact hs2.wide (Nat.le_trans HG.out.size (Nat.le_refl _)) (by simp [World.setCell]) (Nat.le_refl _)
    · have hg := HG.out.trans HG3.out
      have hg1 := grown_own hg (grown_set w3 (w.heap.size + 2) 0 (.int .i64 x)) (fun k hk => by cases hk; omega)
      exact grown_own hg1 (grown_set _ (w.heap.size + 2) 1 (.slice a' p c')) (fun k hk => by cases hk; omega)

end Go.Proofs.Ytbddpjofhddilaa
