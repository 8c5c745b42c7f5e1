/- Whether a relation fits: where it does not. -/
import Derived.Test.YtbddpjofhddilaaN06
namespace Go.Proofs.Ytbddpjofhddilaa
open Go.RowKit

set_option maxRecDepth 100000 in
set_option maxHeartbeats 4000000 in
theorem fits_arity (za : Option Addr) (zc : Nat) (st : Int) (x y : Int) (n m k : Nat) (xa ya : Option Addr) (xc yc : Nat) (w : World) (hxy : x ≠ y) :
    Calls Try.prog 66 #[.agg #[.slice za k zc, .int .i64 st], .agg #[.int .i64 x, .slice xa n xc], .agg #[.int .i64 y, .slice ya m yc]] w fun e w' => e = .returned (.bool false) ∧ w.grownBy w' none := by
  have hg1 := World.grownBy_alloc w (.cells #[.slice za k zc, .int .i64 st] 30) none
  have hg2 := World.grownBy_alloc (w.alloc (.cells #[.slice za k zc, .int .i64 st] 30)) (.cells #[.int .i64 x, .slice xa n xc] 53) none
  have hg3 := World.grownBy_alloc ((w.alloc (.cells #[.slice za k zc, .int .i64 st] 30)).alloc (.cells #[.int .i64 x, .slice xa n xc] 53)) (.cells #[.int .i64 y, .slice ya m yc] 53) none
  have hc := six_boxes w (.slice za k zc) (.int .i64 st) (.int .i64 x) (.slice xa n xc) (.int .i64 y) (.slice ya m yc) 30 53 53
  have HG := Lib.hid ((hg1.trans hg2).trans hg3)
  obtain ⟨W, hW⟩ : ∃ W, ((w.alloc (.cells #[.slice za k zc, .int .i64 st] 30)).alloc (.cells #[.int .i64 x, .slice xa n xc] 53)).alloc (.cells #[.int .i64 y, .slice ya m yc] 53) = W := ⟨_, rfl⟩
  rw [hW] at hc HG
  clear hg1 hg2 hg3
  obtain ⟨c0, c1, d0, d1, e0, e1⟩ := hc
  have q0 : (x == y) = false := by simpa using hxy
  clear hxy
  go_enter Try.func66, Try.ntmps66
  go_wp2_with fail
  clear hW
  go_quiet (fail)
  go_wp2_with fail
  go_ret
  exact ⟨rfl, HG.out.trans (grown_drewN _ _ _)⟩

set_option maxRecDepth 100000 in
set_option maxHeartbeats 4000000 in
theorem fits_invalid (zs : List Nat) (za : Option Addr) (zc : Nat) (st : Int) (x : Int) (xs ys : List Int) (xa ya : Option Addr) (xc yc : Nat) (w : World) (hn : Nums w za zc zs) (hz : ∀ z ∈ zs, z ≤ 5) (hzl : zs.length ≤ 4) (h : IntsW w xa xc xs) (hl : xs.length ≤ 100000)
    (hv : relValid (sum zs : Nat) x xs = false) :
    Calls Try.prog 66 #[.agg #[.slice za zs.length zc, .int .i64 st], .agg #[.int .i64 x, .slice xa xs.length xc], .agg #[.int .i64 x, .slice ya ys.length yc]] w fun e w' => e = .returned (.bool false) ∧ w.grownBy w' none := by
  obtain ⟨n, hn1⟩ : ∃ n, xs.length = n := ⟨_, rfl⟩
  obtain ⟨m, hm1⟩ : ∃ m, ys.length = m := ⟨_, rfl⟩
  obtain ⟨k, hk1⟩ : ∃ k, zs.length = k := ⟨_, rfl⟩
  have hg1 := World.grownBy_alloc w (.cells #[.slice za k zc, .int .i64 st] 30) none
  have hg2 := World.grownBy_alloc (w.alloc (.cells #[.slice za k zc, .int .i64 st] 30)) (.cells #[.int .i64 x, .slice xa n xc] 53) none
  have hg3 := World.grownBy_alloc ((w.alloc (.cells #[.slice za k zc, .int .i64 st] 30)).alloc (.cells #[.int .i64 x, .slice xa n xc] 53)) (.cells #[.int .i64 x, .slice ya m yc] 53) none
  have hg := (hg1.trans hg2).trans hg3
  have hc := six_boxes w (.slice za k zc) (.int .i64 st) (.int .i64 x) (.slice xa n xc) (.int .i64 x) (.slice ya m yc) 30 53 53
  obtain ⟨W, hW⟩ : ∃ W, ((w.alloc (.cells #[.slice za k zc, .int .i64 st] 30)).alloc (.cells #[.int .i64 x, .slice xa n xc] 53)).alloc (.cells #[.int .i64 x, .slice ya m yc] 53) = W := ⟨_, rfl⟩
  rw [hW] at hg hc
  have HA := Lib.hid (fun (W' : World) (hW' : W.grownBy W' none) => atoms_calls zs za zc st W' ((hn.grown hg).grown hW') hz hzl)
  have HV := Lib.hid (fun (W' : World) (hW' : W.grownBy W' none) => relValid_calls (sum zs : Nat) x xs xa xc W' ((h.grown hg).grown hW') hl)
  rw [hk1] at HA
  rw [hv, hn1] at HV
  rw [hn1, hm1, hk1]
  obtain ⟨S, hS⟩ : ∃ S, sum zs = S := ⟨_, rfl⟩
  rw [hS] at HA HV
  have HG := Lib.hid hg
  clear hg hg1 hg2 hg3 hn hz hzl h hl hv hn1 hm1 hk1 hS
  obtain ⟨c0, c1, d0, d1, e0, e1⟩ := hc
  have q0 : (x == x) = true := by simp
  go_enter Try.func66, Try.ntmps66
  go_wp2_with fail
  clear hW
  go_region_with (first | (go_at_call 34; refine (HA.out _ (grown_drewN W 1 none)).mono ?_; rintro e w3 ⟨rfl, g3⟩; replace g3 := World.grownBy.trans (grown_drewN W 1 none) g3; have c0' := g3.cell c0 (by simp); have c1' := g3.cell c1 (by simp); have d0' := g3.cell d0 (by simp); have d1' := g3.cell d1 (by simp); have e0' := g3.cell e0 (by simp); have e1' := g3.cell e1 (by simp)) | (go_at_call 62; refine (HV.out _ (by assumption)).mono ?_; rintro e w4 ⟨rfl, g4⟩))
  all_goals
    have HS := Lib.hid (HG.out.trans (g3.trans g4))
    clear g3 g4 c0' c1' d0' d1' e0' e1'
    go_wp2
    go_ret
    exact ⟨rfl, HS.out⟩
end Go.Proofs.Ytbddpjofhddilaa
