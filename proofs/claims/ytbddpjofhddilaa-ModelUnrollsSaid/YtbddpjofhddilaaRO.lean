/- Whether a relation fits. -/
import Derived.Test.YtbddpjofhddilaaRN
namespace Go.Proofs.Ytbddpjofhddilaa
open Go.RowKit

/-- Whether a relation fits: its arity, its validity, its containment. -/
def fitsB (n : Nat) (r f : Rl) : Bool := decide (r.1 = f.1) && relValid (n : Int) r.1 r.2 && inB r.2 f.2

theorem six_boxes (w : World) (u0 u1 v0 v1 x0 x1 : Value) (s t r : TypeId) :
    (((w.alloc (.cells #[u0, u1] s)).alloc (.cells #[v0, v1] t)).alloc (.cells #[x0, x1] r)).cell? ⟨w.heap.size, 0, none⟩ = some u0 ∧ (((w.alloc (.cells #[u0, u1] s)).alloc (.cells #[v0, v1] t)).alloc (.cells #[x0, x1] r)).cell? ⟨w.heap.size, 1, none⟩ = some u1 ∧
    (((w.alloc (.cells #[u0, u1] s)).alloc (.cells #[v0, v1] t)).alloc (.cells #[x0, x1] r)).cell? ⟨w.heap.size + 1, 0, none⟩ = some v0 ∧ (((w.alloc (.cells #[u0, u1] s)).alloc (.cells #[v0, v1] t)).alloc (.cells #[x0, x1] r)).cell? ⟨w.heap.size + 1, 1, none⟩ = some v1 ∧
    (((w.alloc (.cells #[u0, u1] s)).alloc (.cells #[v0, v1] t)).alloc (.cells #[x0, x1] r)).cell? ⟨w.heap.size + 2, 0, none⟩ = some x0 ∧ (((w.alloc (.cells #[u0, u1] s)).alloc (.cells #[v0, v1] t)).alloc (.cells #[x0, x1] r)).cell? ⟨w.heap.size + 2, 1, none⟩ = some x1 :=
  ⟨(six_cells w u0 u1 v0 v1 x0 x1 s t r).2.1, (six_cells w u0 u1 v0 v1 x0 x1 s t r).2.2.1, (six_cells w u0 u1 v0 v1 x0 x1 s t r).2.2.2.1, (six_cells w u0 u1 v0 v1 x0 x1 s t r).2.2.2.2.1, (six_cells w u0 u1 v0 v1 x0 x1 s t r).2.2.2.2.2.1, (six_cells w u0 u1 v0 v1 x0 x1 s t r).2.2.2.2.2.2.1⟩
theorem held_next6 {wr W W' : World} {a0 a1 a2 a3 a4 a5 : Addr} {v0 v1 v2 v3 v4 v5 : Value} (g : W.grownBy W' none) (h : wr.grownBy W none) (h0 : W.cell? a0 = some v0) (h1 : W.cell? a1 = some v1) (h2 : W.cell? a2 = some v2) (h3 : W.cell? a3 = some v3) (h4 : W.cell? a4 = some v4) (h5 : W.cell? a5 = some v5) :
    wr.grownBy W' none ∧ W'.cell? a0 = some v0 ∧ W'.cell? a1 = some v1 ∧ W'.cell? a2 = some v2 ∧ W'.cell? a3 = some v3 ∧ W'.cell? a4 = some v4 ∧ W'.cell? a5 = some v5 :=
  ⟨h.trans g, g.cell h0 (by simp), g.cell h1 (by simp), g.cell h2 (by simp), g.cell h3 (by simp), g.cell h4 (by simp), g.cell h5 (by simp)⟩

set_option maxRecDepth 100000 in
set_option maxHeartbeats 4000000 in
theorem fits_yes (zs : List Nat) (za : Option Addr) (zc : Nat) (st : Int) (x : Int) (xs ys : List Int) (xa ya : Option Addr) (xc yc : Nat) (w : World) (hn : Nums w za zc zs) (hz : ∀ z ∈ zs, z ≤ 5) (hzl : zs.length ≤ 4) (h : IntsW w xa xc xs) (h' : IntsW w ya yc ys) (hl : xs.length ≤ 100000) (hl' : ys.length ≤ 100000)
    (hv : relValid (sum zs : Nat) x xs = true) :
    Calls Try.prog 66 #[.agg #[.slice za zs.length zc, .int .i64 st], .agg #[.int .i64 x, .slice xa xs.length xc], .agg #[.int .i64 x, .slice ya ys.length yc]] w fun e w' => e = .returned (.bool (inB xs ys)) ∧ w.grownBy w' none := by
  obtain ⟨n, hn1⟩ : ∃ n, xs.length = n := ⟨_, rfl⟩
  obtain ⟨m, hm1⟩ : ∃ m, ys.length = m := ⟨_, rfl⟩
  obtain ⟨k, hk1⟩ : ∃ k, zs.length = k := ⟨_, rfl⟩
  have hg1 := World.grownBy_alloc w (.cells #[.slice za k zc, .int .i64 st] 30) none
  have hg2 := World.grownBy_alloc (w.alloc (.cells #[.slice za k zc, .int .i64 st] 30)) (.cells #[.int .i64 x, .slice xa n xc] 53) none
  have hg3 := World.grownBy_alloc ((w.alloc (.cells #[.slice za k zc, .int .i64 st] 30)).alloc (.cells #[.int .i64 x, .slice xa n xc] 53)) (.cells #[.int .i64 x, .slice ya m yc] 53) none
  have hg := (hg1.trans hg2).trans hg3
  have hc := six_boxes w (.slice za k zc) (.int .i64 st) (.int .i64 x) (.slice xa n xc) (.int .i64 x) (.slice ya m yc) 30 53 53
  obtain ⟨W, hW⟩ : ∃ W, ((w.alloc (.cells #[.slice za k zc, .int .i64 st] 30)).alloc (.cells #[.int .i64 x, .slice xa n xc] 53)).alloc (.cells #[.int .i64 x, .slice ya m yc] 53) = W := ⟨_, rfl⟩
  rw [hW] at hg hc
  have HA := Lib.hid (fun (W' : World) (hW' : W.grownBy W' none) => atoms_calls zs za zc st W' ((hn.grown hg).grown hW') hz hzl)
  have HV := Lib.hid (fun (W' : World) (hW' : W.grownBy W' none) => relValid_calls (sum zs : Nat) x xs xa xc W' ((h.grown hg).grown hW') hl)
  have HI := Lib.hid (fun (W' : World) (hW' : W.grownBy W' none) => in_calls x x xs ys xa ya xc yc W' ((h.grown hg).grown hW') ((h'.grown hg).grown hW') hl hl')
  rw [hk1] at HA
  rw [hv, hn1] at HV
  rw [hn1, hm1] at HI
  rw [hn1, hm1, hk1]
  obtain ⟨S, hS⟩ : ∃ S, sum zs = S := ⟨_, rfl⟩
  rw [hS] at HA HV
  obtain ⟨O, hO⟩ : ∃ O, inB xs ys = O := ⟨_, rfl⟩
  rw [hO] at HI ⊢
  have HG := Lib.hid hg
  clear hg hg1 hg2 hg3 hn hz hzl h h' hl hl' hv hn1 hm1 hk1 hS hO
  obtain ⟨c0, c1, d0, d1, e0, e1⟩ := hc
  have q0 : (x == x) = true := by simp
  go_enter Try.func66, Try.ntmps66
  go_wp2_with fail
  clear hW
  go_region_held3 (fun w' => W.grownBy w' none ∧ w'.cell? ⟨w.heap.size, 0, none⟩ = some (.slice za k zc) ∧ w'.cell? ⟨w.heap.size, 1, none⟩ = some (.int .i64 st) ∧ w'.cell? ⟨w.heap.size + 1, 0, none⟩ = some (.int .i64 x) ∧ w'.cell? ⟨w.heap.size + 1, 1, none⟩ = some (.slice xa n xc) ∧ w'.cell? ⟨w.heap.size + 2, 0, none⟩ = some (.int .i64 x) ∧ w'.cell? ⟨w.heap.size + 2, 1, none⟩ = some (.slice ya m yc))
    (first | exact ⟨⟨rfl, rfl, rfl, Nat.le_refl _, fun _ _ _ => rfl⟩, c0, c1, d0, d1, e0, e1⟩ | (go_split_ands; exact held_next6 g3 (by assumption) (by assumption) (by assumption) (by assumption) (by assumption) (by assumption) (by assumption)) | fail)
    (first | (go_at_call 34; with_reducible refine (HA.out _ ?_).mono ?_; (go_split_ands; assumption); rintro e w3 ⟨rfl, g3⟩) | (go_at_call 62; with_reducible refine (HV.out _ ?_).mono ?_; (go_split_ands; assumption); rintro e w4 ⟨rfl, g3⟩) | (go_at_call 99; with_reducible refine (HI.out _ ?_).mono ?_; (go_split_ands; assumption); rintro e w5 ⟨rfl, g3⟩) | fail)
  all_goals
    have h14 : W.grownBy w5 none := by go_split_ands; assumption
    have HS := Lib.hid (HG.out.trans h14)
    clear h14
    go_wp2
    go_ret
    exact ⟨rfl, HS.out⟩
end Go.Proofs.Ytbddpjofhddilaa
