/- The law: the size of the sorting network. -/
import Derived.Test.YthagoihpppppkaaT1
import Derived.Deep.DeepCutAuto
namespace Go.Proofs.Ythagoihpppppkaa
open Go.RowKit Go.Maps

def cmpN (n : Nat) : Nat := if n ≤ 1 then 0 else if n ≤ 2 then 1 else if n ≤ 4 then 5 else if n ≤ 8 then 19 else 63
def inG (k : Nat) : List Gt := (0, 0, 0) :: (List.range k).map fun (i : Nat) => (1, (i : Int) + 1, 0)
def inL (k : Nat) : List Int := (List.range k).map fun (i : Nat) => 2 * ((i : Int) + 1)
theorem in_step : ∀ k, k < 16 → inputC (inG k) ((k : Int) + 1) = (inG (k + 1), 2 * ((k : Int) + 1)) := by decide +kernel
theorem inL_succ (k : Nat) : inL (k + 1) = inL k ++ [2 * ((k : Int) + 1)] := by unfold inL; rw [List.range_succ, List.map_append]; rfl
theorem inG_len (k : Nat) : (inG k).length = k + 1 := by unfold inG; simp
theorem inL_len (k : Nat) : (inL k).length = k := by unfold inL; simp
theorem inG_good : ∀ k, k ≤ 16 → Good (inG k)
  | 0, _ => good_new
  | k + 1, h => by have := (step_input (inG_good k (by omega)) ((k : Int) + 1)).good; rw [in_step k (by omega)] at this; exact this
theorem inL_ok (k : Nat) : ∀ r ∈ inL k, Ok (inG k) r := fun r hr => by
  unfold inL at hr
  obtain ⟨i, hi, rfl⟩ := List.mem_map.1 hr
  have := List.mem_range.1 hi
  unfold Ok
  rw [inG_len]
  omega
theorem in_size : ∀ k, k < 17 → ((sorterP (inL k)).run (inG k)).1.length ≤ (k + 1) + 2 * cmpN k ∧ (k < 2 ∨ k + 1 < ((sorterP (inL k)).run (inG k)).1.length) := by decide +kernel
theorem sizes_at (w : World) (p : Nat) (v : Int) (h : ([0, 1, 5, 19, 63, 191, 543] : List Int)[p]? = some v) : (w.alloc (.cells #[.int .i64 0, .int .i64 1, .int .i64 5, .int .i64 19, .int .i64 63, .int .i64 191, .int .i64 543] 3)).cell? ⟨w.heap.size, p, none⟩ = some (.int .i64 v) := by
  match p, h with
  | 0, h => simp at h; subst h; go_simp
  | 1, h => simp at h; subst h; go_simp
  | 2, h => simp at h; subst h; go_simp
  | 3, h => simp at h; subst h; go_simp
  | 4, h => simp at h; subst h; go_simp
  | 5, h => simp at h; subst h; go_simp
  | 6, h => simp at h; subst h; go_simp
  | n + 7, h => simp at h
theorem cmpN_at : ∀ n, n < 17 → ([0, 1, 5, 19, 63, 191, 543] : List Int)[kOf n]? = some (cmpN n : Int) := by decide +kernel
set_option maxRecDepth 100000 in
set_option maxHeartbeats 4000000 in
theorem comparators_calls (n : Nat) (hn : n < 17) (w : World) : Calls Try.prog 30 #[.int .i64 (n : Int)] w fun e w' => e = .returned (.int .i64 (cmpN n : Int)) ∧ w.grownBy w' none := by
  have hg := World.grownBy_alloc w (.cells #[.int .i64 0, .int .i64 1, .int .i64 5, .int .i64 19, .int .i64 63, .int .i64 191, .int .i64 543] 3) none
  have HS := Lib.hid (fun p v h => sizes_at w p v h)
  obtain ⟨W, hW⟩ : ∃ z, w.alloc (.cells #[.int .i64 0, .int .i64 1, .int .i64 5, .int .i64 19, .int .i64 63, .int .i64 191, .int .i64 543] 3) = z := ⟨_, rfl⟩
  rw [hW] at hg HS
  obtain ⟨bs, hbs⟩ : ∃ z, w.heap.size = z := ⟨_, rfl⟩
  rw [hbs] at HS
  have HG := Lib.hid hg
  clear hg
  go_enter Try.func30, Try.ntmps30
  go_wp2_with fail
  clear hW hbs
  go_loopg [4, 5] 5 (fun g s4 s5 wr => ∃ k : Nat, s4 = .int .i64 (k : Int) ∧ s5 = .int .i64 ((2 ^ k : Nat) : Int) ∧ g = 5 - k ∧ k ≤ kOf n ∧ W = wr)
  case atStart => exact ⟨0, rfl, rfl, rfl, Nat.zero_le _, rfl⟩
  case round =>
    obtain ⟨k, rfl, rfl, hgk, hk, rfl⟩ := hrel
    have HI2 := Lib.hid hgk; clear hgk
    have hk4 : k < 5 := Nat.lt_succ_of_le (Nat.le_trans hk (kOf_le n))
    have HKS := Lib.hid (kOf_step n hn k hk4 hk)
    obtain ⟨z, hz⟩ : ∃ z, 2 ^ k = z := ⟨_, rfl⟩
    rw [hz] at HKS ⊢
    have hz16 : z ≤ 16 := by rw [← hz]; exact Nat.le_trans (Nat.pow_le_pow_right (by omega) (show k ≤ 4 by omega)) (by decide)
    have f6 : decide ((k : Int) < 6) = true := decide_eq_true (by omega)
    have f7 : decide (k < 6) = true := decide_eq_true (by omega)
    by_cases hzn : z < n
    · have f1 : decide ((z : Int) < (n : Int)) = true := decide_eq_true (by omega)
      have f2 : decide (z < n) = true := decide_eq_true hzn
      obtain ⟨y, hy⟩ : ∃ y, 2 ^ (k + 1) = y := ⟨_, rfl⟩
      have hyz : y = z * 2 := by rw [← hy, Nat.pow_succ, hz]
      have w1 : IntKind.i64.wrap ((z : Int) * 2) = (y : Int) := by rw [IntWalk.i64_in _ (by omega)]; omega
      have w2 : IntKind.i64.wrap ((k : Int) + 1) = ((k + 1 : Nat) : Int) := by rw [IntWalk.i64_in _ (by omega)]; omega
      have HY := Lib.hid hy
      have HKN := Lib.hid (HKS.out.1 hzn)
      clear hy hyz hz hzn hz16
      go_wp2_with fail
      go_roundg (5 - (k + 1))
      case measure => rw [HI2.out]; omega
      case rel => exact ⟨k + 1, rfl, by rw [HY.out], rfl, HKN.out, rfl⟩
    · have f1 : decide ((z : Int) < (n : Int)) = false := decide_eq_false (by omega)
      have f2 : decide (z < n) = false := decide_eq_false hzn
      have hkn := HKS.out.2 hzn
      have q := HS.out k (cmpN n : Int) (by rw [hkn]; exact cmpN_at n hn)
      have j0 : (0 : Int) ≤ (k : Int) := by omega
      have j1 : (k : Int) < 7 := by omega
      clear hz hzn hz16 hkn hk hk4
      go_wp2_with fail
      go_ret
      exact ⟨rfl, HG.out⟩
set_option maxRecDepth 100000 in
set_option maxHeartbeats 4000000 in
theorem size_calls (kk : Nat) (w : World) (hk : kk < 256) : Calls Try.prog 5 #[.int .u8 (kk : Int)] w fun e w' => e = .returned (.bool true) ∧ w.grownBy w' none := by
  obtain ⟨N, hN⟩ : ∃ N, kk % 17 = N := ⟨_, rfl⟩
  have hN17 : N < 17 := by rw [← hN]; exact Nat.mod_lt _ (by omega)
  have HNN := Lib.hid hN17
  have HG := Lib.hid (grown_refl w none)
  go_enter Try.func5, Try.ntmps5
  go_wp2_with fail
  refine (head_calls _).mono ?_
  rintro e V1 ⟨rfl, g⟩
  replace HG := Lib.hid (World.grownBy.trans HG.out g)
  clear g
  have wk : IntKind.i64.wrap (kk : Int) = (kk : Int) := IntWalk.i64_in _ (by omega)
  have wt : Int.tmod (kk : Int) 17 = (N : Int) := by rw [Int.tmod_eq_emod_of_nonneg (by omega)]; omega
  have wN : IntKind.i64.wrap (N : Int) = (N : Int) := IntWalk.i64_in _ (by omega)
  go_wp2_with fail
  refine (rnew_calls _).mono ?_
  rintro e V2 ⟨y0, rfl, ⟨a0, c0, rfl, hr⟩, g⟩
  replace HG := Lib.hid (World.grownBy.trans HG.out g)
  clear g
  clear wk wt wN hN hk hN17
  go_upto_region 4 with fail
  have hb : CB (World.alloc V2 (.cells #[.slice a0 1 c0] 32)) V2.heap.size a0 c0 (inG 0) := CB.new (g := inG 0) hr
  have g := World.grownBy_alloc V2 (.cells #[.slice a0 1 c0] 32) none
  obtain ⟨V3, hV3⟩ : ∃ z, World.alloc V2 (.cells #[.slice a0 1 c0] 32) = z := ⟨_, rfl⟩
  rw [hV3] at g hb ⊢
  clear hV3 hr
  obtain ⟨bc, hbb⟩ : ∃ b, V2.heap.size = b := ⟨_, rfl⟩
  rw [hbb] at hb ⊢
  have HLB := Lib.hid (show w.heap.size ≤ bc from by have := HG.out.size; omega)
  clear hbb
  replace HG := Lib.hid (World.grownBy.trans HG.out g)
  clear g
  have HC := Lib.hid hb
  clear hb
  go_upto_region 5 with fail
  have g := World.grownBy_alloc V3 (.cells #[] 3) none
  have ho := World.ownsRow_made (base := V3.heap.size) (e := 3) (size := 1) V3 #[] 0 (Nat.le_refl _) (Nat.zero_le _) rfl
  obtain ⟨V4, hV4⟩ : ∃ z, World.alloc V3 (.cells #[] 3) = z := ⟨_, rfl⟩
  rw [hV4] at g ho ⊢
  clear hV4
  have HBC := Lib.hid (show bc < V3.heap.size from lies_lt HC.out.1)
  obtain ⟨BZ, hBZ⟩ : ∃ z, V3.heap.size = z := ⟨_, rfl⟩
  rw [hBZ] at ho HBC ⊢
  have HZ := Lib.hid (show BZ ≤ V4.heap.size from by rw [← hBZ]; exact g.size)
  clear hBZ
  replace HC := Lib.hid (HC.out.grown g)
  have HO := Lib.hid ho
  clear ho
  replace HG := Lib.hid (World.grownBy.trans HG.out g)
  clear g
  obtain ⟨i0, hi0, hz0, hz1, hz2⟩ := info_parts info3
  go_wp2_with fail
  go_loopg [6, 7] N (fun gk s6 s7 wr => ∃ (j : Nat) (xa : Option Addr) (xc : Nat) (a : Option Addr) (c : Nat), s6 = .slice xa j xc ∧ s7 = .int .i64 ((j + 1 : Nat) : Int) ∧ gk = N - j ∧ j ≤ N ∧ CB wr bc a c (inG j) ∧ wr.ownsRow BZ 3 1 (.slice xa j xc) j (intCells (inL j)) ∧ w.grownBy wr none ∧ BZ ≤ wr.heap.size)
  case atStart => exact ⟨0, _, _, a0, c0, rfl, rfl, rfl, Nat.zero_le _, HC.out, HO.out, HG.out, HZ.out⟩
  case round =>
    obtain ⟨j, xa, xc, a, c, rfl, rfl, hgk, hj, hcb, hown, hgr, hbz⟩ := hrel
    have HI := Lib.hid hgk; clear hgk
    have HCJ := Lib.hid hcb; clear hcb
    have HOW := Lib.hid hown; clear hown
    have HGR := Lib.hid hgr; clear hgr
    have HBZ := Lib.hid hbz; clear hbz
    have hn17 := HNN.out
    obtain ⟨k, hk⟩ : ∃ k, j + 1 = k := ⟨_, rfl⟩
    rw [hk]
    have q1 := HCJ.out.1
    by_cases hkn : k ≤ N
    · have f1 : decide ((k : Int) ≤ (N : Int)) = true := decide_eq_true (by omega)
      have f2 : decide (k ≤ N) = true := decide_eq_true hkn
      have HK := Lib.hid hk
      have hst := in_step j (by omega)
      obtain ⟨r, hr⟩ : ∃ r, 2 * ((j : Int) + 1) = r := ⟨_, rfl⟩
      rw [hr] at hst
      have hkk : (j : Int) + 1 = (k : Int) := by omega
      rw [hkk] at hst
      rw [hk] at hst
      have HST := Lib.hid hst
      have HIL := Lib.hid (show inL k = inL j ++ [r] from by rw [← hk, inL_succ, hr])
      have HGJ := Lib.hid (show Good (inG j) ∧ (inG j).length ≤ 900 from ⟨inG_good j (by omega), by rw [inG_len]; omega⟩)
      have hk1 : IntKind.i64.wrap ((k : Int) + 1) = ((k + 1 : Nat) : Int) := by rw [IntWalk.i64_in _ (by omega)]; omega
      obtain ⟨Lj, hLj⟩ : ∃ L, inL j = L := ⟨_, rfl⟩
      rw [hLj] at HIL HOW
      clear hst hr hkk hLj hk
      obtain ⟨U, hU⟩ : ∃ z, z = wr := ⟨_, rfl⟩
      rw [← hU] at HCJ HOW HGR HBZ q1 ⊢
      clear hU
      go_wp2_with fail
      refine (rinput_at (k : Int) HST.out HGJ.out.1 HGJ.out.2 HCJ.out.2.2).mono ?_
      rintro e V ⟨a1, c1, rfl, hr1, g1⟩
      clear q1 f1 f2
      go_upto_region 9 with fail
      have hg3 := World.grownBy_alloc V (.cells #[.slice a1 (inG k).length c1] 32) none
      have hcb3 := CB.new hr1
      have HC2 := Lib.hid (HCJ.out.grown (World.grownBy.trans g1 hg3))
      have HO2 := Lib.hid (own_grown HOW.out (World.grownBy.trans g1 hg3))
      have HG2 := Lib.hid (World.grownBy.trans HGR.out (World.grownBy.trans g1 hg3))
      have HZ2 := Lib.hid (Nat.le_trans HBZ.out (World.grownBy.trans g1 hg3).size)
      obtain ⟨V3, hV3⟩ : ∃ z, World.alloc V (.cells #[.slice a1 (inG k).length c1] 32) = z := ⟨_, rfl⟩
      rw [hV3] at HC2 HO2 HG2 HZ2 hcb3 ⊢
      have HE := Lib.hid hcb3
      clear hV3 hg3 g1 hr1 hcb3
      have q2 := HE.out.1
      have z0 := HC2.out.1
      have zf := HC2.out.2.1
      have HC4 := Lib.hid (CB.put HE.out.2.2 HC2.out.1 HC2.out.2.1)
      have HO4 := Lib.hid (HO2.out.kept (grown_set V3 bc 0 (.slice a1 (inG k).length c1)) (own_ne HO2.out HBC.out))
      have HG4 := Lib.hid (grown_own HG2.out (grown_set V3 bc 0 (.slice a1 (inG k).length c1)) (fun x e => by cases e; exact HLB.out))
      have HZ4 := Lib.hid (Nat.le_trans HZ2.out (grown_set V3 bc 0 (.slice a1 (inG k).length c1)).size)
      go_upto_region 10 with fail
      clear q2 z0 zf
      obtain ⟨V4, hV4⟩ : ∃ z, World.setCell V3 ⟨bc, 0, none⟩ (.slice a1 (inG k).length c1) = z := ⟨_, rfl⟩
      rw [hV4] at HC4 HO4 HG4 HZ4 ⊢
      clear hV4
      go_wp2_with (at_builtin; refine wpList_append_own_at _ rfl _ _ 33 rfl BZ 3 i0 (.int .i64 0) 1 8 Try.underlying33 hi0 hz0 hz1 hz2 rfl (by decide) _ j (intCells Lj) rfl (HO4.out.alloc _) ⟨V4.heap.size, 0, none⟩ 1 1 [.int .i64 r] rfl rfl (cell_one_new _ _ _) (fun u hu => by simp at hu; subst hu; rfl) (by unfold maxLen; omega) (by omega) (by have := HZ4.out; simp; omega) ?_)
      intro v' w6 hown' hgrow6 _ hat6
      obtain ⟨rgA, rcA, rfl⟩ := own_shape hown'
      have haA := World.grownBy_alloc V4 (.cells #[.int .i64 r] 3) none
      have HC6 := Lib.hid (CB.past (HC4.out.grown haA) HBC.out (HO4.out.alloc _) (by decide) hgrow6)
      have HG6 := Lib.hid (grown_own (World.grownBy.trans HG4.out haA) hgrow6 (fun x e => by have h1 := (HO4.out.lt x e).1; have h2 := HLB.out; have h3 := HBC.out; omega))
      have HO6 := Lib.hid (show w6.ownsRow BZ 3 1 (.slice rgA (j + 1) rcA) (j + 1) (intCells (inL k)) from by rw [HIL.out, intCells, List.map_append]; exact hown')
      have HZ6 := Lib.hid (Nat.le_trans HZ4.out (Nat.le_trans haA.size hgrow6.size))
      clear hown' hgrow6 haA hat6
      skip
      go_wp2_with fail
      go_roundg (N - (j + 1))
      case measure => rw [HI.out]; have := HK.out; omega
      case rel => exact ⟨k, rgA, rcA, a1, c1, by rw [← HK.out], rfl, by rw [← HK.out], by omega, HC6.out, by have h := HO6.out; rw [HK.out] at h; exact h, HG6.out, HZ6.out⟩
    · have f1 : decide ((k : Int) ≤ (N : Int)) = false := decide_eq_false (by omega)
      have f2 : decide (k ≤ N) = false := decide_eq_false hkn
      have hjN : j = N := by omega
      subst hjN
      obtain ⟨res, hres⟩ : ∃ rr9, (sorterP (inL j)).run (inG j) = rr9 := ⟨_, rfl⟩
      obtain ⟨gS, lS⟩ := res
      have hsz := in_size j hn17
      rw [hres] at hsz
      simp only at hsz
      have HSZ := Lib.hid hsz
      have HCS := Lib.hid (fun (W : World) (a : Option Addr) (c : Nat) (b : Option Addr) (d : Nat) (hW : GatesW W a c (inG j)) (hr : IntsW W b d (inL j)) => sorter_n (inL_len j) hres (inG_good j (by omega)) (by rw [inG_len]; omega) (inL_ok j) (by rw [inL_len]; omega) hW hr)
      have HRI := Lib.hid (show IntsW wr xa xc (inL j) from IntsN.weak (IntsN.own (N := fun _ => False) (inL_len j) HOW.out (fun k _ h => h)))
      clear hres hsz hkn hk
      obtain ⟨U, hU⟩ : ∃ z, z = wr := ⟨_, rfl⟩
      rw [← hU] at HCJ HGR HRI q1 ⊢
      clear hU
      go_wp2_with fail
      clear q1 f1 f2
      refine (HCS.out _ _ _ _ _ HCJ.out.2.2 HRI.out).mono ?_
      rintro e V ⟨a1, c1, b1, d1, rfl, hr1, hrow, g1⟩
      go_upto_region 12 with fail
      have hg3 := World.grownBy_alloc V (.cells #[.slice a1 gS.length c1] 32) none
      have hcb3 := CB.new hr1
      have HC2 := Lib.hid (HCJ.out.grown (World.grownBy.trans g1 hg3))
      have HG2 := Lib.hid (World.grownBy.trans HGR.out (World.grownBy.trans g1 hg3))
      obtain ⟨V3, hV3⟩ : ∃ z, World.alloc V (.cells #[.slice a1 gS.length c1] 32) = z := ⟨_, rfl⟩
      rw [hV3] at HC2 HG2 hcb3 ⊢
      obtain ⟨bS, hbS⟩ : ∃ z, V.heap.size = z := ⟨_, rfl⟩
      rw [hbS] at hcb3 ⊢
      have HE := Lib.hid hcb3
      clear hV3 hg3 g1 hr1 hcb3 hrow hbS
      obtain ⟨nd, hnd⟩ : ∃ z, gS.length = z := ⟨_, rfl⟩
      obtain ⟨nc, hnc⟩ : ∃ z, j + 1 = z := ⟨_, rfl⟩
      obtain ⟨cm, hcm⟩ : ∃ z, cmpN j = z := ⟨_, rfl⟩
      have hcm63 : cm ≤ 63 := by rw [← hcm]; unfold cmpN; split; omega; split; omega; split; omega; split <;> omega
      have hs := HSZ.out
      rw [hnd, hnc, hcm] at hs
      have HCM := Lib.hid (comparators_calls j hn17)
      rw [hcm] at HCM
      have hq1 := HE.out.1
      rw [hnd] at hq1
      have hq2 := HC2.out.1
      rw [inG_len, hnc] at hq2
      have HQ := Lib.hid (And.intro hq1 hq2)
      clear hq1 hq2
      have e1 : (nc : Int) ≤ (nd : Int) ∨ nd < nc := by omega
      obtain ⟨dd, hdd⟩ : ∃ z : Int, (nd : Int) - (nc : Int) = z := ⟨_, rfl⟩
      have w1 : IntKind.i64.wrap ((nd : Int) - (nc : Int)) = dd := by rw [IntWalk.i64_in _ (by omega)]; exact hdd
      have w2 : IntKind.i64.wrap (2 * (cm : Int)) = 2 * (cm : Int) := IntWalk.i64_in _ (by omega)
      have f3 : decide (dd ≤ 2 * (cm : Int)) = true := decide_eq_true (by omega)
      have fe : (((j : Nat) : Int) == ((j : Nat) : Int)) = true := by simp
      skip
      by_cases h2 : j < 2
      · have f4 : decide ((j : Int) < 2) = true := decide_eq_true (by omega)
        have f5 : decide (j < 2) = true := decide_eq_true h2
        clear hs e1 hdd hnd hnc hcm hcm63 h2
        have HS := Lib.hid (fun (Wh : World) (hWh : V3.grownBy Wh none) => (⟨hWh, hWh.cell HQ.out.1 (by simp), hWh.cell HQ.out.2 (by simp)⟩ : (fun Wh : World => V3.grownBy Wh none ∧ Wh.cell? ⟨bS, 0, none⟩ = some (.slice a1 nd c1) ∧ Wh.cell? ⟨bc, 0, none⟩ = some (.slice a nc c)) Wh))
        have hdr : V3.grownBy V3.drew none := ⟨rfl, rfl, rfl, Nat.le_refl _, fun _ _ _ => rfl⟩
        refine wp_region_held_drew (S := (fun Wh : World => V3.grownBy Wh none ∧ Wh.cell? ⟨bS, 0, none⟩ = some (.slice a1 nd c1) ∧ Wh.cell? ⟨bc, 0, none⟩ = some (.slice a nc c))) (by kernel_rfl) (HS.out _ hdr) (fun hHeld => ?_)
        refine wpAnyH_take (i := 0) (oi := { dst := some 40, op := Op.move (Operand.tmp 3), type := 4, pos := "law.go:172", after := #[], guard := none }) (v := ?_) rfl (by kernel_rfl) (by kernel_rfl) (by kernel_rfl) (fun _ _ _ h => h) (Or.inl ⟨by rfl, ?_⟩) (by assumption) ?_
        rotate_left 1
        · (intro W hSW; (try dsimp only at hSW); first | (go_simp; done) | (go_simp; with_reducible rfl))
        try simp only [Act.put, List.setIfInBounds_toArray, List.set_cons_zero, List.set_cons_succ]
        refine wpAnyH_take (i := 1) (oi := { dst := some 41, op := Op.move (Operand.tmp 40), type := 4, pos := "law.go:172", after := #[{ on := 0, ground := Ground.data }], guard := none }) (v := ?_) rfl (by kernel_rfl) (by kernel_rfl) (by kernel_rfl) (fun _ _ _ h => h) (Or.inl ⟨by rfl, ?_⟩) (by assumption) ?_
        rotate_left 1
        · (intro W hSW; (try dsimp only at hSW); first | (go_simp; done) | (go_simp; with_reducible rfl))
        try simp only [Act.put, List.setIfInBounds_toArray, List.set_cons_zero, List.set_cons_succ]
        refine wpAnyH_take (i := 2) (oi := { dst := some 42, op := Op.move (Operand.tmp 11), type := 33, pos := "law.go:172", after := #[{ on := 1, ground := Ground.guard }], guard := some (1, true) }) (v := ?_) rfl (by kernel_rfl) (by kernel_rfl) (by kernel_rfl) (fun _ _ _ h => h) (Or.inl ⟨by rfl, ?_⟩) (by assumption) ?_
        rotate_left 1
        · (intro W hSW; (try dsimp only at hSW); first | (go_simp; done) | (go_simp; with_reducible rfl))
        try simp only [Act.put, List.setIfInBounds_toArray, List.set_cons_zero, List.set_cons_succ]
        refine wpAnyH_take (i := 3) (oi := { dst := some 43, op := Op.call { callee := Callee.builtin Builtin.len, args := #[Operand.tmp 42], argTypes := #[33] }, type := 3, pos := "law.go:172", after := #[{ on := 2, ground := Ground.data }, { on := 1, ground := Ground.guard }], guard := some (1, true) }) (v := ?_) rfl (by kernel_rfl) (by kernel_rfl) (by kernel_rfl) (fun _ _ _ h => h) (Or.inl ⟨by rfl, ?_⟩) (by assumption) ?_
        rotate_left 1
        · (intro W hSW; (try dsimp only at hSW); first | (go_simp; done) | (go_simp; with_reducible rfl))
        try simp only [Act.put, List.setIfInBounds_toArray, List.set_cons_zero, List.set_cons_succ]
        refine wpAnyH_take (i := 4) (oi := { dst := some 44, op := Op.move (Operand.tmp 4), type := 3, pos := "law.go:172", after := #[{ on := 1, ground := Ground.guard }], guard := some (1, true) }) (v := ?_) rfl (by kernel_rfl) (by kernel_rfl) (by kernel_rfl) (fun _ _ _ h => h) (Or.inl ⟨by rfl, ?_⟩) (by assumption) ?_
        rotate_left 1
        · (intro W hSW; (try dsimp only at hSW); first | (go_simp; done) | (go_simp; with_reducible rfl))
        try simp only [Act.put, List.setIfInBounds_toArray, List.set_cons_zero, List.set_cons_succ]
        refine wpAnyH_take (i := 5) (oi := { dst := some 45, op := Op.binOp BinOp.eql 3 (Operand.tmp 43) (Operand.tmp 44) 3, type := 4, pos := "law.go:172", after := #[{ on := 3, ground := Ground.data }, { on := 4, ground := Ground.data }, { on := 1, ground := Ground.guard }], guard := some (1, true) }) (v := ?_) rfl (by kernel_rfl) (by kernel_rfl) (by kernel_rfl) (fun _ _ _ h => h) (Or.inl ⟨by rfl, ?_⟩) (by assumption) ?_
        rotate_left 1
        · (intro W hSW; (try dsimp only at hSW); first | (go_simp; done) | (go_simp; with_reducible rfl))
        try simp only [Act.put, List.setIfInBounds_toArray, List.set_cons_zero, List.set_cons_succ]
        refine wpAnyH_take (i := 6) (oi := { dst := some 46, op := Op.pick (Operand.tmp 41) (Operand.tmp 45) (Operand.const (Value.bool false)), type := 4, pos := "law.go:172", after := #[{ on := 1, ground := Ground.data }, { on := 5, ground := Ground.data }], guard := none }) (v := ?_) rfl (by kernel_rfl) (by kernel_rfl) (by kernel_rfl) (fun _ _ _ h => h) (Or.inl ⟨by rfl, ?_⟩) (by assumption) ?_
        rotate_left 1
        · (intro W hSW; (try dsimp only at hSW); first | (go_simp; done) | (go_simp; with_reducible rfl))
        try simp only [Act.put, List.setIfInBounds_toArray, List.set_cons_zero, List.set_cons_succ]
        refine wpAnyH_take (i := 7) (oi := { dst := some 47, op := Op.move (Operand.tmp 46), type := 4, pos := "law.go:172", after := #[{ on := 6, ground := Ground.data }, { on := 1, ground := Ground.chain }], guard := none }) (v := ?_) rfl (by kernel_rfl) (by kernel_rfl) (by kernel_rfl) (fun _ _ _ h => h) (Or.inl ⟨by rfl, ?_⟩) (by assumption) ?_
        rotate_left 1
        · (intro W hSW; (try dsimp only at hSW); first | (go_simp; done) | (go_simp; with_reducible rfl))
        try simp only [Act.put, List.setIfInBounds_toArray, List.set_cons_zero, List.set_cons_succ]
        refine wpAnyH_take (i := 8) (oi := { dst := some 48, op := Op.fieldAddr 32 (Operand.tmp 10) 0, type := 0, pos := "law.go:172", after := #[{ on := 7, ground := Ground.guard }], guard := some (7, true) }) (v := ?_) rfl (by kernel_rfl) (by kernel_rfl) (by kernel_rfl) (fun _ _ _ h => h) (Or.inl ⟨by rfl, ?_⟩) (by assumption) ?_
        rotate_left 1
        · (intro W hSW; (try dsimp only at hSW); first | (go_simp; done) | (go_simp; with_reducible rfl))
        try simp only [Act.put, List.setIfInBounds_toArray, List.set_cons_zero, List.set_cons_succ]
        refine wpAnyH_take (i := 9) (oi := { dst := some 49, op := Op.load 30 (Operand.tmp 48), type := 30, pos := "law.go:172", after := #[{ on := 8, ground := Ground.data }, { on := 7, ground := Ground.guard }], guard := some (7, true) }) (v := ?_) rfl (by kernel_rfl) (by kernel_rfl) (by kernel_rfl) (fun _ _ _ h => h) (Or.inl ⟨by rfl, ?_⟩) (by assumption) ?_
        rotate_left 1
        · (intro W hSW; (try dsimp only at hSW); first | (go_simp; done) | (go_simp; with_reducible rfl))
        try simp only [Act.put, List.setIfInBounds_toArray, List.set_cons_zero, List.set_cons_succ]
        refine wpAnyH_take (i := 10) (oi := { dst := some 50, op := Op.call { callee := Callee.builtin Builtin.len, args := #[Operand.tmp 49], argTypes := #[30] }, type := 3, pos := "law.go:172", after := #[{ on := 9, ground := Ground.data }, { on := 7, ground := Ground.guard }], guard := some (7, true) }) (v := ?_) rfl (by kernel_rfl) (by kernel_rfl) (by kernel_rfl) (fun _ _ _ h => h) (Or.inl ⟨by rfl, ?_⟩) (by assumption) ?_
        rotate_left 1
        · (intro W hSW; (try dsimp only at hSW); first | (go_simp; done) | (go_simp; with_reducible rfl))
        try simp only [Act.put, List.setIfInBounds_toArray, List.set_cons_zero, List.set_cons_succ]
        refine wpAnyH_take (i := 11) (oi := { dst := some 51, op := Op.fieldAddr 32 (Operand.tmp 5) 0, type := 0, pos := "law.go:172", after := #[{ on := 7, ground := Ground.guard }], guard := some (7, true) }) (v := ?_) rfl (by kernel_rfl) (by kernel_rfl) (by kernel_rfl) (fun _ _ _ h => h) (Or.inl ⟨by rfl, ?_⟩) (by assumption) ?_
        rotate_left 1
        · (intro W hSW; (try dsimp only at hSW); first | (go_simp; done) | (go_simp; with_reducible rfl))
        try simp only [Act.put, List.setIfInBounds_toArray, List.set_cons_zero, List.set_cons_succ]
        refine wpAnyH_take (i := 12) (oi := { dst := some 52, op := Op.load 30 (Operand.tmp 51), type := 30, pos := "law.go:172", after := #[{ on := 11, ground := Ground.data }, { on := 7, ground := Ground.guard }], guard := some (7, true) }) (v := ?_) rfl (by kernel_rfl) (by kernel_rfl) (by kernel_rfl) (fun _ _ _ h => h) (Or.inl ⟨by rfl, ?_⟩) (by assumption) ?_
        rotate_left 1
        · (intro W hSW; (try dsimp only at hSW); first | (go_simp; done) | (go_simp; with_reducible rfl))
        try simp only [Act.put, List.setIfInBounds_toArray, List.set_cons_zero, List.set_cons_succ]
        refine wpAnyH_take (i := 13) (oi := { dst := some 53, op := Op.call { callee := Callee.builtin Builtin.len, args := #[Operand.tmp 52], argTypes := #[30] }, type := 3, pos := "law.go:172", after := #[{ on := 12, ground := Ground.data }, { on := 7, ground := Ground.guard }], guard := some (7, true) }) (v := ?_) rfl (by kernel_rfl) (by kernel_rfl) (by kernel_rfl) (fun _ _ _ h => h) (Or.inl ⟨by rfl, ?_⟩) (by assumption) ?_
        rotate_left 1
        · (intro W hSW; (try dsimp only at hSW); first | (go_simp; done) | (go_simp; with_reducible rfl))
        try simp only [Act.put, List.setIfInBounds_toArray, List.set_cons_zero, List.set_cons_succ]
        refine wpAnyH_take (i := 14) (oi := { dst := some 54, op := Op.binOp BinOp.sub 3 (Operand.tmp 50) (Operand.tmp 53) 3, type := 3, pos := "law.go:172", after := #[{ on := 10, ground := Ground.data }, { on := 13, ground := Ground.data }, { on := 7, ground := Ground.guard }], guard := some (7, true) }) (v := ?_) rfl (by kernel_rfl) (by kernel_rfl) (by kernel_rfl) (fun _ _ _ h => h) (Or.inl ⟨by rfl, ?_⟩) (by assumption) ?_
        rotate_left 1
        · (intro W hSW; (try dsimp only at hSW); first | (go_simp; done) | (go_simp; with_reducible rfl))
        try simp only [Act.put, List.setIfInBounds_toArray, List.set_cons_zero, List.set_cons_succ]
        refine wpAnyH_take (i := 15) (oi := { dst := some 55, op := Op.move (Operand.tmp 4), type := 3, pos := "law.go:172", after := #[{ on := 7, ground := Ground.guard }], guard := some (7, true) }) (v := ?_) rfl (by kernel_rfl) (by kernel_rfl) (by kernel_rfl) (fun _ _ _ h => h) (Or.inl ⟨by rfl, ?_⟩) (by assumption) ?_
        rotate_left 1
        · (intro W hSW; (try dsimp only at hSW); first | (go_simp; done) | (go_simp; with_reducible rfl))
        try simp only [Act.put, List.setIfInBounds_toArray, List.set_cons_zero, List.set_cons_succ]
        refine wpAnyH_ready (rs := [16]) (by kernel_rfl) (by simp) ?_
        refine (AllReadyH.cons (o := { dst := some 56, op := Op.call { callee := Callee.value (Operand.func 30), args := #[Operand.tmp 55], argTypes := #[3] }, type := 3, pos := "law.go:172", after := #[{ on := 15, ground := Ground.data }, { on := 7, ground := Ground.chain }, { on := 7, ground := Ground.guard }], guard := some (7, true) }) rfl (fun K hK => ?_) AllReadyH.nil)
        rw [if_pos (by rfl)]
        go_simp
        go_at_call 30
        refine (HCM.out _).mono ?_
        rintro e wc1 ⟨rfl, gc1⟩
        have hgr1 := World.grownBy.trans hdr gc1
        go_wp2_with fail
        refine hK.out _ _ (HS.out _ hgr1) (fun hHeld => ?_)
        clear hK K
        try simp only [Act.put, List.setIfInBounds_toArray, List.set_cons_zero, List.set_cons_succ]
        refine wpAnyH_take (i := 17) (oi := { dst := some 57, op := Op.binOp BinOp.mul 3 (Operand.const (Value.int IntKind.i64 2)) (Operand.tmp 56) 3, type := 3, pos := "law.go:172", after := #[{ on := 16, ground := Ground.data }, { on := 7, ground := Ground.guard }], guard := some (7, true) }) (v := ?_) rfl (by kernel_rfl) (by kernel_rfl) (by kernel_rfl) (fun _ _ _ h => h) (Or.inl ⟨by rfl, ?_⟩) (by assumption) ?_
        rotate_left 1
        · (intro W hSW; (try dsimp only at hSW); first | (go_simp; done) | (go_simp; with_reducible rfl))
        try simp only [Act.put, List.setIfInBounds_toArray, List.set_cons_zero, List.set_cons_succ]
        refine wpAnyH_take (i := 18) (oi := { dst := some 58, op := Op.binOp BinOp.leq 3 (Operand.tmp 54) (Operand.tmp 57) 3, type := 4, pos := "law.go:172", after := #[{ on := 14, ground := Ground.data }, { on := 17, ground := Ground.data }, { on := 7, ground := Ground.guard }], guard := some (7, true) }) (v := ?_) rfl (by kernel_rfl) (by kernel_rfl) (by kernel_rfl) (fun _ _ _ h => h) (Or.inl ⟨by rfl, ?_⟩) (by assumption) ?_
        rotate_left 1
        · (intro W hSW; (try dsimp only at hSW); first | (go_simp; done) | (go_simp; with_reducible rfl))
        try simp only [Act.put, List.setIfInBounds_toArray, List.set_cons_zero, List.set_cons_succ]
        refine wpAnyH_take (i := 19) (oi := { dst := some 59, op := Op.pick (Operand.tmp 47) (Operand.tmp 58) (Operand.const (Value.bool false)), type := 4, pos := "law.go:172", after := #[{ on := 7, ground := Ground.data }, { on := 18, ground := Ground.data }], guard := none }) (v := ?_) rfl (by kernel_rfl) (by kernel_rfl) (by kernel_rfl) (fun _ _ _ h => h) (Or.inl ⟨by rfl, ?_⟩) (by assumption) ?_
        rotate_left 1
        · (intro W hSW; (try dsimp only at hSW); first | (go_simp; done) | (go_simp; with_reducible rfl))
        try simp only [Act.put, List.setIfInBounds_toArray, List.set_cons_zero, List.set_cons_succ]
        refine wpAnyH_take (i := 20) (oi := { dst := some 60, op := Op.move (Operand.tmp 59), type := 4, pos := "law.go:172", after := #[{ on := 19, ground := Ground.data }, { on := 16, ground := Ground.chain }], guard := none }) (v := ?_) rfl (by kernel_rfl) (by kernel_rfl) (by kernel_rfl) (fun _ _ _ h => h) (Or.inl ⟨by rfl, ?_⟩) (by assumption) ?_
        rotate_left 1
        · (intro W hSW; (try dsimp only at hSW); first | (go_simp; done) | (go_simp; with_reducible rfl))
        try simp only [Act.put, List.setIfInBounds_toArray, List.set_cons_zero, List.set_cons_succ]
        refine wpAnyH_take (i := 21) (oi := { dst := some 61, op := Op.move (Operand.tmp 4), type := 3, pos := "law.go:172", after := #[{ on := 20, ground := Ground.guard }], guard := some (20, true) }) (v := ?_) rfl (by kernel_rfl) (by kernel_rfl) (by kernel_rfl) (fun _ _ _ h => h) (Or.inl ⟨by rfl, ?_⟩) (by assumption) ?_
        rotate_left 1
        · (intro W hSW; (try dsimp only at hSW); first | (go_simp; done) | (go_simp; with_reducible rfl))
        try simp only [Act.put, List.setIfInBounds_toArray, List.set_cons_zero, List.set_cons_succ]
        refine wpAnyH_take (i := 22) (oi := { dst := some 62, op := Op.binOp BinOp.lss 3 (Operand.tmp 61) (Operand.const (Value.int IntKind.i64 2)) 3, type := 4, pos := "law.go:172", after := #[{ on := 21, ground := Ground.data }, { on := 20, ground := Ground.guard }], guard := some (20, true) }) (v := ?_) rfl (by kernel_rfl) (by kernel_rfl) (by kernel_rfl) (fun _ _ _ h => h) (Or.inl ⟨by rfl, ?_⟩) (by assumption) ?_
        rotate_left 1
        · (intro W hSW; (try dsimp only at hSW); first | (go_simp; done) | (go_simp; with_reducible rfl))
        try simp only [Act.put, List.setIfInBounds_toArray, List.set_cons_zero, List.set_cons_succ]
        refine wpAnyH_take (i := 23) (oi := { dst := some 63, op := Op.move (Operand.tmp 62), type := 4, pos := "law.go:172", after := #[{ on := 22, ground := Ground.data }, { on := 20, ground := Ground.chain }, { on := 20, ground := Ground.guard }], guard := some (20, true) }) (v := ?_) rfl (by kernel_rfl) (by kernel_rfl) (by kernel_rfl) (fun _ _ _ h => h) (Or.inl ⟨by rfl, ?_⟩) (by assumption) ?_
        rotate_left 1
        · (intro W hSW; (try dsimp only at hSW); first | (go_simp; done) | (go_simp; with_reducible rfl))
        try simp only [Act.put, List.setIfInBounds_toArray, List.set_cons_zero, List.set_cons_succ]
        refine wpAnyH_take (i := 24) (oi := { dst := some 64, op := Op.fieldAddr 32 (Operand.tmp 10) 0, type := 0, pos := "law.go:172", after := #[{ on := 23, ground := Ground.guard }], guard := some (23, false) }) (v := undef) rfl (by kernel_rfl) (by kernel_rfl) (by kernel_rfl) (fun _ _ _ h => h) (Or.inr ⟨by rfl, rfl⟩) (by assumption) ?_
        try simp only [Act.put, List.setIfInBounds_toArray, List.set_cons_zero, List.set_cons_succ]
        refine wpAnyH_take (i := 25) (oi := { dst := some 65, op := Op.load 30 (Operand.tmp 64), type := 30, pos := "law.go:172", after := #[{ on := 24, ground := Ground.data }, { on := 23, ground := Ground.guard }], guard := some (23, false) }) (v := undef) rfl (by kernel_rfl) (by kernel_rfl) (by kernel_rfl) (fun _ _ _ h => h) (Or.inr ⟨by rfl, rfl⟩) (by assumption) ?_
        try simp only [Act.put, List.setIfInBounds_toArray, List.set_cons_zero, List.set_cons_succ]
        refine wpAnyH_take (i := 26) (oi := { dst := some 66, op := Op.call { callee := Callee.builtin Builtin.len, args := #[Operand.tmp 65], argTypes := #[30] }, type := 3, pos := "law.go:172", after := #[{ on := 25, ground := Ground.data }, { on := 23, ground := Ground.guard }], guard := some (23, false) }) (v := undef) rfl (by kernel_rfl) (by kernel_rfl) (by kernel_rfl) (fun _ _ _ h => h) (Or.inr ⟨by rfl, rfl⟩) (by assumption) ?_
        try simp only [Act.put, List.setIfInBounds_toArray, List.set_cons_zero, List.set_cons_succ]
        refine wpAnyH_take (i := 27) (oi := { dst := some 67, op := Op.fieldAddr 32 (Operand.tmp 5) 0, type := 0, pos := "law.go:172", after := #[{ on := 23, ground := Ground.guard }], guard := some (23, false) }) (v := undef) rfl (by kernel_rfl) (by kernel_rfl) (by kernel_rfl) (fun _ _ _ h => h) (Or.inr ⟨by rfl, rfl⟩) (by assumption) ?_
        try simp only [Act.put, List.setIfInBounds_toArray, List.set_cons_zero, List.set_cons_succ]
        refine wpAnyH_take (i := 28) (oi := { dst := some 68, op := Op.load 30 (Operand.tmp 67), type := 30, pos := "law.go:172", after := #[{ on := 27, ground := Ground.data }, { on := 23, ground := Ground.guard }], guard := some (23, false) }) (v := undef) rfl (by kernel_rfl) (by kernel_rfl) (by kernel_rfl) (fun _ _ _ h => h) (Or.inr ⟨by rfl, rfl⟩) (by assumption) ?_
        try simp only [Act.put, List.setIfInBounds_toArray, List.set_cons_zero, List.set_cons_succ]
        refine wpAnyH_take (i := 29) (oi := { dst := some 69, op := Op.call { callee := Callee.builtin Builtin.len, args := #[Operand.tmp 68], argTypes := #[30] }, type := 3, pos := "law.go:172", after := #[{ on := 28, ground := Ground.data }, { on := 23, ground := Ground.guard }], guard := some (23, false) }) (v := undef) rfl (by kernel_rfl) (by kernel_rfl) (by kernel_rfl) (fun _ _ _ h => h) (Or.inr ⟨by rfl, rfl⟩) (by assumption) ?_
        try simp only [Act.put, List.setIfInBounds_toArray, List.set_cons_zero, List.set_cons_succ]
        refine wpAnyH_take (i := 30) (oi := { dst := some 70, op := Op.binOp BinOp.gtr 3 (Operand.tmp 66) (Operand.tmp 69) 3, type := 4, pos := "law.go:172", after := #[{ on := 26, ground := Ground.data }, { on := 29, ground := Ground.data }, { on := 23, ground := Ground.guard }], guard := some (23, false) }) (v := undef) rfl (by kernel_rfl) (by kernel_rfl) (by kernel_rfl) (fun _ _ _ h => h) (Or.inr ⟨by rfl, rfl⟩) (by assumption) ?_
        try simp only [Act.put, List.setIfInBounds_toArray, List.set_cons_zero, List.set_cons_succ]
        refine wpAnyH_take (i := 31) (oi := { dst := some 71, op := Op.pick (Operand.tmp 63) (Operand.const (Value.bool true)) (Operand.tmp 70), type := 4, pos := "law.go:172", after := #[{ on := 23, ground := Ground.data }, { on := 30, ground := Ground.data }, { on := 20, ground := Ground.guard }], guard := some (20, true) }) (v := ?_) rfl (by kernel_rfl) (by kernel_rfl) (by kernel_rfl) (fun _ _ _ h => h) (Or.inl ⟨by rfl, ?_⟩) (by assumption) ?_
        rotate_left 1
        · (intro W hSW; (try dsimp only at hSW); first | (go_simp; done) | (go_simp; with_reducible rfl))
        try simp only [Act.put, List.setIfInBounds_toArray, List.set_cons_zero, List.set_cons_succ]
        refine wpAnyH_take (i := 32) (oi := { dst := some 72, op := Op.pick (Operand.tmp 60) (Operand.tmp 71) (Operand.const (Value.bool false)), type := 4, pos := "law.go:172", after := #[{ on := 20, ground := Ground.data }, { on := 31, ground := Ground.data }], guard := none }) (v := ?_) rfl (by kernel_rfl) (by kernel_rfl) (by kernel_rfl) (fun _ _ _ h => h) (Or.inl ⟨by rfl, ?_⟩) (by assumption) ?_
        rotate_left 1
        · (intro W hSW; (try dsimp only at hSW); first | (go_simp; done) | (go_simp; with_reducible rfl))
        try simp only [Act.put, List.setIfInBounds_toArray, List.set_cons_zero, List.set_cons_succ]
        refine wpAnyH_take (i := 33) (oi := { dst := some 2, op := Op.assign (Operand.tmp 72), type := 4, pos := "law.go:172", after := #[{ on := 32, ground := Ground.data }, { on := 23, ground := Ground.chain }, { on := 0, ground := Ground.phase }, { on := 1, ground := Ground.phase }, { on := 2, ground := Ground.phase }, { on := 3, ground := Ground.phase }, { on := 4, ground := Ground.phase }, { on := 5, ground := Ground.phase }, { on := 6, ground := Ground.phase }, { on := 7, ground := Ground.phase }, { on := 8, ground := Ground.phase }, { on := 9, ground := Ground.phase }, { on := 10, ground := Ground.phase }, { on := 11, ground := Ground.phase }, { on := 12, ground := Ground.phase }, { on := 13, ground := Ground.phase }, { on := 14, ground := Ground.phase }, { on := 15, ground := Ground.phase }, { on := 16, ground := Ground.phase }, { on := 17, ground := Ground.phase }, { on := 18, ground := Ground.phase }, { on := 19, ground := Ground.phase }, { on := 20, ground := Ground.phase }, { on := 21, ground := Ground.phase }, { on := 22, ground := Ground.phase }, { on := 23, ground := Ground.phase }, { on := 24, ground := Ground.phase }, { on := 25, ground := Ground.phase }, { on := 26, ground := Ground.phase }, { on := 27, ground := Ground.phase }, { on := 28, ground := Ground.phase }, { on := 29, ground := Ground.phase }, { on := 30, ground := Ground.phase }, { on := 31, ground := Ground.phase }, { on := 32, ground := Ground.phase }], guard := none }) (v := ?_) rfl (by kernel_rfl) (by kernel_rfl) (by kernel_rfl) (fun _ _ _ h => h) (Or.inl ⟨by rfl, ?_⟩) (by assumption) ?_
        rotate_left 1
        · (intro W hSW; (try dsimp only at hSW); first | (go_simp; done) | (go_simp; with_reducible rfl))
        try simp only [Act.put, List.setIfInBounds_toArray, List.set_cons_zero, List.set_cons_succ]
        refine wpAnyH_done (by kernel_rfl) ?_ _
        have hEND := hgr1
        clear hHeld
        have HE9 := Lib.hid (World.grownBy.trans HG2.out hEND)
        clear hEND
        go_wp2_with fail
        go_ret
        exact ⟨rfl, HE9.out⟩
      · have f4 : decide ((j : Int) < 2) = false := decide_eq_false (by omega)
        have f5 : decide (j < 2) = false := decide_eq_false h2
        have f6 : decide ((nc : Int) < (nd : Int)) = true := decide_eq_true (by have := hs.2.resolve_left h2; omega)
        have f7 : decide (nc < nd) = true := decide_eq_true (hs.2.resolve_left h2)
        clear hs e1 hdd hnd hnc hcm hcm63 h2
        have HS := Lib.hid (fun (Wh : World) (hWh : V3.grownBy Wh none) => (⟨hWh, hWh.cell HQ.out.1 (by simp), hWh.cell HQ.out.2 (by simp)⟩ : (fun Wh : World => V3.grownBy Wh none ∧ Wh.cell? ⟨bS, 0, none⟩ = some (.slice a1 nd c1) ∧ Wh.cell? ⟨bc, 0, none⟩ = some (.slice a nc c)) Wh))
        have hdr : V3.grownBy V3.drew none := ⟨rfl, rfl, rfl, Nat.le_refl _, fun _ _ _ => rfl⟩
        refine wp_region_held_drew (S := (fun Wh : World => V3.grownBy Wh none ∧ Wh.cell? ⟨bS, 0, none⟩ = some (.slice a1 nd c1) ∧ Wh.cell? ⟨bc, 0, none⟩ = some (.slice a nc c))) (by kernel_rfl) (HS.out _ hdr) (fun hHeld => ?_)
        refine wpAnyH_take (i := 0) (oi := { dst := some 40, op := Op.move (Operand.tmp 3), type := 4, pos := "law.go:172", after := #[], guard := none }) (v := ?_) rfl (by kernel_rfl) (by kernel_rfl) (by kernel_rfl) (fun _ _ _ h => h) (Or.inl ⟨by rfl, ?_⟩) (by assumption) ?_
        rotate_left 1
        · (intro W hSW; (try dsimp only at hSW); first | (go_simp; done) | (go_simp; with_reducible rfl))
        try simp only [Act.put, List.setIfInBounds_toArray, List.set_cons_zero, List.set_cons_succ]
        refine wpAnyH_take (i := 1) (oi := { dst := some 41, op := Op.move (Operand.tmp 40), type := 4, pos := "law.go:172", after := #[{ on := 0, ground := Ground.data }], guard := none }) (v := ?_) rfl (by kernel_rfl) (by kernel_rfl) (by kernel_rfl) (fun _ _ _ h => h) (Or.inl ⟨by rfl, ?_⟩) (by assumption) ?_
        rotate_left 1
        · (intro W hSW; (try dsimp only at hSW); first | (go_simp; done) | (go_simp; with_reducible rfl))
        try simp only [Act.put, List.setIfInBounds_toArray, List.set_cons_zero, List.set_cons_succ]
        refine wpAnyH_take (i := 2) (oi := { dst := some 42, op := Op.move (Operand.tmp 11), type := 33, pos := "law.go:172", after := #[{ on := 1, ground := Ground.guard }], guard := some (1, true) }) (v := ?_) rfl (by kernel_rfl) (by kernel_rfl) (by kernel_rfl) (fun _ _ _ h => h) (Or.inl ⟨by rfl, ?_⟩) (by assumption) ?_
        rotate_left 1
        · (intro W hSW; (try dsimp only at hSW); first | (go_simp; done) | (go_simp; with_reducible rfl))
        try simp only [Act.put, List.setIfInBounds_toArray, List.set_cons_zero, List.set_cons_succ]
        refine wpAnyH_take (i := 3) (oi := { dst := some 43, op := Op.call { callee := Callee.builtin Builtin.len, args := #[Operand.tmp 42], argTypes := #[33] }, type := 3, pos := "law.go:172", after := #[{ on := 2, ground := Ground.data }, { on := 1, ground := Ground.guard }], guard := some (1, true) }) (v := ?_) rfl (by kernel_rfl) (by kernel_rfl) (by kernel_rfl) (fun _ _ _ h => h) (Or.inl ⟨by rfl, ?_⟩) (by assumption) ?_
        rotate_left 1
        · (intro W hSW; (try dsimp only at hSW); first | (go_simp; done) | (go_simp; with_reducible rfl))
        try simp only [Act.put, List.setIfInBounds_toArray, List.set_cons_zero, List.set_cons_succ]
        refine wpAnyH_take (i := 4) (oi := { dst := some 44, op := Op.move (Operand.tmp 4), type := 3, pos := "law.go:172", after := #[{ on := 1, ground := Ground.guard }], guard := some (1, true) }) (v := ?_) rfl (by kernel_rfl) (by kernel_rfl) (by kernel_rfl) (fun _ _ _ h => h) (Or.inl ⟨by rfl, ?_⟩) (by assumption) ?_
        rotate_left 1
        · (intro W hSW; (try dsimp only at hSW); first | (go_simp; done) | (go_simp; with_reducible rfl))
        try simp only [Act.put, List.setIfInBounds_toArray, List.set_cons_zero, List.set_cons_succ]
        refine wpAnyH_take (i := 5) (oi := { dst := some 45, op := Op.binOp BinOp.eql 3 (Operand.tmp 43) (Operand.tmp 44) 3, type := 4, pos := "law.go:172", after := #[{ on := 3, ground := Ground.data }, { on := 4, ground := Ground.data }, { on := 1, ground := Ground.guard }], guard := some (1, true) }) (v := ?_) rfl (by kernel_rfl) (by kernel_rfl) (by kernel_rfl) (fun _ _ _ h => h) (Or.inl ⟨by rfl, ?_⟩) (by assumption) ?_
        rotate_left 1
        · (intro W hSW; (try dsimp only at hSW); first | (go_simp; done) | (go_simp; with_reducible rfl))
        try simp only [Act.put, List.setIfInBounds_toArray, List.set_cons_zero, List.set_cons_succ]
        refine wpAnyH_take (i := 6) (oi := { dst := some 46, op := Op.pick (Operand.tmp 41) (Operand.tmp 45) (Operand.const (Value.bool false)), type := 4, pos := "law.go:172", after := #[{ on := 1, ground := Ground.data }, { on := 5, ground := Ground.data }], guard := none }) (v := ?_) rfl (by kernel_rfl) (by kernel_rfl) (by kernel_rfl) (fun _ _ _ h => h) (Or.inl ⟨by rfl, ?_⟩) (by assumption) ?_
        rotate_left 1
        · (intro W hSW; (try dsimp only at hSW); first | (go_simp; done) | (go_simp; with_reducible rfl))
        try simp only [Act.put, List.setIfInBounds_toArray, List.set_cons_zero, List.set_cons_succ]
        refine wpAnyH_take (i := 7) (oi := { dst := some 47, op := Op.move (Operand.tmp 46), type := 4, pos := "law.go:172", after := #[{ on := 6, ground := Ground.data }, { on := 1, ground := Ground.chain }], guard := none }) (v := ?_) rfl (by kernel_rfl) (by kernel_rfl) (by kernel_rfl) (fun _ _ _ h => h) (Or.inl ⟨by rfl, ?_⟩) (by assumption) ?_
        rotate_left 1
        · (intro W hSW; (try dsimp only at hSW); first | (go_simp; done) | (go_simp; with_reducible rfl))
        try simp only [Act.put, List.setIfInBounds_toArray, List.set_cons_zero, List.set_cons_succ]
        refine wpAnyH_take (i := 8) (oi := { dst := some 48, op := Op.fieldAddr 32 (Operand.tmp 10) 0, type := 0, pos := "law.go:172", after := #[{ on := 7, ground := Ground.guard }], guard := some (7, true) }) (v := ?_) rfl (by kernel_rfl) (by kernel_rfl) (by kernel_rfl) (fun _ _ _ h => h) (Or.inl ⟨by rfl, ?_⟩) (by assumption) ?_
        rotate_left 1
        · (intro W hSW; (try dsimp only at hSW); first | (go_simp; done) | (go_simp; with_reducible rfl))
        try simp only [Act.put, List.setIfInBounds_toArray, List.set_cons_zero, List.set_cons_succ]
        refine wpAnyH_take (i := 9) (oi := { dst := some 49, op := Op.load 30 (Operand.tmp 48), type := 30, pos := "law.go:172", after := #[{ on := 8, ground := Ground.data }, { on := 7, ground := Ground.guard }], guard := some (7, true) }) (v := ?_) rfl (by kernel_rfl) (by kernel_rfl) (by kernel_rfl) (fun _ _ _ h => h) (Or.inl ⟨by rfl, ?_⟩) (by assumption) ?_
        rotate_left 1
        · (intro W hSW; (try dsimp only at hSW); first | (go_simp; done) | (go_simp; with_reducible rfl))
        try simp only [Act.put, List.setIfInBounds_toArray, List.set_cons_zero, List.set_cons_succ]
        refine wpAnyH_take (i := 10) (oi := { dst := some 50, op := Op.call { callee := Callee.builtin Builtin.len, args := #[Operand.tmp 49], argTypes := #[30] }, type := 3, pos := "law.go:172", after := #[{ on := 9, ground := Ground.data }, { on := 7, ground := Ground.guard }], guard := some (7, true) }) (v := ?_) rfl (by kernel_rfl) (by kernel_rfl) (by kernel_rfl) (fun _ _ _ h => h) (Or.inl ⟨by rfl, ?_⟩) (by assumption) ?_
        rotate_left 1
        · (intro W hSW; (try dsimp only at hSW); first | (go_simp; done) | (go_simp; with_reducible rfl))
        try simp only [Act.put, List.setIfInBounds_toArray, List.set_cons_zero, List.set_cons_succ]
        refine wpAnyH_take (i := 11) (oi := { dst := some 51, op := Op.fieldAddr 32 (Operand.tmp 5) 0, type := 0, pos := "law.go:172", after := #[{ on := 7, ground := Ground.guard }], guard := some (7, true) }) (v := ?_) rfl (by kernel_rfl) (by kernel_rfl) (by kernel_rfl) (fun _ _ _ h => h) (Or.inl ⟨by rfl, ?_⟩) (by assumption) ?_
        rotate_left 1
        · (intro W hSW; (try dsimp only at hSW); first | (go_simp; done) | (go_simp; with_reducible rfl))
        try simp only [Act.put, List.setIfInBounds_toArray, List.set_cons_zero, List.set_cons_succ]
        refine wpAnyH_take (i := 12) (oi := { dst := some 52, op := Op.load 30 (Operand.tmp 51), type := 30, pos := "law.go:172", after := #[{ on := 11, ground := Ground.data }, { on := 7, ground := Ground.guard }], guard := some (7, true) }) (v := ?_) rfl (by kernel_rfl) (by kernel_rfl) (by kernel_rfl) (fun _ _ _ h => h) (Or.inl ⟨by rfl, ?_⟩) (by assumption) ?_
        rotate_left 1
        · (intro W hSW; (try dsimp only at hSW); first | (go_simp; done) | (go_simp; with_reducible rfl))
        try simp only [Act.put, List.setIfInBounds_toArray, List.set_cons_zero, List.set_cons_succ]
        refine wpAnyH_take (i := 13) (oi := { dst := some 53, op := Op.call { callee := Callee.builtin Builtin.len, args := #[Operand.tmp 52], argTypes := #[30] }, type := 3, pos := "law.go:172", after := #[{ on := 12, ground := Ground.data }, { on := 7, ground := Ground.guard }], guard := some (7, true) }) (v := ?_) rfl (by kernel_rfl) (by kernel_rfl) (by kernel_rfl) (fun _ _ _ h => h) (Or.inl ⟨by rfl, ?_⟩) (by assumption) ?_
        rotate_left 1
        · (intro W hSW; (try dsimp only at hSW); first | (go_simp; done) | (go_simp; with_reducible rfl))
        try simp only [Act.put, List.setIfInBounds_toArray, List.set_cons_zero, List.set_cons_succ]
        refine wpAnyH_take (i := 14) (oi := { dst := some 54, op := Op.binOp BinOp.sub 3 (Operand.tmp 50) (Operand.tmp 53) 3, type := 3, pos := "law.go:172", after := #[{ on := 10, ground := Ground.data }, { on := 13, ground := Ground.data }, { on := 7, ground := Ground.guard }], guard := some (7, true) }) (v := ?_) rfl (by kernel_rfl) (by kernel_rfl) (by kernel_rfl) (fun _ _ _ h => h) (Or.inl ⟨by rfl, ?_⟩) (by assumption) ?_
        rotate_left 1
        · (intro W hSW; (try dsimp only at hSW); first | (go_simp; done) | (go_simp; with_reducible rfl))
        try simp only [Act.put, List.setIfInBounds_toArray, List.set_cons_zero, List.set_cons_succ]
        refine wpAnyH_take (i := 15) (oi := { dst := some 55, op := Op.move (Operand.tmp 4), type := 3, pos := "law.go:172", after := #[{ on := 7, ground := Ground.guard }], guard := some (7, true) }) (v := ?_) rfl (by kernel_rfl) (by kernel_rfl) (by kernel_rfl) (fun _ _ _ h => h) (Or.inl ⟨by rfl, ?_⟩) (by assumption) ?_
        rotate_left 1
        · (intro W hSW; (try dsimp only at hSW); first | (go_simp; done) | (go_simp; with_reducible rfl))
        try simp only [Act.put, List.setIfInBounds_toArray, List.set_cons_zero, List.set_cons_succ]
        refine wpAnyH_ready (rs := [16]) (by kernel_rfl) (by simp) ?_
        refine (AllReadyH.cons (o := { dst := some 56, op := Op.call { callee := Callee.value (Operand.func 30), args := #[Operand.tmp 55], argTypes := #[3] }, type := 3, pos := "law.go:172", after := #[{ on := 15, ground := Ground.data }, { on := 7, ground := Ground.chain }, { on := 7, ground := Ground.guard }], guard := some (7, true) }) rfl (fun K hK => ?_) AllReadyH.nil)
        rw [if_pos (by rfl)]
        go_simp
        go_at_call 30
        refine (HCM.out _).mono ?_
        rintro e wc1 ⟨rfl, gc1⟩
        have hgr1 := World.grownBy.trans hdr gc1
        go_wp2_with fail
        refine hK.out _ _ (HS.out _ hgr1) (fun hHeld => ?_)
        clear hK K
        try simp only [Act.put, List.setIfInBounds_toArray, List.set_cons_zero, List.set_cons_succ]
        refine wpAnyH_take (i := 17) (oi := { dst := some 57, op := Op.binOp BinOp.mul 3 (Operand.const (Value.int IntKind.i64 2)) (Operand.tmp 56) 3, type := 3, pos := "law.go:172", after := #[{ on := 16, ground := Ground.data }, { on := 7, ground := Ground.guard }], guard := some (7, true) }) (v := ?_) rfl (by kernel_rfl) (by kernel_rfl) (by kernel_rfl) (fun _ _ _ h => h) (Or.inl ⟨by rfl, ?_⟩) (by assumption) ?_
        rotate_left 1
        · (intro W hSW; (try dsimp only at hSW); first | (go_simp; done) | (go_simp; with_reducible rfl))
        try simp only [Act.put, List.setIfInBounds_toArray, List.set_cons_zero, List.set_cons_succ]
        refine wpAnyH_take (i := 18) (oi := { dst := some 58, op := Op.binOp BinOp.leq 3 (Operand.tmp 54) (Operand.tmp 57) 3, type := 4, pos := "law.go:172", after := #[{ on := 14, ground := Ground.data }, { on := 17, ground := Ground.data }, { on := 7, ground := Ground.guard }], guard := some (7, true) }) (v := ?_) rfl (by kernel_rfl) (by kernel_rfl) (by kernel_rfl) (fun _ _ _ h => h) (Or.inl ⟨by rfl, ?_⟩) (by assumption) ?_
        rotate_left 1
        · (intro W hSW; (try dsimp only at hSW); first | (go_simp; done) | (go_simp; with_reducible rfl))
        try simp only [Act.put, List.setIfInBounds_toArray, List.set_cons_zero, List.set_cons_succ]
        refine wpAnyH_take (i := 19) (oi := { dst := some 59, op := Op.pick (Operand.tmp 47) (Operand.tmp 58) (Operand.const (Value.bool false)), type := 4, pos := "law.go:172", after := #[{ on := 7, ground := Ground.data }, { on := 18, ground := Ground.data }], guard := none }) (v := ?_) rfl (by kernel_rfl) (by kernel_rfl) (by kernel_rfl) (fun _ _ _ h => h) (Or.inl ⟨by rfl, ?_⟩) (by assumption) ?_
        rotate_left 1
        · (intro W hSW; (try dsimp only at hSW); first | (go_simp; done) | (go_simp; with_reducible rfl))
        try simp only [Act.put, List.setIfInBounds_toArray, List.set_cons_zero, List.set_cons_succ]
        refine wpAnyH_take (i := 20) (oi := { dst := some 60, op := Op.move (Operand.tmp 59), type := 4, pos := "law.go:172", after := #[{ on := 19, ground := Ground.data }, { on := 16, ground := Ground.chain }], guard := none }) (v := ?_) rfl (by kernel_rfl) (by kernel_rfl) (by kernel_rfl) (fun _ _ _ h => h) (Or.inl ⟨by rfl, ?_⟩) (by assumption) ?_
        rotate_left 1
        · (intro W hSW; (try dsimp only at hSW); first | (go_simp; done) | (go_simp; with_reducible rfl))
        try simp only [Act.put, List.setIfInBounds_toArray, List.set_cons_zero, List.set_cons_succ]
        refine wpAnyH_take (i := 21) (oi := { dst := some 61, op := Op.move (Operand.tmp 4), type := 3, pos := "law.go:172", after := #[{ on := 20, ground := Ground.guard }], guard := some (20, true) }) (v := ?_) rfl (by kernel_rfl) (by kernel_rfl) (by kernel_rfl) (fun _ _ _ h => h) (Or.inl ⟨by rfl, ?_⟩) (by assumption) ?_
        rotate_left 1
        · (intro W hSW; (try dsimp only at hSW); first | (go_simp; done) | (go_simp; with_reducible rfl))
        try simp only [Act.put, List.setIfInBounds_toArray, List.set_cons_zero, List.set_cons_succ]
        refine wpAnyH_take (i := 22) (oi := { dst := some 62, op := Op.binOp BinOp.lss 3 (Operand.tmp 61) (Operand.const (Value.int IntKind.i64 2)) 3, type := 4, pos := "law.go:172", after := #[{ on := 21, ground := Ground.data }, { on := 20, ground := Ground.guard }], guard := some (20, true) }) (v := ?_) rfl (by kernel_rfl) (by kernel_rfl) (by kernel_rfl) (fun _ _ _ h => h) (Or.inl ⟨by rfl, ?_⟩) (by assumption) ?_
        rotate_left 1
        · (intro W hSW; (try dsimp only at hSW); first | (go_simp; done) | (go_simp; with_reducible rfl))
        try simp only [Act.put, List.setIfInBounds_toArray, List.set_cons_zero, List.set_cons_succ]
        refine wpAnyH_take (i := 23) (oi := { dst := some 63, op := Op.move (Operand.tmp 62), type := 4, pos := "law.go:172", after := #[{ on := 22, ground := Ground.data }, { on := 20, ground := Ground.chain }, { on := 20, ground := Ground.guard }], guard := some (20, true) }) (v := ?_) rfl (by kernel_rfl) (by kernel_rfl) (by kernel_rfl) (fun _ _ _ h => h) (Or.inl ⟨by rfl, ?_⟩) (by assumption) ?_
        rotate_left 1
        · (intro W hSW; (try dsimp only at hSW); first | (go_simp; done) | (go_simp; with_reducible rfl))
        try simp only [Act.put, List.setIfInBounds_toArray, List.set_cons_zero, List.set_cons_succ]
        refine wpAnyH_take (i := 24) (oi := { dst := some 64, op := Op.fieldAddr 32 (Operand.tmp 10) 0, type := 0, pos := "law.go:172", after := #[{ on := 23, ground := Ground.guard }], guard := some (23, false) }) (v := ?_) rfl (by kernel_rfl) (by kernel_rfl) (by kernel_rfl) (fun _ _ _ h => h) (Or.inl ⟨by rfl, ?_⟩) (by assumption) ?_
        rotate_left 1
        · (intro W hSW; (try dsimp only at hSW); first | (go_simp; done) | (go_simp; with_reducible rfl))
        try simp only [Act.put, List.setIfInBounds_toArray, List.set_cons_zero, List.set_cons_succ]
        refine wpAnyH_take (i := 25) (oi := { dst := some 65, op := Op.load 30 (Operand.tmp 64), type := 30, pos := "law.go:172", after := #[{ on := 24, ground := Ground.data }, { on := 23, ground := Ground.guard }], guard := some (23, false) }) (v := ?_) rfl (by kernel_rfl) (by kernel_rfl) (by kernel_rfl) (fun _ _ _ h => h) (Or.inl ⟨by rfl, ?_⟩) (by assumption) ?_
        rotate_left 1
        · (intro W hSW; (try dsimp only at hSW); first | (go_simp; done) | (go_simp; with_reducible rfl))
        try simp only [Act.put, List.setIfInBounds_toArray, List.set_cons_zero, List.set_cons_succ]
        refine wpAnyH_take (i := 26) (oi := { dst := some 66, op := Op.call { callee := Callee.builtin Builtin.len, args := #[Operand.tmp 65], argTypes := #[30] }, type := 3, pos := "law.go:172", after := #[{ on := 25, ground := Ground.data }, { on := 23, ground := Ground.guard }], guard := some (23, false) }) (v := ?_) rfl (by kernel_rfl) (by kernel_rfl) (by kernel_rfl) (fun _ _ _ h => h) (Or.inl ⟨by rfl, ?_⟩) (by assumption) ?_
        rotate_left 1
        · (intro W hSW; (try dsimp only at hSW); first | (go_simp; done) | (go_simp; with_reducible rfl))
        try simp only [Act.put, List.setIfInBounds_toArray, List.set_cons_zero, List.set_cons_succ]
        refine wpAnyH_take (i := 27) (oi := { dst := some 67, op := Op.fieldAddr 32 (Operand.tmp 5) 0, type := 0, pos := "law.go:172", after := #[{ on := 23, ground := Ground.guard }], guard := some (23, false) }) (v := ?_) rfl (by kernel_rfl) (by kernel_rfl) (by kernel_rfl) (fun _ _ _ h => h) (Or.inl ⟨by rfl, ?_⟩) (by assumption) ?_
        rotate_left 1
        · (intro W hSW; (try dsimp only at hSW); first | (go_simp; done) | (go_simp; with_reducible rfl))
        try simp only [Act.put, List.setIfInBounds_toArray, List.set_cons_zero, List.set_cons_succ]
        refine wpAnyH_take (i := 28) (oi := { dst := some 68, op := Op.load 30 (Operand.tmp 67), type := 30, pos := "law.go:172", after := #[{ on := 27, ground := Ground.data }, { on := 23, ground := Ground.guard }], guard := some (23, false) }) (v := ?_) rfl (by kernel_rfl) (by kernel_rfl) (by kernel_rfl) (fun _ _ _ h => h) (Or.inl ⟨by rfl, ?_⟩) (by assumption) ?_
        rotate_left 1
        · (intro W hSW; (try dsimp only at hSW); first | (go_simp; done) | (go_simp; with_reducible rfl))
        try simp only [Act.put, List.setIfInBounds_toArray, List.set_cons_zero, List.set_cons_succ]
        refine wpAnyH_take (i := 29) (oi := { dst := some 69, op := Op.call { callee := Callee.builtin Builtin.len, args := #[Operand.tmp 68], argTypes := #[30] }, type := 3, pos := "law.go:172", after := #[{ on := 28, ground := Ground.data }, { on := 23, ground := Ground.guard }], guard := some (23, false) }) (v := ?_) rfl (by kernel_rfl) (by kernel_rfl) (by kernel_rfl) (fun _ _ _ h => h) (Or.inl ⟨by rfl, ?_⟩) (by assumption) ?_
        rotate_left 1
        · (intro W hSW; (try dsimp only at hSW); first | (go_simp; done) | (go_simp; with_reducible rfl))
        try simp only [Act.put, List.setIfInBounds_toArray, List.set_cons_zero, List.set_cons_succ]
        refine wpAnyH_take (i := 30) (oi := { dst := some 70, op := Op.binOp BinOp.gtr 3 (Operand.tmp 66) (Operand.tmp 69) 3, type := 4, pos := "law.go:172", after := #[{ on := 26, ground := Ground.data }, { on := 29, ground := Ground.data }, { on := 23, ground := Ground.guard }], guard := some (23, false) }) (v := ?_) rfl (by kernel_rfl) (by kernel_rfl) (by kernel_rfl) (fun _ _ _ h => h) (Or.inl ⟨by rfl, ?_⟩) (by assumption) ?_
        rotate_left 1
        · (intro W hSW; (try dsimp only at hSW); first | (go_simp; done) | (go_simp; with_reducible rfl))
        try simp only [Act.put, List.setIfInBounds_toArray, List.set_cons_zero, List.set_cons_succ]
        refine wpAnyH_take (i := 31) (oi := { dst := some 71, op := Op.pick (Operand.tmp 63) (Operand.const (Value.bool true)) (Operand.tmp 70), type := 4, pos := "law.go:172", after := #[{ on := 23, ground := Ground.data }, { on := 30, ground := Ground.data }, { on := 20, ground := Ground.guard }], guard := some (20, true) }) (v := ?_) rfl (by kernel_rfl) (by kernel_rfl) (by kernel_rfl) (fun _ _ _ h => h) (Or.inl ⟨by rfl, ?_⟩) (by assumption) ?_
        rotate_left 1
        · (intro W hSW; (try dsimp only at hSW); first | (go_simp; done) | (go_simp; with_reducible rfl))
        try simp only [Act.put, List.setIfInBounds_toArray, List.set_cons_zero, List.set_cons_succ]
        refine wpAnyH_take (i := 32) (oi := { dst := some 72, op := Op.pick (Operand.tmp 60) (Operand.tmp 71) (Operand.const (Value.bool false)), type := 4, pos := "law.go:172", after := #[{ on := 20, ground := Ground.data }, { on := 31, ground := Ground.data }], guard := none }) (v := ?_) rfl (by kernel_rfl) (by kernel_rfl) (by kernel_rfl) (fun _ _ _ h => h) (Or.inl ⟨by rfl, ?_⟩) (by assumption) ?_
        rotate_left 1
        · (intro W hSW; (try dsimp only at hSW); first | (go_simp; done) | (go_simp; with_reducible rfl))
        try simp only [Act.put, List.setIfInBounds_toArray, List.set_cons_zero, List.set_cons_succ]
        refine wpAnyH_take (i := 33) (oi := { dst := some 2, op := Op.assign (Operand.tmp 72), type := 4, pos := "law.go:172", after := #[{ on := 32, ground := Ground.data }, { on := 23, ground := Ground.chain }, { on := 0, ground := Ground.phase }, { on := 1, ground := Ground.phase }, { on := 2, ground := Ground.phase }, { on := 3, ground := Ground.phase }, { on := 4, ground := Ground.phase }, { on := 5, ground := Ground.phase }, { on := 6, ground := Ground.phase }, { on := 7, ground := Ground.phase }, { on := 8, ground := Ground.phase }, { on := 9, ground := Ground.phase }, { on := 10, ground := Ground.phase }, { on := 11, ground := Ground.phase }, { on := 12, ground := Ground.phase }, { on := 13, ground := Ground.phase }, { on := 14, ground := Ground.phase }, { on := 15, ground := Ground.phase }, { on := 16, ground := Ground.phase }, { on := 17, ground := Ground.phase }, { on := 18, ground := Ground.phase }, { on := 19, ground := Ground.phase }, { on := 20, ground := Ground.phase }, { on := 21, ground := Ground.phase }, { on := 22, ground := Ground.phase }, { on := 23, ground := Ground.phase }, { on := 24, ground := Ground.phase }, { on := 25, ground := Ground.phase }, { on := 26, ground := Ground.phase }, { on := 27, ground := Ground.phase }, { on := 28, ground := Ground.phase }, { on := 29, ground := Ground.phase }, { on := 30, ground := Ground.phase }, { on := 31, ground := Ground.phase }, { on := 32, ground := Ground.phase }], guard := none }) (v := ?_) rfl (by kernel_rfl) (by kernel_rfl) (by kernel_rfl) (fun _ _ _ h => h) (Or.inl ⟨by rfl, ?_⟩) (by assumption) ?_
        rotate_left 1
        · (intro W hSW; (try dsimp only at hSW); first | (go_simp; done) | (go_simp; with_reducible rfl))
        try simp only [Act.put, List.setIfInBounds_toArray, List.set_cons_zero, List.set_cons_succ]
        refine wpAnyH_done (by kernel_rfl) ?_ _
        have hEND := hgr1
        clear hHeld
        have HE9 := Lib.hid (World.grownBy.trans HG2.out hEND)
        clear hEND
        go_wp2_with fail
        go_ret
        exact ⟨rfl, HE9.out⟩
end Go.Proofs.Ythagoihpppppkaa
