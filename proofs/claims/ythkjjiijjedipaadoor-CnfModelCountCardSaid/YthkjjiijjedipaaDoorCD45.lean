/- Texts of the proof: L4. -/
import Derived.BigQuiet
import Derived.Deep.RegionHeld3
import Derived.Deep.DeepCutAuto
import Derived.Test.YthkjjiijjedipaaDoorCD44
namespace Go.Proofs.YthkjjiijjedipaaDoor
open Go.RowKit
set_option maxRecDepth 100000
set_option maxHeartbeats 16000000 in
theorem unique_calls (l : List Stp) (sa : Option Addr) (sc : Nat) (n1 n2 : Nat) (vals : List Bool) (va : Option Addr) (vc : Nat) (fl : Nat) (w : World) (htab : Tab w) (h : StpsW w sa sc l) (hs : ∀ s ∈ l, StpOk s) (h1 : n1 < 256) (h2 : n2 < 256) (hv : BoolsW w va vc vals) (hfl : fl < 256) :
    Calls Tryd.prog 4 #[.slice sa l.length sc, .int .u8 (n1 : Int), .int .u8 (n2 : Int), .slice va vals.length vc, .int .u8 (fl : Int)] w fun e w' => e = .returned (.bool true) ∧ w.grownBy w' none := by
  obtain ⟨N, hN⟩ : ∃ N, l.length = N := ⟨_, rfl⟩
  have HS := Lib.hid (And.intro h hs)
  have HT := Lib.hid htab
  have HN := Lib.hid hN
  obtain ⟨nv, hnv⟩ : ∃ n, vals.length = n := ⟨_, rfl⟩
  have HNV := Lib.hid hnv
  have HV := Lib.hid hv
  rw [hN, hnv]
  clear h hs hN htab hnv hv
  by_cases h60 : 30 < N
  · have f1 : decide ((30 : Int) < (N : Int)) = true := decide_eq_true (by omega)
    have f2 : decide (30 < N) = true := decide_eq_true h60
    go_enter Tryd.func4, Tryd.ntmps4
    go_wp2_with fail
    refine (head_calls _ HT.out).mono ?_
    rintro e V1 ⟨rfl, g⟩
    go_wp2_with fail
    go_ret
    exact ⟨rfl, g⟩
  have f1 : decide ((30 : Int) < (N : Int)) = false := decide_eq_false (by omega)
  have f2 : decide (30 < N) = false := decide_eq_false h60
  by_cases h61 : 100 < nv
  · have f3 : decide ((100 : Int) < (nv : Int)) = true := decide_eq_true (by omega)
    have f4 : decide (100 < nv) = true := decide_eq_true h61
    go_enter Tryd.func4, Tryd.ntmps4
    go_wp2_with fail
    refine (head_calls _ HT.out).mono ?_
    rintro e V1 ⟨rfl, g⟩
    go_wp2_with fail
    go_ret
    exact ⟨rfl, g⟩
  have f3 : decide ((100 : Int) < (nv : Int)) = false := decide_eq_false (by omega)
  have f4 : decide (100 < nv) = false := decide_eq_false h61
  obtain ⟨p, hp⟩ : ∃ p, buildC l = p := ⟨_, rfl⟩
  obtain ⟨g0, refs⟩ := p
  have HB := Lib.hid (show Built (g0, refs) N by have := built l (by rw [HN.out]; omega); rw [hp, HN.out] at this; exact this)
  have HI8 := Lib.hid (show In8 g0 from by have := in8_build l; rw [hp] at this; exact this)
  have HP := Lib.hid hp
  clear hp
  have HG := Lib.hid (grown_refl w none)
  have HGD := Lib.hid (show Good g0 from HB.out.good)
  have HL := Lib.hid (show g0.length ≤ 91 from by have := HB.out.len; simp only at this; omega)
  have HRL := Lib.hid (show refs.length = N from HB.out.refs)
  have HRO := Lib.hid (show ∀ r ∈ refs, Ok g0 r from HB.out.ok)
  go_enter Tryd.func4, Tryd.ntmps4
  go_wp2_with fail
  refine (head_calls _ HT.out).mono ?_
  rintro e V1 ⟨rfl, g⟩
  replace HG := Lib.hid (World.grownBy.trans HG.out g)
  clear g
  go_wp2_with fail
  clear f1 f2 f3 f4
  have HBC := Lib.hid (rbuild_calls l sa sc V1 HP.out (HS.out.1.grown HG.out) (by rw [HN.out]; omega) HS.out.2)
  rw [HN.out] at HBC
  refine HBC.out.mono ?_
  rintro e V2 ⟨ac, cc, ra, rc, rfl, hr, hri, g⟩
  have HRI := Lib.hid hri
  replace HG := Lib.hid (World.grownBy.trans HG.out g)
  clear g
  clear hri HBC
  obtain ⟨gl, hgl⟩ : ∃ n, g0.length = n := ⟨_, rfl⟩
  have HGL := Lib.hid hgl
  rw [hgl]
  obtain ⟨p2, Z2, X2, hp2, hZ2, hz0, hz1, hX2, hx2, hcb, g⟩ := boxC hgl hr (grown_refl V2 none)
  have HCB := Lib.hid hcb
  clear hcb hgl hr hx2
  have HRI := Lib.hid (HRI.out.grown g)
  replace HG := Lib.hid (World.grownBy.trans HG.out g)
  clear g
  go_wp2_with fail
  clear hX2 hZ2 hp2 hz0 hz1
  have HPC := Lib.hid (pick_calls refs n1 ra rc X2 HRI.out (by rw [HRL.out]; omega) h1 (ok_le (by have := HL.out; omega) HRO.out))
  obtain ⟨r, hr⟩ : ∃ x, pickL refs n1 = x := ⟨_, rfl⟩
  rw [hr] at HPC
  have OR := Lib.hid (show Ok g0 r from by rw [← hr]; exact pick_ok HGD.out.pos HRO.out n1)
  clear hr HRI
  refine (HPC.out).mono ?_
  rintro e w9 ⟨rfl, hw9⟩
  rw [hw9]
  clear hw9 w9
  clear HPC
  go_wp2_with fail
  have HIN := Lib.hid (inputs_calls n2 h2 X2)
  obtain ⟨m, hm⟩ : ∃ m, 8 + n2 % 4 = m := ⟨_, rfl⟩
  rw [hm] at HIN
  have HM : Hid (8 ≤ m ∧ m ≤ 11) := Lib.hid (by omega)
  clear hm
  refine (HIN.out).mono ?_
  rintro e w9 ⟨rfl, hw9⟩
  rw [hw9]
  clear hw9 w9
  clear HIN
  obtain ⟨p, hp⟩ : ∃ p, tseP g0 r m = p := ⟨_, rfl⟩
  obtain ⟨V, Lc⟩ := p
  have HE := Lib.hid (And.intro hp (tse_facts HGD.out HI8.out HL.out HM.out.1 HM.out.2 OR.out hp))
  clear hp
  obtain ⟨nc, hnc⟩ : ∃ n, Lc.length = n := ⟨_, rfl⟩
  have HNC := Lib.hid hnc
  clear hnc
  have q0 := (by have h := HCB.out.1; rw [HGL.out] at h; exact h)
  go_wp2_with fail
  clear q0
  have HCC := Lib.hid (tse_calls HE.out.1 ac cc X2 HCB.out.2.2 HGD.out (by have := HL.out; omega) OR.out (by have := HM.out; omega))
  rw [HGL.out, HNC.out] at HCC
  refine HCC.out.mono ?_
  rintro e V3 ⟨fa, fc, rfl, hcl, g⟩
  clear HCC
  obtain ⟨pf, Zf, Xf, hpf, hZf, hz0, hz1, hz2, hz3, hXf, hf0, hf1, hcl, g⟩ := boxF (w0 := X2) (v := (V : Int)) (n := nc) hcl g
  have HFB : Hid (CF Xf pf (V : Int) fa nc fc Lc) := Lib.hid ⟨hf0, hf1, hcl⟩
  clear hcl hf0 hf1
  replace HCB := Lib.hid (HCB.out.grown g)
  replace HG := Lib.hid (World.grownBy.trans HG.out g)
  clear g
  go_wp2_with fail
  clear hXf hZf hpf hz0 hz1 hz2 hz3
  have hV150 := HE.out.2.top
  obtain ⟨i0, hi0, hz0, hz1, hz2⟩ := info_parts info4
  obtain ⟨g, hg⟩ : ∃ z, Xf.heap.size = z := ⟨_, rfl⟩
  have HGX := Lib.hid hg
  go_loopg [17, 18] V (fun gk s17 s18 wr => ∃ (k : Nat) (av : Option Addr) (cv : Nat), s17 = .slice av k cv ∧ s18 = .int .i64 (k : Int) ∧ gk = V - k ∧ k ≤ V ∧ wr.ownsRow g 4 1 (.slice av k cv) k (boolCells (givenP k vals)) ∧ Xf.grownBy wr none)
  case atStart => exact ⟨0, none, 0, rfl, rfl, rfl, Nat.zero_le _, World.ownsRow_nil _ _ _ _, grown_refl _ _⟩
  case round =>
    obtain ⟨k, av, cv, rfl, rfl, hgk, hkV, hown, hgr⟩ := hrel
    obtain ⟨wo, hwo⟩ : ∃ z, z = wr := ⟨_, rfl⟩
    rw [← hwo] at hown hgr ⊢
    clear hwo
    have HI := Lib.hid (And.intro hgk (And.intro hown hgr))
    clear hgk hown hgr
    have q0 := (HFB.out.grown HI.out.2.2).1
    by_cases hk : k < V
    · have b1 : decide (k < V) = true := decide_eq_true hk
      have b2 : decide ((k : Int) < (V : Int)) = true := decide_eq_true (by omega)
      have b3 : decide ((k : Int) < 200) = true := decide_eq_true (by omega)
      have b4 : decide (k < 200) = true := decide_eq_true (by omega)
      obtain ⟨y, hy⟩ : ∃ y, (vals[k]?).getD false = y := ⟨_, rfl⟩
      have HX : Hid (givenP (k + 1) vals = givenP k vals ++ [y]) := Lib.hid (by rw [given_succ, hy])
      obtain ⟨Lg, hLg⟩ : ∃ z, boolCells (givenP k vals) = z := ⟨_, rfl⟩
      have HLC := Lib.hid hLg
      have HOW := Lib.hid (by have h := HI.out.2.1; rw [hLg] at h; exact h)
      clear hLg
      have hnew := cell_bool_new wo y 4
      have HSZ : Hid (g ≤ wo.heap.size) := Lib.hid (by rw [← HGX.out]; exact HI.out.2.2.size)
      by_cases hkv : k < nv
      · have v1 : decide (k < nv) = true := decide_eq_true hkv
        have v2 : decide ((k : Int) < (nv : Int)) = true := decide_eq_true (by omega)
        have v3 : (k : Int) < (nv : Int) := by omega
        have hvk : vals[k]? = some y := by
          rw [List.getElem?_eq_getElem (by rw [HNV.out]; exact hkv)] at hy ⊢
          exact congrArg some hy
        obtain ⟨vk, vo, rfl, cv0⟩ := (HV.out.grown (World.grownBy.trans HG.out HI.out.2.2)).at hvk
        clear hvk hy
        go_wp2_with (at_builtin; refine wpList_append_own_at _ rfl _ _ 23 rfl g 4 i0 (.bool false) 1 1 Tryd.underlying23 hi0 hz0 hz1 hz2 rfl (by decide) _ k Lg rfl (HOW.out.alloc _) ⟨wo.heap.size, 0, none⟩ 1 1 [.bool y] rfl rfl hnew (fun u hu => by simp at hu; subst hu; rfl) (by unfold maxLen; omega) (by omega) (by have := HSZ.out; simp; omega) ?_)
        intro v' w7 hown' hgrow7 _ hat7
        obtain ⟨rgA, rcA, rfl⟩ := own_shape hown'
        have HST := Lib.hid (And.intro hown' (grown_own (World.grownBy.trans HI.out.2.2 (World.grownBy_alloc wo (.cells #[.bool y] 4) none)) hgrow7 (fun x e => by rw [HGX.out]; exact (HOW.out.lt x e).1)))
        clear hown' hgrow7 hat7 hnew
        go_wp2_with fail
        go_roundg (V - (k + 1))
        case measure => rw [HI.out.1]; omega
        case rel => exact ⟨k + 1, rgA, rcA, rfl, rfl, rfl, by omega, by rw [HX.out, boolCells, List.map_append, ← boolCells, HLC.out]; exact HST.out.1, HST.out.2⟩
      · have v1 : decide (k < nv) = false := decide_eq_false hkv
        have v2 : decide ((k : Int) < (nv : Int)) = false := decide_eq_false (by omega)
        have hyf : y = false := by
          rw [List.getElem?_eq_none (by rw [HNV.out]; omega)] at hy
          exact hy.symm
        subst hyf
        clear hy
        go_wp2_with (at_builtin; refine wpList_append_own_at _ rfl _ _ 23 rfl g 4 i0 (.bool false) 1 1 Tryd.underlying23 hi0 hz0 hz1 hz2 rfl (by decide) _ k Lg rfl (HOW.out.alloc _) ⟨wo.heap.size, 0, none⟩ 1 1 [.bool false] rfl rfl hnew (fun u hu => by simp at hu; subst hu; rfl) (by unfold maxLen; omega) (by omega) (by have := HSZ.out; simp; omega) ?_)
        intro v' w7 hown' hgrow7 _ hat7
        obtain ⟨rgA, rcA, rfl⟩ := own_shape hown'
        have HST := Lib.hid (And.intro hown' (grown_own (World.grownBy.trans HI.out.2.2 (World.grownBy_alloc wo (.cells #[.bool false] 4) none)) hgrow7 (fun x e => by rw [HGX.out]; exact (HOW.out.lt x e).1)))
        clear hown' hgrow7 hat7 hnew
        go_wp2_with fail
        go_roundg (V - (k + 1))
        case measure => rw [HI.out.1]; omega
        case rel => exact ⟨k + 1, rgA, rcA, rfl, rfl, rfl, by omega, by rw [HX.out, boolCells, List.map_append, ← boolCells, HLC.out]; exact HST.out.1, HST.out.2⟩
    · have hke : k = V := by omega
      subst hke
      have b1 : decide (k < k) = false := by simp
      have b2 : decide ((k : Int) < (k : Int)) = false := by simp
      have HLW := Lib.hid HE.out.2.low
      have e2 : decide ((k : Int) < (m : Int)) = false := decide_eq_false (by have := HLW.out; omega)
      have e3 : decide (k < m) = false := decide_eq_false (by have := HLW.out; omega)
      obtain ⟨wb, rfl, hba, hwb, hwc⟩ := own_barr HI.out.2.1 (by have := HM.out; have := HLW.out; omega)
      obtain ⟨A, hA⟩ : ∃ A, givenP k vals = A := ⟨_, rfl⟩
      rw [hA] at hba
      have HAL : Hid (A.length = k) := Lib.hid (by rw [← hA]; exact given_len k vals)
      have HWB : Hid (BoolsW wo (some ⟨wb, 0, none⟩) cv A) := Lib.hid (hba.bools (by rw [HAL.out]; exact hwc))
      have HWT : Hid (BoolsW wo (some ⟨wb, 0, none⟩) cv (A.take m)) := Lib.hid ⟨by rw [List.length_take, HAL.out]; omega, .inr ⟨wb, 0, rfl, fun i z hi => by
        rw [List.getElem?_take] at hi
        split at hi
        · rw [Nat.zero_add]; exact hba.cells i z hi
        · cases hi⟩⟩
      have hmc : m ≤ cv := by have := HLW.out; omega
      have hmc2 : (m : Int) ≤ (cv : Int) := by omega
      have hTE := tse_ext HGD.out HI8.out HM.out.1 OR.out A (by rw [HAL.out, HE.out.1])
      rw [HE.out.1] at hTE
      obtain ⟨G, hG⟩ : ∃ G, A.take m = G := ⟨_, rfl⟩
      rw [hG] at HWT hTE
      have HGL2 : Hid (G.length = m) := Lib.hid (by rw [← hG, List.length_take, HAL.out]; have := HLW.out; omega)
      have hXF := HE.out.2.ext G
      rw [given_self HGL2.out] at hXF
      have hFN := fun (j : Nat) (hj : m ≤ j) (b : Bool) (hb : (extP g0 r m G)[j]? = some b) => flip_no HGD.out HI8.out HM.out.1 OR.out HE.out.1 G HGL2.out hj hb
      obtain ⟨X, hX⟩ : ∃ X, extP g0 r m G = X := ⟨_, rfl⟩
      rw [hX] at hXF hFN hTE
      have HX := Lib.hid hX
      have HXF := Lib.hid hXF
      have HFN := Lib.hid hFN
      have HTE := Lib.hid hTE
      clear hba hwb hwc hA hG hXF hFN hTE hX
      have HRB := Lib.hid (show r ≤ 9223372036854775807 from by have := OR.out.2; have := HL.out; omega)
      have HG1000 := Lib.hid (show g0.length ≤ 1000 from by have := HL.out; omega)
      have HCB := Lib.hid (HCB.out.grown HI.out.2.2)
      have HFB := Lib.hid (HFB.out.grown HI.out.2.2)
      have HGW := Lib.hid (World.grownBy.trans HG.out HI.out.2.2)
      have HC1 := Lib.hid (fun (W : World) (hW : wo.grownBy W none) => (by
        have h := satisfies_calls (k : Int) Lc A fa (some ⟨wb, 0, none⟩) fc cv W (HFB.out.grown hW).2.2 (HWB.out.grown hW) (by have := HE.out.2.len; omega) HE.out.2.three (by rw [HAL.out]; omega) HE.out.2.rng
        rw [HNC.out, HAL.out] at h
        exact h : Calls Tryd.prog 15 #[cnfV (k : Int) fa nc fc, .slice (some ⟨wb, 0, none⟩) k cv] W fun e w2 => e = .returned (.bool (satP A Lc)) ∧ W.grownBy w2 none))
      have HC2 := Lib.hid (fun (W : World) (hW : wo.grownBy W none) => (by
        have h := ext_calls HX.out HGL2.out ac cc (some ⟨wb, 0, none⟩) cv W (HCB.out.grown hW).2.2 HGD.out (HWT.out.grown hW) HG1000.out (by have := HM.out; omega) OR.out (by have := HM.out; omega)
        rw [HGL.out, HXF.out.1] at h
        exact h : Calls Tryd.prog 13 #[.agg #[.slice ac gl cc], .int .i64 r, .int .i64 (m : Int), .slice (some ⟨wb, 0, none⟩) m cv] W fun e w2 => ∃ a2 c2, e = .returned (.slice a2 k c2) ∧ BoolsW w2 a2 c2 X ∧ W.grownBy w2 none))
      have HC3 := Lib.hid (fun (a2 : Option Addr) (c2 : Nat) (W : World) (hW : wo.grownBy W none) (hb : BoolsW W a2 c2 X) (hXA : X = A) => (by
        have h := sameBools_calls X A a2 (some ⟨wb, 0, none⟩) c2 cv W hb (HWB.out.grown hW) (by rw [HXF.out.1]; omega)
        rw [HXF.out.1, HAL.out, decide_eq_true hXA] at h
        exact h.mono (fun _ _ ⟨h1, q, h2⟩ => ⟨h1, by rw [h2]; exact grown_drewN _ _ _⟩) : Calls Tryd.prog 17 #[.slice a2 k c2, .slice (some ⟨wb, 0, none⟩) k cv] W fun e w2 => e = .returned (.bool true) ∧ W.grownBy w2 none))
      have HC4 := Lib.hid (fun (W : World) (hW : wo.grownBy W none) (hev : evalC g0 G r = true) => (by
        have h := reval_calls g0 G r ac cc (some ⟨wb, 0, none⟩) cv W (HCB.out.grown hW).2.2 HGD.out (HWT.out.grown hW) HG1000.out (by rw [HGL2.out]; have := HM.out; omega) HRB.out
        rw [HGL.out, HGL2.out, hev] at h
        exact h : Calls Tryd.prog 16 #[.agg #[.slice ac gl cc], .slice (some ⟨wb, 0, none⟩) m cv, .int .i64 r] W fun e w2 => e = .returned (.bool true) ∧ W.grownBy w2 none))
      go_wp2_with fail
      clear q0 b1 b2 e2 e3
      cases hS : satP A Lc with
      | true =>
        rw [hS] at HC1
        have HXA := Lib.hid (HTE.out.1 hS)
        have HS := Lib.hid (fun (Wh : World) (hWh : wo.grownBy Wh none) => (⟨hWh, hWh.cell (show wo.cell? ⟨p2, 0, none⟩ = some (.slice ac gl cc) from by have h := HCB.out.1; rw [HGL.out] at h; exact h) (by simp), hWh.cell HFB.out.1 (by simp), hWh.cell HFB.out.2.1 (by simp)⟩ : (fun Wh : World => wo.grownBy Wh none ∧ Wh.cell? ⟨p2, 0, none⟩ = some (.slice ac gl cc) ∧ Wh.cell? ⟨pf, 0, none⟩ = some (.int .i64 (k : Int)) ∧ Wh.cell? ⟨pf, 1, none⟩ = some (.slice fa nc fc)) Wh))
        have hdr : wo.grownBy wo.drew none := ⟨rfl, rfl, rfl, Nat.le_refl _, fun _ _ _ => rfl⟩
        refine wp_region_held_drew (S := (fun Wh : World => wo.grownBy Wh none ∧ Wh.cell? ⟨p2, 0, none⟩ = some (.slice ac gl cc) ∧ Wh.cell? ⟨pf, 0, none⟩ = some (.int .i64 (k : Int)) ∧ Wh.cell? ⟨pf, 1, none⟩ = some (.slice fa nc fc))) (by kernel_rfl) (HS.out _ hdr) (fun hHeld => ?_)
        refine wpAnyH_take (i := 0) (oi := { dst := some 73, op := Op.load 35 (Operand.tmp 16), type := 35, pos := "law.go:97", after := #[], guard := none }) (v := ?_) rfl (by kernel_rfl) (by kernel_rfl) (by kernel_rfl) (fun _ _ _ h => h) (Or.inl ⟨by rfl, ?_⟩) (by assumption) ?_
        rotate_left 1
        · (intro W hSW; (try dsimp only at hSW); first | (go_simp; done) | (go_simp; with_reducible rfl))
        try simp only [Act.put, List.setIfInBounds_toArray, List.set_cons_zero, List.set_cons_succ]
        refine wpAnyH_take (i := 1) (oi := { dst := some 74, op := Op.move (Operand.tmp 17), type := 23, pos := "law.go:97", after := #[], guard := none }) (v := ?_) rfl (by kernel_rfl) (by kernel_rfl) (by kernel_rfl) (fun _ _ _ h => h) (Or.inl ⟨by rfl, ?_⟩) (by assumption) ?_
        rotate_left 1
        · (intro W hSW; (try dsimp only at hSW); first | (go_simp; done) | (go_simp; with_reducible rfl))
        try simp only [Act.put, List.setIfInBounds_toArray, List.set_cons_zero, List.set_cons_succ]
        refine wpAnyH_ready (rs := [2]) (by kernel_rfl) (by simp) ?_
        refine (AllReadyH.cons (o := { dst := some 75, op := Op.call { callee := Callee.value (Operand.func 15), args := #[Operand.tmp 73, Operand.tmp 74], argTypes := #[35, 23] }, type := 4, pos := "law.go:97", after := #[{ on := 0, ground := Ground.data }, { on := 1, ground := Ground.data }], guard := none }) rfl (fun K hK => ?_) AllReadyH.nil)
        rw [if_pos (by rfl)]
        go_simp
        go_at_call 15
        refine (HC1.out _ hdr).mono ?_
        rintro e wc1 ⟨rfl, gc1⟩
        have hgr1 := World.grownBy.trans hdr gc1
        go_wp2_with fail
        refine hK.out _ _ (HS.out _ hgr1) (fun hHeld => ?_)
        clear hK K
        try simp only [Act.put, List.setIfInBounds_toArray, List.set_cons_zero, List.set_cons_succ]
        refine wpAnyH_take (i := 3) (oi := { dst := some 76, op := Op.move (Operand.tmp 75), type := 4, pos := "law.go:97", after := #[{ on := 2, ground := Ground.data }, { on := 2, ground := Ground.chain }], guard := none }) (v := ?_) rfl (by kernel_rfl) (by kernel_rfl) (by kernel_rfl) (fun _ _ _ h => h) (Or.inl ⟨by rfl, ?_⟩) (by assumption) ?_
        rotate_left 1
        · (intro W hSW; (try dsimp only at hSW); first | (go_simp; done) | (go_simp; with_reducible rfl))
        try simp only [Act.put, List.setIfInBounds_toArray, List.set_cons_zero, List.set_cons_succ]
        refine wpAnyH_take (i := 4) (oi := { dst := some 77, op := Op.load 27 (Operand.tmp 12), type := 27, pos := "law.go:97", after := #[{ on := 3, ground := Ground.guard }], guard := some (3, true) }) (v := ?_) rfl (by kernel_rfl) (by kernel_rfl) (by kernel_rfl) (fun _ _ _ h => h) (Or.inl ⟨by rfl, ?_⟩) (by assumption) ?_
        rotate_left 1
        · (intro W hSW; (try dsimp only at hSW); first | (go_simp; done) | (go_simp; with_reducible rfl))
        try simp only [Act.put, List.setIfInBounds_toArray, List.set_cons_zero, List.set_cons_succ]
        refine wpAnyH_take (i := 5) (oi := { dst := some 78, op := Op.move (Operand.tmp 14), type := 3, pos := "law.go:97", after := #[{ on := 3, ground := Ground.guard }], guard := some (3, true) }) (v := ?_) rfl (by kernel_rfl) (by kernel_rfl) (by kernel_rfl) (fun _ _ _ h => h) (Or.inl ⟨by rfl, ?_⟩) (by assumption) ?_
        rotate_left 1
        · (intro W hSW; (try dsimp only at hSW); first | (go_simp; done) | (go_simp; with_reducible rfl))
        try simp only [Act.put, List.setIfInBounds_toArray, List.set_cons_zero, List.set_cons_succ]
        refine wpAnyH_take (i := 6) (oi := { dst := some 79, op := Op.move (Operand.tmp 15), type := 3, pos := "law.go:97", after := #[{ on := 3, ground := Ground.guard }], guard := some (3, true) }) (v := ?_) rfl (by kernel_rfl) (by kernel_rfl) (by kernel_rfl) (fun _ _ _ h => h) (Or.inl ⟨by rfl, ?_⟩) (by assumption) ?_
        rotate_left 1
        · (intro W hSW; (try dsimp only at hSW); first | (go_simp; done) | (go_simp; with_reducible rfl))
        try simp only [Act.put, List.setIfInBounds_toArray, List.set_cons_zero, List.set_cons_succ]
        refine wpAnyH_take (i := 7) (oi := { dst := some 80, op := Op.move (Operand.tmp 17), type := 23, pos := "law.go:97", after := #[{ on := 3, ground := Ground.guard }], guard := some (3, true) }) (v := ?_) rfl (by kernel_rfl) (by kernel_rfl) (by kernel_rfl) (fun _ _ _ h => h) (Or.inl ⟨by rfl, ?_⟩) (by assumption) ?_
        rotate_left 1
        · (intro W hSW; (try dsimp only at hSW); first | (go_simp; done) | (go_simp; with_reducible rfl))
        try simp only [Act.put, List.setIfInBounds_toArray, List.set_cons_zero, List.set_cons_succ]
        refine wpAnyH_take (i := 8) (oi := { dst := some 81, op := Op.move (Operand.tmp 15), type := 3, pos := "law.go:97", after := #[{ on := 3, ground := Ground.guard }], guard := some (3, true) }) (v := ?_) rfl (by kernel_rfl) (by kernel_rfl) (by kernel_rfl) (fun _ _ _ h => h) (Or.inl ⟨by rfl, ?_⟩) (by assumption) ?_
        rotate_left 1
        · (intro W hSW; (try dsimp only at hSW); first | (go_simp; done) | (go_simp; with_reducible rfl))
        try simp only [Act.put, List.setIfInBounds_toArray, List.set_cons_zero, List.set_cons_succ]
        refine wpAnyH_take (i := 9) (oi := { dst := some 82, op := Op.slice 23 (Operand.tmp 80) none (some (Operand.tmp 81)) none, type := 23, pos := "law.go:97", after := #[{ on := 7, ground := Ground.data }, { on := 8, ground := Ground.data }, { on := 3, ground := Ground.guard }], guard := some (3, true) }) (v := ?_) rfl (by kernel_rfl) (by kernel_rfl) (by kernel_rfl) (fun _ _ _ h => h) (Or.inl ⟨by rfl, ?_⟩) (by assumption) ?_
        rotate_left 1
        · (intro W hSW; (try dsimp only at hSW); first | (go_simp; done) | (go_simp; with_reducible rfl))
        try simp only [Act.put, List.setIfInBounds_toArray, List.set_cons_zero, List.set_cons_succ]
        refine wpAnyH_take (i := 11) (oi := { dst := some 84, op := Op.move (Operand.tmp 17), type := 23, pos := "law.go:97", after := #[{ on := 3, ground := Ground.guard }], guard := some (3, true) }) (v := ?_) rfl (by kernel_rfl) (by kernel_rfl) (by kernel_rfl) (fun _ _ _ h => h) (Or.inl ⟨by rfl, ?_⟩) (by assumption) ?_
        rotate_left 1
        · (intro W hSW; (try dsimp only at hSW); first | (go_simp; done) | (go_simp; with_reducible rfl))
        try simp only [Act.put, List.setIfInBounds_toArray, List.set_cons_zero, List.set_cons_succ]
        refine wpAnyH_ready (rs := [10]) (by kernel_rfl) (by simp) ?_
        refine (AllReadyH.cons (o := { dst := some 83, op := Op.call { callee := Callee.value (Operand.func 13), args := #[Operand.tmp 77, Operand.tmp 78, Operand.tmp 79, Operand.tmp 82], argTypes := #[27, 3, 3, 23] }, type := 23, pos := "law.go:97", after := #[{ on := 4, ground := Ground.data }, { on := 5, ground := Ground.data }, { on := 6, ground := Ground.data }, { on := 9, ground := Ground.data }, { on := 3, ground := Ground.chain }, { on := 3, ground := Ground.guard }], guard := some (3, true) }) rfl (fun K hK => ?_) AllReadyH.nil)
        rw [if_pos (by rfl)]
        go_simp
        go_at_call 13
        refine (HC2.out _ hgr1).mono ?_
        rintro e wc2 ⟨a9, c9, rfl, hb9, gc2⟩
        have hgr2 := World.grownBy.trans hgr1 gc2
        go_wp2_with fail
        refine hK.out _ _ (HS.out _ hgr2) (fun hHeld => ?_)
        clear hK K
        try simp only [Act.put, List.setIfInBounds_toArray, List.set_cons_zero, List.set_cons_succ]
        refine wpAnyH_ready (rs := [12]) (by kernel_rfl) (by simp) ?_
        refine (AllReadyH.cons (o := { dst := some 85, op := Op.call { callee := Callee.value (Operand.func 17), args := #[Operand.tmp 83, Operand.tmp 84], argTypes := #[23, 23] }, type := 4, pos := "law.go:97", after := #[{ on := 10, ground := Ground.data }, { on := 11, ground := Ground.data }, { on := 10, ground := Ground.chain }, { on := 3, ground := Ground.guard }], guard := some (3, true) }) rfl (fun K hK => ?_) AllReadyH.nil)
        rw [if_pos (by rfl)]
        go_simp
        go_at_call 17
        refine (HC3.out a9 c9 _ hgr2 hb9 HXA.out.1.symm).mono ?_
        rintro e wc3 ⟨rfl, gc3⟩
        have hgr3 := World.grownBy.trans hgr2 gc3
        go_wp2_with fail
        refine hK.out _ _ (HS.out _ hgr3) (fun hHeld => ?_)
        clear hK K
        try simp only [Act.put, List.setIfInBounds_toArray, List.set_cons_zero, List.set_cons_succ]
        refine wpAnyH_take (i := 13) (oi := { dst := some 86, op := Op.unOp UnOp.not 4 (Operand.tmp 85), type := 4, pos := "law.go:97", after := #[{ on := 12, ground := Ground.data }, { on := 3, ground := Ground.guard }], guard := some (3, true) }) (v := ?_) rfl (by kernel_rfl) (by kernel_rfl) (by kernel_rfl) (fun _ _ _ h => h) (Or.inl ⟨by rfl, ?_⟩) (by assumption) ?_
        rotate_left 1
        · (intro W hSW; (try dsimp only at hSW); first | (go_simp; done) | (go_simp; with_reducible rfl))
        try simp only [Act.put, List.setIfInBounds_toArray, List.set_cons_zero, List.set_cons_succ]
        refine wpAnyH_take (i := 14) (oi := { dst := some 87, op := Op.move (Operand.tmp 86), type := 4, pos := "law.go:97", after := #[{ on := 13, ground := Ground.data }, { on := 12, ground := Ground.chain }, { on := 3, ground := Ground.guard }], guard := some (3, true) }) (v := ?_) rfl (by kernel_rfl) (by kernel_rfl) (by kernel_rfl) (fun _ _ _ h => h) (Or.inl ⟨by rfl, ?_⟩) (by assumption) ?_
        rotate_left 1
        · (intro W hSW; (try dsimp only at hSW); first | (go_simp; done) | (go_simp; with_reducible rfl))
        try simp only [Act.put, List.setIfInBounds_toArray, List.set_cons_zero, List.set_cons_succ]
        refine wpAnyH_take (i := 15) (oi := { dst := some 88, op := Op.load 27 (Operand.tmp 12), type := 27, pos := "law.go:97", after := #[{ on := 14, ground := Ground.guard }], guard := some (14, false) }) (v := ?_) rfl (by kernel_rfl) (by kernel_rfl) (by kernel_rfl) (fun _ _ _ h => h) (Or.inl ⟨by rfl, ?_⟩) (by assumption) ?_
        rotate_left 1
        · (intro W hSW; (try dsimp only at hSW); first | (go_simp; done) | (go_simp; with_reducible rfl))
        try simp only [Act.put, List.setIfInBounds_toArray, List.set_cons_zero, List.set_cons_succ]
        refine wpAnyH_take (i := 16) (oi := { dst := some 89, op := Op.move (Operand.tmp 17), type := 23, pos := "law.go:97", after := #[{ on := 14, ground := Ground.guard }], guard := some (14, false) }) (v := ?_) rfl (by kernel_rfl) (by kernel_rfl) (by kernel_rfl) (fun _ _ _ h => h) (Or.inl ⟨by rfl, ?_⟩) (by assumption) ?_
        rotate_left 1
        · (intro W hSW; (try dsimp only at hSW); first | (go_simp; done) | (go_simp; with_reducible rfl))
        try simp only [Act.put, List.setIfInBounds_toArray, List.set_cons_zero, List.set_cons_succ]
        refine wpAnyH_take (i := 17) (oi := { dst := some 90, op := Op.move (Operand.tmp 15), type := 3, pos := "law.go:97", after := #[{ on := 14, ground := Ground.guard }], guard := some (14, false) }) (v := ?_) rfl (by kernel_rfl) (by kernel_rfl) (by kernel_rfl) (fun _ _ _ h => h) (Or.inl ⟨by rfl, ?_⟩) (by assumption) ?_
        rotate_left 1
        · (intro W hSW; (try dsimp only at hSW); first | (go_simp; done) | (go_simp; with_reducible rfl))
        try simp only [Act.put, List.setIfInBounds_toArray, List.set_cons_zero, List.set_cons_succ]
        refine wpAnyH_take (i := 18) (oi := { dst := some 91, op := Op.slice 23 (Operand.tmp 89) none (some (Operand.tmp 90)) none, type := 23, pos := "law.go:97", after := #[{ on := 16, ground := Ground.data }, { on := 17, ground := Ground.data }, { on := 14, ground := Ground.guard }], guard := some (14, false) }) (v := ?_) rfl (by kernel_rfl) (by kernel_rfl) (by kernel_rfl) (fun _ _ _ h => h) (Or.inl ⟨by rfl, ?_⟩) (by assumption) ?_
        rotate_left 1
        · (intro W hSW; (try dsimp only at hSW); first | (go_simp; done) | (go_simp; with_reducible rfl))
        try simp only [Act.put, List.setIfInBounds_toArray, List.set_cons_zero, List.set_cons_succ]
        refine wpAnyH_take (i := 19) (oi := { dst := some 92, op := Op.move (Operand.tmp 14), type := 3, pos := "law.go:97", after := #[{ on := 14, ground := Ground.guard }], guard := some (14, false) }) (v := ?_) rfl (by kernel_rfl) (by kernel_rfl) (by kernel_rfl) (fun _ _ _ h => h) (Or.inl ⟨by rfl, ?_⟩) (by assumption) ?_
        rotate_left 1
        · (intro W hSW; (try dsimp only at hSW); first | (go_simp; done) | (go_simp; with_reducible rfl))
        try simp only [Act.put, List.setIfInBounds_toArray, List.set_cons_zero, List.set_cons_succ]
        refine wpAnyH_ready (rs := [20]) (by kernel_rfl) (by simp) ?_
        refine (AllReadyH.cons (o := { dst := some 93, op := Op.call { callee := Callee.value (Operand.func 16), args := #[Operand.tmp 88, Operand.tmp 91, Operand.tmp 92], argTypes := #[27, 23, 3] }, type := 4, pos := "law.go:97", after := #[{ on := 15, ground := Ground.data }, { on := 18, ground := Ground.data }, { on := 19, ground := Ground.data }, { on := 14, ground := Ground.chain }, { on := 14, ground := Ground.guard }], guard := some (14, false) }) rfl (fun K hK => ?_) AllReadyH.nil)
        rw [if_pos (by rfl)]
        go_simp
        go_at_call 16
        refine (HC4.out _ hgr3 HXA.out.2).mono ?_
        rintro e wc4 ⟨rfl, gc4⟩
        have hgr4 := World.grownBy.trans hgr3 gc4
        go_wp2_with fail
        refine hK.out _ _ (HS.out _ hgr4) (fun hHeld => ?_)
        clear hK K
        try simp only [Act.put, List.setIfInBounds_toArray, List.set_cons_zero, List.set_cons_succ]
        refine wpAnyH_take (i := 21) (oi := { dst := some 94, op := Op.unOp UnOp.not 4 (Operand.tmp 93), type := 4, pos := "law.go:97", after := #[{ on := 20, ground := Ground.data }, { on := 14, ground := Ground.guard }], guard := some (14, false) }) (v := ?_) rfl (by kernel_rfl) (by kernel_rfl) (by kernel_rfl) (fun _ _ _ h => h) (Or.inl ⟨by rfl, ?_⟩) (by assumption) ?_
        rotate_left 1
        · (intro W hSW; (try dsimp only at hSW); first | (go_simp; done) | (go_simp; with_reducible rfl))
        try simp only [Act.put, List.setIfInBounds_toArray, List.set_cons_zero, List.set_cons_succ]
        refine wpAnyH_take (i := 22) (oi := { dst := some 95, op := Op.pick (Operand.tmp 87) (Operand.const (Value.bool true)) (Operand.tmp 94), type := 4, pos := "law.go:97", after := #[{ on := 14, ground := Ground.data }, { on := 21, ground := Ground.data }, { on := 3, ground := Ground.guard }], guard := some (3, true) }) (v := ?_) rfl (by kernel_rfl) (by kernel_rfl) (by kernel_rfl) (fun _ _ _ h => h) (Or.inl ⟨by rfl, ?_⟩) (by assumption) ?_
        rotate_left 1
        · (intro W hSW; (try dsimp only at hSW); first | (go_simp; done) | (go_simp; with_reducible rfl))
        try simp only [Act.put, List.setIfInBounds_toArray, List.set_cons_zero, List.set_cons_succ]
        refine wpAnyH_take (i := 23) (oi := { dst := some 96, op := Op.pick (Operand.tmp 76) (Operand.tmp 95) (Operand.const (Value.bool false)), type := 4, pos := "law.go:97", after := #[{ on := 3, ground := Ground.data }, { on := 22, ground := Ground.data }], guard := none }) (v := ?_) rfl (by kernel_rfl) (by kernel_rfl) (by kernel_rfl) (fun _ _ _ h => h) (Or.inl ⟨by rfl, ?_⟩) (by assumption) ?_
        rotate_left 1
        · (intro W hSW; (try dsimp only at hSW); first | (go_simp; done) | (go_simp; with_reducible rfl))
        try simp only [Act.put, List.setIfInBounds_toArray, List.set_cons_zero, List.set_cons_succ]
        refine wpAnyH_done (by kernel_rfl) ?_ _
        have hEND := hgr4
        clear hHeld
        have HEZ := Lib.hid hEND
        obtain ⟨wz, hwz⟩ : ∃ z, z = wc4 := ⟨_, rfl⟩
        rw [← hwz] at HEZ ⊢
        clear hwz
        go_wp2_with fail
        have HCB := Lib.hid (HCB.out.grown HEZ.out)
        have HFB := Lib.hid (HFB.out.grown HEZ.out)
        have HGW := Lib.hid (World.grownBy.trans HGW.out HEZ.out)
        clear HC1 HC3 HC4
        have HS := Lib.hid (fun (Wh : World) (hWh : wz.grownBy Wh none) => (⟨hWh, hWh.cell (show wz.cell? ⟨p2, 0, none⟩ = some (.slice ac gl cc) from by have h := HCB.out.1; rw [HGL.out] at h; exact h) (by simp), hWh.cell HFB.out.1 (by simp), hWh.cell HFB.out.2.1 (by simp)⟩ : (fun Wh : World => wz.grownBy Wh none ∧ Wh.cell? ⟨p2, 0, none⟩ = some (.slice ac gl cc) ∧ Wh.cell? ⟨pf, 0, none⟩ = some (.int .i64 (k : Int)) ∧ Wh.cell? ⟨pf, 1, none⟩ = some (.slice fa nc fc)) Wh))
        have hdr : wz.grownBy wz.drew none := ⟨rfl, rfl, rfl, Nat.le_refl _, fun _ _ _ => rfl⟩
        refine wp_region_held_drew (S := (fun Wh : World => wz.grownBy Wh none ∧ Wh.cell? ⟨p2, 0, none⟩ = some (.slice ac gl cc) ∧ Wh.cell? ⟨pf, 0, none⟩ = some (.int .i64 (k : Int)) ∧ Wh.cell? ⟨pf, 1, none⟩ = some (.slice fa nc fc))) (by kernel_rfl) (HS.out _ hdr) (fun hHeld => ?_)
        refine wpAnyH_take (i := 0) (oi := { dst := some 97, op := Op.load 27 (Operand.tmp 12), type := 27, pos := "law.go:100", after := #[], guard := none }) (v := ?_) rfl (by kernel_rfl) (by kernel_rfl) (by kernel_rfl) (fun _ _ _ h => h) (Or.inl ⟨by rfl, ?_⟩) (by assumption) ?_
        rotate_left 1
        · (intro W hSW; (try dsimp only at hSW); first | (go_simp; done) | (go_simp; with_reducible rfl))
        try simp only [Act.put, List.setIfInBounds_toArray, List.set_cons_zero, List.set_cons_succ]
        refine wpAnyH_take (i := 1) (oi := { dst := some 98, op := Op.move (Operand.tmp 14), type := 3, pos := "law.go:100", after := #[], guard := none }) (v := ?_) rfl (by kernel_rfl) (by kernel_rfl) (by kernel_rfl) (fun _ _ _ h => h) (Or.inl ⟨by rfl, ?_⟩) (by assumption) ?_
        rotate_left 1
        · (intro W hSW; (try dsimp only at hSW); first | (go_simp; done) | (go_simp; with_reducible rfl))
        try simp only [Act.put, List.setIfInBounds_toArray, List.set_cons_zero, List.set_cons_succ]
        refine wpAnyH_take (i := 2) (oi := { dst := some 99, op := Op.move (Operand.tmp 15), type := 3, pos := "law.go:100", after := #[], guard := none }) (v := ?_) rfl (by kernel_rfl) (by kernel_rfl) (by kernel_rfl) (fun _ _ _ h => h) (Or.inl ⟨by rfl, ?_⟩) (by assumption) ?_
        rotate_left 1
        · (intro W hSW; (try dsimp only at hSW); first | (go_simp; done) | (go_simp; with_reducible rfl))
        try simp only [Act.put, List.setIfInBounds_toArray, List.set_cons_zero, List.set_cons_succ]
        refine wpAnyH_take (i := 3) (oi := { dst := some 100, op := Op.move (Operand.tmp 17), type := 23, pos := "law.go:100", after := #[], guard := none }) (v := ?_) rfl (by kernel_rfl) (by kernel_rfl) (by kernel_rfl) (fun _ _ _ h => h) (Or.inl ⟨by rfl, ?_⟩) (by assumption) ?_
        rotate_left 1
        · (intro W hSW; (try dsimp only at hSW); first | (go_simp; done) | (go_simp; with_reducible rfl))
        try simp only [Act.put, List.setIfInBounds_toArray, List.set_cons_zero, List.set_cons_succ]
        refine wpAnyH_take (i := 4) (oi := { dst := some 101, op := Op.move (Operand.tmp 15), type := 3, pos := "law.go:100", after := #[], guard := none }) (v := ?_) rfl (by kernel_rfl) (by kernel_rfl) (by kernel_rfl) (fun _ _ _ h => h) (Or.inl ⟨by rfl, ?_⟩) (by assumption) ?_
        rotate_left 1
        · (intro W hSW; (try dsimp only at hSW); first | (go_simp; done) | (go_simp; with_reducible rfl))
        try simp only [Act.put, List.setIfInBounds_toArray, List.set_cons_zero, List.set_cons_succ]
        refine wpAnyH_take (i := 5) (oi := { dst := some 102, op := Op.slice 23 (Operand.tmp 100) none (some (Operand.tmp 101)) none, type := 23, pos := "law.go:100", after := #[{ on := 3, ground := Ground.data }, { on := 4, ground := Ground.data }], guard := none }) (v := ?_) rfl (by kernel_rfl) (by kernel_rfl) (by kernel_rfl) (fun _ _ _ h => h) (Or.inl ⟨by rfl, ?_⟩) (by assumption) ?_
        rotate_left 1
        · (intro W hSW; (try dsimp only at hSW); first | (go_simp; done) | (go_simp; with_reducible rfl))
        try simp only [Act.put, List.setIfInBounds_toArray, List.set_cons_zero, List.set_cons_succ]
        refine wpAnyH_ready (rs := [6]) (by kernel_rfl) (by simp) ?_
        refine (AllReadyH.cons (o := { dst := some 103, op := Op.call { callee := Callee.value (Operand.func 13), args := #[Operand.tmp 97, Operand.tmp 98, Operand.tmp 99, Operand.tmp 102], argTypes := #[27, 3, 3, 23] }, type := 23, pos := "law.go:100", after := #[{ on := 0, ground := Ground.data }, { on := 1, ground := Ground.data }, { on := 2, ground := Ground.data }, { on := 5, ground := Ground.data }], guard := none }) rfl (fun K hK => ?_) AllReadyH.nil)
        rw [if_pos (by rfl)]
        go_simp
        go_at_call 13
        refine (HC2.out _ (World.grownBy.trans HEZ.out hdr)).mono ?_
        rintro e wc1 ⟨xa, xc, rfl, hxb, gc1⟩
        have hgr1 := World.grownBy.trans hdr gc1
        go_wp2_with fail
        refine hK.out _ _ (HS.out _ hgr1) (fun hHeld => ?_)
        clear hK K
        try simp only [Act.put, List.setIfInBounds_toArray, List.set_cons_zero, List.set_cons_succ]
        refine wpAnyH_take (i := 7) (oi := { dst := some 19, op := Op.assign (Operand.tmp 103), type := 23, pos := "law.go:100", after := #[{ on := 6, ground := Ground.data }, { on := 6, ground := Ground.chain }, { on := 0, ground := Ground.phase }, { on := 1, ground := Ground.phase }, { on := 2, ground := Ground.phase }, { on := 3, ground := Ground.phase }, { on := 4, ground := Ground.phase }, { on := 5, ground := Ground.phase }, { on := 6, ground := Ground.phase }], guard := none }) (v := ?_) rfl (by kernel_rfl) (by kernel_rfl) (by kernel_rfl) (fun _ _ _ h => h) (Or.inl ⟨by rfl, ?_⟩) (by assumption) ?_
        rotate_left 1
        · (intro W hSW; (try dsimp only at hSW); first | (go_simp; done) | (go_simp; with_reducible rfl))
        try simp only [Act.put, List.setIfInBounds_toArray, List.set_cons_zero, List.set_cons_succ]
        refine wpAnyH_done (by kernel_rfl) ?_ _
        have hEND := hgr1
        clear hHeld
        have HEY := Lib.hid hEND
        have HXB := Lib.hid hxb
        clear hxb
        obtain ⟨wy, hwy⟩ : ∃ z, z = wc1 := ⟨_, rfl⟩
        rw [← hwy] at HEY HXB ⊢
        clear hwy
        have HCB := Lib.hid (HCB.out.grown HEY.out)
        have HFB := Lib.hid (HFB.out.grown HEY.out)
        have HGW := Lib.hid (World.grownBy.trans HGW.out HEY.out)
        clear HC2
        by_cases hVm : m < k
        · have l1 : decide ((k : Int) ≤ (m : Int)) = false := decide_eq_false (by omega)
          have l2 : decide (k ≤ m) = false := decide_eq_false (by omega)
          have HCC := Lib.hid (fun (W : World) (hW : wy.grownBy W none) => (by
            have h := satisfies_calls (k : Int) Lc X fa xa fc xc W (HFB.out.grown hW).2.2 (HXB.out.grown hW) (by have := HE.out.2.len; omega) HE.out.2.three (by rw [HXF.out.1]; omega) HE.out.2.rng
            rw [HNC.out, HXF.out.1] at h
            exact h : Calls Tryd.prog 15 #[cnfV (k : Int) fa nc fc, .slice xa k xc] W fun e w2 => e = .returned (.bool (satP X Lc)) ∧ W.grownBy w2 none))
          have q0 := HFB.out.1
          have q1 := HFB.out.2.1
          go_wp2_with fail
          clear q0 q1
          refine (HCC.out _ (grown_refl _ _)).mono ?_
          rintro e w8 ⟨rfl, g8⟩
          have HFB := Lib.hid (HFB.out.grown g8)
          have HXB := Lib.hid (HXB.out.grown g8)
          have HGW := Lib.hid (World.grownBy.trans HGW.out g8)
          clear g8 HCC
          cases hE : satP X Lc with
          | false =>
            go_wp2_with fail
            go_ret
            exact ⟨rfl, HGW.out⟩
          | true =>
            obtain ⟨D, hD⟩ : ∃ D, k - m = D := ⟨_, rfl⟩
            have hDi : (k : Int) - (m : Int) = (D : Int) := by omega
            obtain ⟨R, hR⟩ : ∃ R, fl % D = R := ⟨_, rfl⟩
            have hRl : R < D := by rw [← hR]; exact Nat.mod_lt _ (by omega)
            obtain ⟨K, hK⟩ : ∃ K, m + R = K := ⟨_, rfl⟩
            have t1 : IntKind.i64.wrap ((k : Int) - (m : Int)) = (D : Int) := by rw [hDi]; exact IntWalk.i64_in _ (by omega)
            have t2 : IntKind.i64.wrap (fl : Int) = (fl : Int) := IntWalk.i64_in _ (by omega)
            have t3 : (fl : Int).tmod (D : Int) = (R : Int) := by rw [Int.tmod_eq_emod_of_nonneg (by omega), ← hR]; omega
            have t4 : IntKind.i64.wrap (R : Int) = (R : Int) := IntWalk.i64_in _ (by omega)
            have t5 : IntKind.i64.wrap ((m : Int) + (R : Int)) = (K : Int) := by rw [← hK, IntWalk.i64_in _ (by omega)]; omega
            have t6 : ((D : Int) == 0) = false := by simp; omega
            have t7 : ¬ (D : Int) = 0 := by omega
            have kI : (K : Int) < (k : Int) := by omega
            have hmK : m ≤ K := by omega
            have hKk : K < k := by omega
            clear hD hDi hR hRl hK
            obtain ⟨b, hb⟩ : ∃ b, X[K]? = some b := ⟨_, List.getElem?_eq_getElem (by rw [HXF.out.1]; exact hKk)⟩
            have HBK := Lib.hid (And.intro hb (HFN.out K hmK b hb))
            clear hb
            go_wp2_with (at_builtin; refine append_bools rfl _ _ rfl w8.heap.size _ 0 [] rfl (World.ownsRow_made w8 #[] 0 (Nat.le_refl _) (Nat.zero_le _) rfl) xa k xc X rfl HXF.out.1 (HXB.out.grown (World.grownBy_alloc w8 _ none)) (by omega) (World.grownBy.size (World.grownBy_alloc w8 (.cells #[] 4) none)) ?_)
            intro v' w9 hown' hgrow'
            have hown2 : w9.ownsRow w8.heap.size 4 1 v' k (boolCells X) := by simpa using hown'
            obtain ⟨ya, yc, rfl⟩ := own_shape hown2
            have hg0 : w8.grownBy w9 none := grown_own (World.grownBy_alloc w8 _ none) hgrow' (fun j e => by simp [Value.ownBlock] at e; omega)
            obtain ⟨yb, rfl, hyb, hyl, hyc⟩ := own_barr hown2 (by omega)
            have c1 := hyb.cells K b HBK.out.1
            have f1 := hyb.fr K
            have HG9 := Lib.hid hg0
            have HYS := Lib.hid (And.intro (hyb.set HBK.out.1 (!b)) (grown_own hg0 (grown_set w9 yb K (.bool (!b))) (fun x e => by cases e; exact hyl)))
            obtain ⟨WS, hWS⟩ : ∃ z, w9.setCell ⟨yb, K, none⟩ (.bool (!b)) = z := ⟨_, rfl⟩
            rw [hWS] at HYS
            clear hown' hown2 hgrow' hg0 hyb hyl
            have q0 := (HFB.out.grown HYS.out.2).1
            have q1 := (HFB.out.grown HYS.out.2).2.1
            have HCC := Lib.hid (show Calls Tryd.prog 15 #[cnfV (k : Int) fa nc fc, .slice (some ⟨yb, 0, none⟩) k yc] WS (fun e w2 => e = .returned (.bool false) ∧ WS.grownBy w2 none) from by
              have hl : (X.set K (!b)).length = k := by rw [List.length_set]; exact HXF.out.1
              have h := satisfies_calls (k : Int) Lc (X.set K (!b)) fa (some ⟨yb, 0, none⟩) fc yc WS (HFB.out.grown HYS.out.2).2.2 (HYS.out.1.bools (by rw [hl]; exact hyc)) (by have := HE.out.2.len; omega) HE.out.2.three (by rw [hl]; omega) HE.out.2.rng
              rw [HNC.out, hl, HBK.out.2] at h
              exact h)
            go_wp2_with fail
            refine HCC.out.mono ?_
            rintro e wE ⟨rfl, gE⟩
            have HGE := Lib.hid (World.grownBy.trans HGW.out (World.grownBy.trans HYS.out.2 gE))
            clear gE
            go_wp2_with fail
            go_ret
            exact ⟨rfl, HGE.out⟩
        · have l1 : decide ((k : Int) ≤ (m : Int)) = true := decide_eq_true (by omega)
          have l2 : decide (k ≤ m) = true := decide_eq_true (by omega)
          have q0 := HFB.out.1
          have q1 := HFB.out.2.1
          go_wp2_with fail
          clear q0 q1
          go_ret
          exact ⟨rfl, HGW.out⟩
      | false =>
        rw [hS] at HC1
        have HS := Lib.hid (fun (Wh : World) (hWh : wo.grownBy Wh none) => (⟨hWh, hWh.cell (show wo.cell? ⟨p2, 0, none⟩ = some (.slice ac gl cc) from by have h := HCB.out.1; rw [HGL.out] at h; exact h) (by simp), hWh.cell HFB.out.1 (by simp), hWh.cell HFB.out.2.1 (by simp)⟩ : (fun Wh : World => wo.grownBy Wh none ∧ Wh.cell? ⟨p2, 0, none⟩ = some (.slice ac gl cc) ∧ Wh.cell? ⟨pf, 0, none⟩ = some (.int .i64 (k : Int)) ∧ Wh.cell? ⟨pf, 1, none⟩ = some (.slice fa nc fc)) Wh))
        have hdr : wo.grownBy wo.drew none := ⟨rfl, rfl, rfl, Nat.le_refl _, fun _ _ _ => rfl⟩
        refine wp_region_held_drew (S := (fun Wh : World => wo.grownBy Wh none ∧ Wh.cell? ⟨p2, 0, none⟩ = some (.slice ac gl cc) ∧ Wh.cell? ⟨pf, 0, none⟩ = some (.int .i64 (k : Int)) ∧ Wh.cell? ⟨pf, 1, none⟩ = some (.slice fa nc fc))) (by kernel_rfl) (HS.out _ hdr) (fun hHeld => ?_)
        refine wpAnyH_take (i := 0) (oi := { dst := some 73, op := Op.load 35 (Operand.tmp 16), type := 35, pos := "law.go:97", after := #[], guard := none }) (v := ?_) rfl (by kernel_rfl) (by kernel_rfl) (by kernel_rfl) (fun _ _ _ h => h) (Or.inl ⟨by rfl, ?_⟩) (by assumption) ?_
        rotate_left 1
        · (intro W hSW; (try dsimp only at hSW); first | (go_simp; done) | (go_simp; with_reducible rfl))
        try simp only [Act.put, List.setIfInBounds_toArray, List.set_cons_zero, List.set_cons_succ]
        refine wpAnyH_take (i := 1) (oi := { dst := some 74, op := Op.move (Operand.tmp 17), type := 23, pos := "law.go:97", after := #[], guard := none }) (v := ?_) rfl (by kernel_rfl) (by kernel_rfl) (by kernel_rfl) (fun _ _ _ h => h) (Or.inl ⟨by rfl, ?_⟩) (by assumption) ?_
        rotate_left 1
        · (intro W hSW; (try dsimp only at hSW); first | (go_simp; done) | (go_simp; with_reducible rfl))
        try simp only [Act.put, List.setIfInBounds_toArray, List.set_cons_zero, List.set_cons_succ]
        refine wpAnyH_ready (rs := [2]) (by kernel_rfl) (by simp) ?_
        refine (AllReadyH.cons (o := { dst := some 75, op := Op.call { callee := Callee.value (Operand.func 15), args := #[Operand.tmp 73, Operand.tmp 74], argTypes := #[35, 23] }, type := 4, pos := "law.go:97", after := #[{ on := 0, ground := Ground.data }, { on := 1, ground := Ground.data }], guard := none }) rfl (fun K hK => ?_) AllReadyH.nil)
        rw [if_pos (by rfl)]
        go_simp
        go_at_call 15
        refine (HC1.out _ hdr).mono ?_
        rintro e wc1 ⟨rfl, gc1⟩
        have hgr1 := World.grownBy.trans hdr gc1
        go_wp2_with fail
        refine hK.out _ _ (HS.out _ hgr1) (fun hHeld => ?_)
        clear hK K
        try simp only [Act.put, List.setIfInBounds_toArray, List.set_cons_zero, List.set_cons_succ]
        refine wpAnyH_take (i := 3) (oi := { dst := some 76, op := Op.move (Operand.tmp 75), type := 4, pos := "law.go:97", after := #[{ on := 2, ground := Ground.data }, { on := 2, ground := Ground.chain }], guard := none }) (v := ?_) rfl (by kernel_rfl) (by kernel_rfl) (by kernel_rfl) (fun _ _ _ h => h) (Or.inl ⟨by rfl, ?_⟩) (by assumption) ?_
        rotate_left 1
        · (intro W hSW; (try dsimp only at hSW); first | (go_simp; done) | (go_simp; with_reducible rfl))
        try simp only [Act.put, List.setIfInBounds_toArray, List.set_cons_zero, List.set_cons_succ]
        refine wpAnyH_take (i := 4) (oi := { dst := some 77, op := Op.load 27 (Operand.tmp 12), type := 27, pos := "law.go:97", after := #[{ on := 3, ground := Ground.guard }], guard := some (3, true) }) (v := undef) rfl (by kernel_rfl) (by kernel_rfl) (by kernel_rfl) (fun _ _ _ h => h) (Or.inr ⟨by rfl, rfl⟩) (by assumption) ?_
        try simp only [Act.put, List.setIfInBounds_toArray, List.set_cons_zero, List.set_cons_succ]
        refine wpAnyH_take (i := 5) (oi := { dst := some 78, op := Op.move (Operand.tmp 14), type := 3, pos := "law.go:97", after := #[{ on := 3, ground := Ground.guard }], guard := some (3, true) }) (v := undef) rfl (by kernel_rfl) (by kernel_rfl) (by kernel_rfl) (fun _ _ _ h => h) (Or.inr ⟨by rfl, rfl⟩) (by assumption) ?_
        try simp only [Act.put, List.setIfInBounds_toArray, List.set_cons_zero, List.set_cons_succ]
        refine wpAnyH_take (i := 6) (oi := { dst := some 79, op := Op.move (Operand.tmp 15), type := 3, pos := "law.go:97", after := #[{ on := 3, ground := Ground.guard }], guard := some (3, true) }) (v := undef) rfl (by kernel_rfl) (by kernel_rfl) (by kernel_rfl) (fun _ _ _ h => h) (Or.inr ⟨by rfl, rfl⟩) (by assumption) ?_
        try simp only [Act.put, List.setIfInBounds_toArray, List.set_cons_zero, List.set_cons_succ]
        refine wpAnyH_take (i := 7) (oi := { dst := some 80, op := Op.move (Operand.tmp 17), type := 23, pos := "law.go:97", after := #[{ on := 3, ground := Ground.guard }], guard := some (3, true) }) (v := undef) rfl (by kernel_rfl) (by kernel_rfl) (by kernel_rfl) (fun _ _ _ h => h) (Or.inr ⟨by rfl, rfl⟩) (by assumption) ?_
        try simp only [Act.put, List.setIfInBounds_toArray, List.set_cons_zero, List.set_cons_succ]
        refine wpAnyH_take (i := 8) (oi := { dst := some 81, op := Op.move (Operand.tmp 15), type := 3, pos := "law.go:97", after := #[{ on := 3, ground := Ground.guard }], guard := some (3, true) }) (v := undef) rfl (by kernel_rfl) (by kernel_rfl) (by kernel_rfl) (fun _ _ _ h => h) (Or.inr ⟨by rfl, rfl⟩) (by assumption) ?_
        try simp only [Act.put, List.setIfInBounds_toArray, List.set_cons_zero, List.set_cons_succ]
        refine wpAnyH_take (i := 9) (oi := { dst := some 82, op := Op.slice 23 (Operand.tmp 80) none (some (Operand.tmp 81)) none, type := 23, pos := "law.go:97", after := #[{ on := 7, ground := Ground.data }, { on := 8, ground := Ground.data }, { on := 3, ground := Ground.guard }], guard := some (3, true) }) (v := undef) rfl (by kernel_rfl) (by kernel_rfl) (by kernel_rfl) (fun _ _ _ h => h) (Or.inr ⟨by rfl, rfl⟩) (by assumption) ?_
        try simp only [Act.put, List.setIfInBounds_toArray, List.set_cons_zero, List.set_cons_succ]
        refine wpAnyH_take (i := 10) (oi := { dst := some 83, op := Op.call { callee := Callee.value (Operand.func 13), args := #[Operand.tmp 77, Operand.tmp 78, Operand.tmp 79, Operand.tmp 82], argTypes := #[27, 3, 3, 23] }, type := 23, pos := "law.go:97", after := #[{ on := 4, ground := Ground.data }, { on := 5, ground := Ground.data }, { on := 6, ground := Ground.data }, { on := 9, ground := Ground.data }, { on := 3, ground := Ground.chain }, { on := 3, ground := Ground.guard }], guard := some (3, true) }) (v := undef) rfl (by kernel_rfl) (by kernel_rfl) (by kernel_rfl) (fun _ _ _ h => h) (Or.inr ⟨by rfl, rfl⟩) (by assumption) ?_
        try simp only [Act.put, List.setIfInBounds_toArray, List.set_cons_zero, List.set_cons_succ]
        refine wpAnyH_take (i := 11) (oi := { dst := some 84, op := Op.move (Operand.tmp 17), type := 23, pos := "law.go:97", after := #[{ on := 3, ground := Ground.guard }], guard := some (3, true) }) (v := undef) rfl (by kernel_rfl) (by kernel_rfl) (by kernel_rfl) (fun _ _ _ h => h) (Or.inr ⟨by rfl, rfl⟩) (by assumption) ?_
        try simp only [Act.put, List.setIfInBounds_toArray, List.set_cons_zero, List.set_cons_succ]
        refine wpAnyH_take (i := 12) (oi := { dst := some 85, op := Op.call { callee := Callee.value (Operand.func 17), args := #[Operand.tmp 83, Operand.tmp 84], argTypes := #[23, 23] }, type := 4, pos := "law.go:97", after := #[{ on := 10, ground := Ground.data }, { on := 11, ground := Ground.data }, { on := 10, ground := Ground.chain }, { on := 3, ground := Ground.guard }], guard := some (3, true) }) (v := undef) rfl (by kernel_rfl) (by kernel_rfl) (by kernel_rfl) (fun _ _ _ h => h) (Or.inr ⟨by rfl, rfl⟩) (by assumption) ?_
        try simp only [Act.put, List.setIfInBounds_toArray, List.set_cons_zero, List.set_cons_succ]
        refine wpAnyH_take (i := 13) (oi := { dst := some 86, op := Op.unOp UnOp.not 4 (Operand.tmp 85), type := 4, pos := "law.go:97", after := #[{ on := 12, ground := Ground.data }, { on := 3, ground := Ground.guard }], guard := some (3, true) }) (v := undef) rfl (by kernel_rfl) (by kernel_rfl) (by kernel_rfl) (fun _ _ _ h => h) (Or.inr ⟨by rfl, rfl⟩) (by assumption) ?_
        try simp only [Act.put, List.setIfInBounds_toArray, List.set_cons_zero, List.set_cons_succ]
        refine wpAnyH_take (i := 14) (oi := { dst := some 87, op := Op.move (Operand.tmp 86), type := 4, pos := "law.go:97", after := #[{ on := 13, ground := Ground.data }, { on := 12, ground := Ground.chain }, { on := 3, ground := Ground.guard }], guard := some (3, true) }) (v := undef) rfl (by kernel_rfl) (by kernel_rfl) (by kernel_rfl) (fun _ _ _ h => h) (Or.inr ⟨by rfl, rfl⟩) (by assumption) ?_
        try simp only [Act.put, List.setIfInBounds_toArray, List.set_cons_zero, List.set_cons_succ]
        refine wpAnyH_take (i := 15) (oi := { dst := some 88, op := Op.load 27 (Operand.tmp 12), type := 27, pos := "law.go:97", after := #[{ on := 14, ground := Ground.guard }], guard := some (14, false) }) (v := undef) rfl (by kernel_rfl) (by kernel_rfl) (by kernel_rfl) (fun _ _ _ h => h) (Or.inr ⟨by rfl, rfl⟩) (by assumption) ?_
        try simp only [Act.put, List.setIfInBounds_toArray, List.set_cons_zero, List.set_cons_succ]
        refine wpAnyH_take (i := 16) (oi := { dst := some 89, op := Op.move (Operand.tmp 17), type := 23, pos := "law.go:97", after := #[{ on := 14, ground := Ground.guard }], guard := some (14, false) }) (v := undef) rfl (by kernel_rfl) (by kernel_rfl) (by kernel_rfl) (fun _ _ _ h => h) (Or.inr ⟨by rfl, rfl⟩) (by assumption) ?_
        try simp only [Act.put, List.setIfInBounds_toArray, List.set_cons_zero, List.set_cons_succ]
        refine wpAnyH_take (i := 17) (oi := { dst := some 90, op := Op.move (Operand.tmp 15), type := 3, pos := "law.go:97", after := #[{ on := 14, ground := Ground.guard }], guard := some (14, false) }) (v := undef) rfl (by kernel_rfl) (by kernel_rfl) (by kernel_rfl) (fun _ _ _ h => h) (Or.inr ⟨by rfl, rfl⟩) (by assumption) ?_
        try simp only [Act.put, List.setIfInBounds_toArray, List.set_cons_zero, List.set_cons_succ]
        refine wpAnyH_take (i := 18) (oi := { dst := some 91, op := Op.slice 23 (Operand.tmp 89) none (some (Operand.tmp 90)) none, type := 23, pos := "law.go:97", after := #[{ on := 16, ground := Ground.data }, { on := 17, ground := Ground.data }, { on := 14, ground := Ground.guard }], guard := some (14, false) }) (v := undef) rfl (by kernel_rfl) (by kernel_rfl) (by kernel_rfl) (fun _ _ _ h => h) (Or.inr ⟨by rfl, rfl⟩) (by assumption) ?_
        try simp only [Act.put, List.setIfInBounds_toArray, List.set_cons_zero, List.set_cons_succ]
        refine wpAnyH_take (i := 19) (oi := { dst := some 92, op := Op.move (Operand.tmp 14), type := 3, pos := "law.go:97", after := #[{ on := 14, ground := Ground.guard }], guard := some (14, false) }) (v := undef) rfl (by kernel_rfl) (by kernel_rfl) (by kernel_rfl) (fun _ _ _ h => h) (Or.inr ⟨by rfl, rfl⟩) (by assumption) ?_
        try simp only [Act.put, List.setIfInBounds_toArray, List.set_cons_zero, List.set_cons_succ]
        refine wpAnyH_take (i := 20) (oi := { dst := some 93, op := Op.call { callee := Callee.value (Operand.func 16), args := #[Operand.tmp 88, Operand.tmp 91, Operand.tmp 92], argTypes := #[27, 23, 3] }, type := 4, pos := "law.go:97", after := #[{ on := 15, ground := Ground.data }, { on := 18, ground := Ground.data }, { on := 19, ground := Ground.data }, { on := 14, ground := Ground.chain }, { on := 14, ground := Ground.guard }], guard := some (14, false) }) (v := undef) rfl (by kernel_rfl) (by kernel_rfl) (by kernel_rfl) (fun _ _ _ h => h) (Or.inr ⟨by rfl, rfl⟩) (by assumption) ?_
        try simp only [Act.put, List.setIfInBounds_toArray, List.set_cons_zero, List.set_cons_succ]
        refine wpAnyH_take (i := 21) (oi := { dst := some 94, op := Op.unOp UnOp.not 4 (Operand.tmp 93), type := 4, pos := "law.go:97", after := #[{ on := 20, ground := Ground.data }, { on := 14, ground := Ground.guard }], guard := some (14, false) }) (v := undef) rfl (by kernel_rfl) (by kernel_rfl) (by kernel_rfl) (fun _ _ _ h => h) (Or.inr ⟨by rfl, rfl⟩) (by assumption) ?_
        try simp only [Act.put, List.setIfInBounds_toArray, List.set_cons_zero, List.set_cons_succ]
        refine wpAnyH_take (i := 22) (oi := { dst := some 95, op := Op.pick (Operand.tmp 87) (Operand.const (Value.bool true)) (Operand.tmp 94), type := 4, pos := "law.go:97", after := #[{ on := 14, ground := Ground.data }, { on := 21, ground := Ground.data }, { on := 3, ground := Ground.guard }], guard := some (3, true) }) (v := undef) rfl (by kernel_rfl) (by kernel_rfl) (by kernel_rfl) (fun _ _ _ h => h) (Or.inr ⟨by rfl, rfl⟩) (by assumption) ?_
        try simp only [Act.put, List.setIfInBounds_toArray, List.set_cons_zero, List.set_cons_succ]
        refine wpAnyH_take (i := 23) (oi := { dst := some 96, op := Op.pick (Operand.tmp 76) (Operand.tmp 95) (Operand.const (Value.bool false)), type := 4, pos := "law.go:97", after := #[{ on := 3, ground := Ground.data }, { on := 22, ground := Ground.data }], guard := none }) (v := ?_) rfl (by kernel_rfl) (by kernel_rfl) (by kernel_rfl) (fun _ _ _ h => h) (Or.inl ⟨by rfl, ?_⟩) (by assumption) ?_
        rotate_left 1
        · (intro W hSW; (try dsimp only at hSW); first | (go_simp; done) | (go_simp; with_reducible rfl))
        try simp only [Act.put, List.setIfInBounds_toArray, List.set_cons_zero, List.set_cons_succ]
        refine wpAnyH_done (by kernel_rfl) ?_ _
        have hEND := hgr1
        clear hHeld
        have HEZ := Lib.hid hEND
        obtain ⟨wz, hwz⟩ : ∃ z, z = wc1 := ⟨_, rfl⟩
        rw [← hwz] at HEZ ⊢
        clear hwz
        go_wp2_with fail
        have HCB := Lib.hid (HCB.out.grown HEZ.out)
        have HFB := Lib.hid (HFB.out.grown HEZ.out)
        have HGW := Lib.hid (World.grownBy.trans HGW.out HEZ.out)
        clear HC1 HC3 HC4
        have HS := Lib.hid (fun (Wh : World) (hWh : wz.grownBy Wh none) => (⟨hWh, hWh.cell (show wz.cell? ⟨p2, 0, none⟩ = some (.slice ac gl cc) from by have h := HCB.out.1; rw [HGL.out] at h; exact h) (by simp), hWh.cell HFB.out.1 (by simp), hWh.cell HFB.out.2.1 (by simp)⟩ : (fun Wh : World => wz.grownBy Wh none ∧ Wh.cell? ⟨p2, 0, none⟩ = some (.slice ac gl cc) ∧ Wh.cell? ⟨pf, 0, none⟩ = some (.int .i64 (k : Int)) ∧ Wh.cell? ⟨pf, 1, none⟩ = some (.slice fa nc fc)) Wh))
        have hdr : wz.grownBy wz.drew none := ⟨rfl, rfl, rfl, Nat.le_refl _, fun _ _ _ => rfl⟩
        refine wp_region_held_drew (S := (fun Wh : World => wz.grownBy Wh none ∧ Wh.cell? ⟨p2, 0, none⟩ = some (.slice ac gl cc) ∧ Wh.cell? ⟨pf, 0, none⟩ = some (.int .i64 (k : Int)) ∧ Wh.cell? ⟨pf, 1, none⟩ = some (.slice fa nc fc))) (by kernel_rfl) (HS.out _ hdr) (fun hHeld => ?_)
        refine wpAnyH_take (i := 0) (oi := { dst := some 97, op := Op.load 27 (Operand.tmp 12), type := 27, pos := "law.go:100", after := #[], guard := none }) (v := ?_) rfl (by kernel_rfl) (by kernel_rfl) (by kernel_rfl) (fun _ _ _ h => h) (Or.inl ⟨by rfl, ?_⟩) (by assumption) ?_
        rotate_left 1
        · (intro W hSW; (try dsimp only at hSW); first | (go_simp; done) | (go_simp; with_reducible rfl))
        try simp only [Act.put, List.setIfInBounds_toArray, List.set_cons_zero, List.set_cons_succ]
        refine wpAnyH_take (i := 1) (oi := { dst := some 98, op := Op.move (Operand.tmp 14), type := 3, pos := "law.go:100", after := #[], guard := none }) (v := ?_) rfl (by kernel_rfl) (by kernel_rfl) (by kernel_rfl) (fun _ _ _ h => h) (Or.inl ⟨by rfl, ?_⟩) (by assumption) ?_
        rotate_left 1
        · (intro W hSW; (try dsimp only at hSW); first | (go_simp; done) | (go_simp; with_reducible rfl))
        try simp only [Act.put, List.setIfInBounds_toArray, List.set_cons_zero, List.set_cons_succ]
        refine wpAnyH_take (i := 2) (oi := { dst := some 99, op := Op.move (Operand.tmp 15), type := 3, pos := "law.go:100", after := #[], guard := none }) (v := ?_) rfl (by kernel_rfl) (by kernel_rfl) (by kernel_rfl) (fun _ _ _ h => h) (Or.inl ⟨by rfl, ?_⟩) (by assumption) ?_
        rotate_left 1
        · (intro W hSW; (try dsimp only at hSW); first | (go_simp; done) | (go_simp; with_reducible rfl))
        try simp only [Act.put, List.setIfInBounds_toArray, List.set_cons_zero, List.set_cons_succ]
        refine wpAnyH_take (i := 3) (oi := { dst := some 100, op := Op.move (Operand.tmp 17), type := 23, pos := "law.go:100", after := #[], guard := none }) (v := ?_) rfl (by kernel_rfl) (by kernel_rfl) (by kernel_rfl) (fun _ _ _ h => h) (Or.inl ⟨by rfl, ?_⟩) (by assumption) ?_
        rotate_left 1
        · (intro W hSW; (try dsimp only at hSW); first | (go_simp; done) | (go_simp; with_reducible rfl))
        try simp only [Act.put, List.setIfInBounds_toArray, List.set_cons_zero, List.set_cons_succ]
        refine wpAnyH_take (i := 4) (oi := { dst := some 101, op := Op.move (Operand.tmp 15), type := 3, pos := "law.go:100", after := #[], guard := none }) (v := ?_) rfl (by kernel_rfl) (by kernel_rfl) (by kernel_rfl) (fun _ _ _ h => h) (Or.inl ⟨by rfl, ?_⟩) (by assumption) ?_
        rotate_left 1
        · (intro W hSW; (try dsimp only at hSW); first | (go_simp; done) | (go_simp; with_reducible rfl))
        try simp only [Act.put, List.setIfInBounds_toArray, List.set_cons_zero, List.set_cons_succ]
        refine wpAnyH_take (i := 5) (oi := { dst := some 102, op := Op.slice 23 (Operand.tmp 100) none (some (Operand.tmp 101)) none, type := 23, pos := "law.go:100", after := #[{ on := 3, ground := Ground.data }, { on := 4, ground := Ground.data }], guard := none }) (v := ?_) rfl (by kernel_rfl) (by kernel_rfl) (by kernel_rfl) (fun _ _ _ h => h) (Or.inl ⟨by rfl, ?_⟩) (by assumption) ?_
        rotate_left 1
        · (intro W hSW; (try dsimp only at hSW); first | (go_simp; done) | (go_simp; with_reducible rfl))
        try simp only [Act.put, List.setIfInBounds_toArray, List.set_cons_zero, List.set_cons_succ]
        refine wpAnyH_ready (rs := [6]) (by kernel_rfl) (by simp) ?_
        refine (AllReadyH.cons (o := { dst := some 103, op := Op.call { callee := Callee.value (Operand.func 13), args := #[Operand.tmp 97, Operand.tmp 98, Operand.tmp 99, Operand.tmp 102], argTypes := #[27, 3, 3, 23] }, type := 23, pos := "law.go:100", after := #[{ on := 0, ground := Ground.data }, { on := 1, ground := Ground.data }, { on := 2, ground := Ground.data }, { on := 5, ground := Ground.data }], guard := none }) rfl (fun K hK => ?_) AllReadyH.nil)
        rw [if_pos (by rfl)]
        go_simp
        go_at_call 13
        refine (HC2.out _ (World.grownBy.trans HEZ.out hdr)).mono ?_
        rintro e wc1 ⟨xa, xc, rfl, hxb, gc1⟩
        have hgr1 := World.grownBy.trans hdr gc1
        go_wp2_with fail
        refine hK.out _ _ (HS.out _ hgr1) (fun hHeld => ?_)
        clear hK K
        try simp only [Act.put, List.setIfInBounds_toArray, List.set_cons_zero, List.set_cons_succ]
        refine wpAnyH_take (i := 7) (oi := { dst := some 19, op := Op.assign (Operand.tmp 103), type := 23, pos := "law.go:100", after := #[{ on := 6, ground := Ground.data }, { on := 6, ground := Ground.chain }, { on := 0, ground := Ground.phase }, { on := 1, ground := Ground.phase }, { on := 2, ground := Ground.phase }, { on := 3, ground := Ground.phase }, { on := 4, ground := Ground.phase }, { on := 5, ground := Ground.phase }, { on := 6, ground := Ground.phase }], guard := none }) (v := ?_) rfl (by kernel_rfl) (by kernel_rfl) (by kernel_rfl) (fun _ _ _ h => h) (Or.inl ⟨by rfl, ?_⟩) (by assumption) ?_
        rotate_left 1
        · (intro W hSW; (try dsimp only at hSW); first | (go_simp; done) | (go_simp; with_reducible rfl))
        try simp only [Act.put, List.setIfInBounds_toArray, List.set_cons_zero, List.set_cons_succ]
        refine wpAnyH_done (by kernel_rfl) ?_ _
        have hEND := hgr1
        clear hHeld
        have HEY := Lib.hid hEND
        have HXB := Lib.hid hxb
        clear hxb
        obtain ⟨wy, hwy⟩ : ∃ z, z = wc1 := ⟨_, rfl⟩
        rw [← hwy] at HEY HXB ⊢
        clear hwy
        have HCB := Lib.hid (HCB.out.grown HEY.out)
        have HFB := Lib.hid (HFB.out.grown HEY.out)
        have HGW := Lib.hid (World.grownBy.trans HGW.out HEY.out)
        clear HC2
        by_cases hVm : m < k
        · have l1 : decide ((k : Int) ≤ (m : Int)) = false := decide_eq_false (by omega)
          have l2 : decide (k ≤ m) = false := decide_eq_false (by omega)
          have HCC := Lib.hid (fun (W : World) (hW : wy.grownBy W none) => (by
            have h := satisfies_calls (k : Int) Lc X fa xa fc xc W (HFB.out.grown hW).2.2 (HXB.out.grown hW) (by have := HE.out.2.len; omega) HE.out.2.three (by rw [HXF.out.1]; omega) HE.out.2.rng
            rw [HNC.out, HXF.out.1] at h
            exact h : Calls Tryd.prog 15 #[cnfV (k : Int) fa nc fc, .slice xa k xc] W fun e w2 => e = .returned (.bool (satP X Lc)) ∧ W.grownBy w2 none))
          have q0 := HFB.out.1
          have q1 := HFB.out.2.1
          go_wp2_with fail
          clear q0 q1
          refine (HCC.out _ (grown_refl _ _)).mono ?_
          rintro e w8 ⟨rfl, g8⟩
          have HFB := Lib.hid (HFB.out.grown g8)
          have HXB := Lib.hid (HXB.out.grown g8)
          have HGW := Lib.hid (World.grownBy.trans HGW.out g8)
          clear g8 HCC
          cases hE : satP X Lc with
          | false =>
            go_wp2_with fail
            go_ret
            exact ⟨rfl, HGW.out⟩
          | true =>
            obtain ⟨D, hD⟩ : ∃ D, k - m = D := ⟨_, rfl⟩
            have hDi : (k : Int) - (m : Int) = (D : Int) := by omega
            obtain ⟨R, hR⟩ : ∃ R, fl % D = R := ⟨_, rfl⟩
            have hRl : R < D := by rw [← hR]; exact Nat.mod_lt _ (by omega)
            obtain ⟨K, hK⟩ : ∃ K, m + R = K := ⟨_, rfl⟩
            have t1 : IntKind.i64.wrap ((k : Int) - (m : Int)) = (D : Int) := by rw [hDi]; exact IntWalk.i64_in _ (by omega)
            have t2 : IntKind.i64.wrap (fl : Int) = (fl : Int) := IntWalk.i64_in _ (by omega)
            have t3 : (fl : Int).tmod (D : Int) = (R : Int) := by rw [Int.tmod_eq_emod_of_nonneg (by omega), ← hR]; omega
            have t4 : IntKind.i64.wrap (R : Int) = (R : Int) := IntWalk.i64_in _ (by omega)
            have t5 : IntKind.i64.wrap ((m : Int) + (R : Int)) = (K : Int) := by rw [← hK, IntWalk.i64_in _ (by omega)]; omega
            have t6 : ((D : Int) == 0) = false := by simp; omega
            have t7 : ¬ (D : Int) = 0 := by omega
            have kI : (K : Int) < (k : Int) := by omega
            have hmK : m ≤ K := by omega
            have hKk : K < k := by omega
            clear hD hDi hR hRl hK
            obtain ⟨b, hb⟩ : ∃ b, X[K]? = some b := ⟨_, List.getElem?_eq_getElem (by rw [HXF.out.1]; exact hKk)⟩
            have HBK := Lib.hid (And.intro hb (HFN.out K hmK b hb))
            clear hb
            go_wp2_with (at_builtin; refine append_bools rfl _ _ rfl w8.heap.size _ 0 [] rfl (World.ownsRow_made w8 #[] 0 (Nat.le_refl _) (Nat.zero_le _) rfl) xa k xc X rfl HXF.out.1 (HXB.out.grown (World.grownBy_alloc w8 _ none)) (by omega) (World.grownBy.size (World.grownBy_alloc w8 (.cells #[] 4) none)) ?_)
            intro v' w9 hown' hgrow'
            have hown2 : w9.ownsRow w8.heap.size 4 1 v' k (boolCells X) := by simpa using hown'
            obtain ⟨ya, yc, rfl⟩ := own_shape hown2
            have hg0 : w8.grownBy w9 none := grown_own (World.grownBy_alloc w8 _ none) hgrow' (fun j e => by simp [Value.ownBlock] at e; omega)
            obtain ⟨yb, rfl, hyb, hyl, hyc⟩ := own_barr hown2 (by omega)
            have c1 := hyb.cells K b HBK.out.1
            have f1 := hyb.fr K
            have HG9 := Lib.hid hg0
            have HYS := Lib.hid (And.intro (hyb.set HBK.out.1 (!b)) (grown_own hg0 (grown_set w9 yb K (.bool (!b))) (fun x e => by cases e; exact hyl)))
            obtain ⟨WS, hWS⟩ : ∃ z, w9.setCell ⟨yb, K, none⟩ (.bool (!b)) = z := ⟨_, rfl⟩
            rw [hWS] at HYS
            clear hown' hown2 hgrow' hg0 hyb hyl
            have q0 := (HFB.out.grown HYS.out.2).1
            have q1 := (HFB.out.grown HYS.out.2).2.1
            have HCC := Lib.hid (show Calls Tryd.prog 15 #[cnfV (k : Int) fa nc fc, .slice (some ⟨yb, 0, none⟩) k yc] WS (fun e w2 => e = .returned (.bool false) ∧ WS.grownBy w2 none) from by
              have hl : (X.set K (!b)).length = k := by rw [List.length_set]; exact HXF.out.1
              have h := satisfies_calls (k : Int) Lc (X.set K (!b)) fa (some ⟨yb, 0, none⟩) fc yc WS (HFB.out.grown HYS.out.2).2.2 (HYS.out.1.bools (by rw [hl]; exact hyc)) (by have := HE.out.2.len; omega) HE.out.2.three (by rw [hl]; omega) HE.out.2.rng
              rw [HNC.out, hl, HBK.out.2] at h
              exact h)
            go_wp2_with fail
            refine HCC.out.mono ?_
            rintro e wE ⟨rfl, gE⟩
            have HGE := Lib.hid (World.grownBy.trans HGW.out (World.grownBy.trans HYS.out.2 gE))
            clear gE
            go_wp2_with fail
            go_ret
            exact ⟨rfl, HGE.out⟩
        · have l1 : decide ((k : Int) ≤ (m : Int)) = true := decide_eq_true (by omega)
          have l2 : decide (k ≤ m) = true := decide_eq_true (by omega)
          have q0 := HFB.out.1
          have q1 := HFB.out.2.1
          go_wp2_with fail
          clear q0 q1
          go_ret
          exact ⟨rfl, HGW.out⟩
end Go.Proofs.YthkjjiijjedipaaDoor
