/- Whether bounds are valid: the reference. -/
import Derived.Test.YtbddpjofhddilaaYJ
import Derived.Deep.RegionHeld3
namespace Go.Proofs.Ytbddpjofhddilaa
open Go.RowKit

set_option maxRecDepth 100000 in
set_option maxHeartbeats 8000000 in
theorem rbValid_calls (s1 fa s3 s4 : Option Addr) (ns c1 fc n3 c3 n4 c4 : Nat) (F : List Fd) (zs : List Nat) (za : Option Addr) (zc : Nat) (st : Int) (B : List Bd) (ba : Option Addr) (bc : Nat) (w : World) (hF : Fields w fa fc F) (hzn : Nums w za zc zs) (hz : ∀ z ∈ zs, z ≤ 5) (hzl : zs.length ≤ 4) (hB : Bds w ba bc B)
    (hfl : F.length ≤ 100) (hff : ∀ f ∈ F, f.2.1 ≠ [] ∧ f.2.1.length ≤ 3) (hbl : ∀ x ∈ B, x.1.2.length ≤ 2000 ∧ x.2.2.length ≤ 2000) :
    Calls Try.prog 46 #[.agg #[.slice s1 ns c1, .slice fa F.length fc, .slice s3 n3 c3, .slice s4 n4 c4], .agg #[.slice za zs.length zc, .int .i64 st], .slice ba B.length bc] w fun e w' => e = .returned (.bool (allB (validF zs) F B)) ∧ w.grownBy w' none := by
  have HDEF := Lib.hid (defOk (F := F) hz (fun f hf => (hff f hf).2))
  have HA := Lib.hid (fun (U : World) (g : w.grownBy U none) => rAtoms_calls zs za zc st U (hzn.grown g) hz hzl)
  have HFU := Lib.hid (fun (U : World) (ss : List Int) (ta : Option Addr) (tc : Nat) (g : w.grownBy U none) (ht : Ints U ta tc ss) (hl : ss.length ≤ 1000) => rFullS_calls zs za zc st ss ta tc U (hzn.grown g) hz hzl ht hl)
  have hg := (World.grownBy_alloc w (.cells #[.slice s1 ns c1, .slice fa F.length fc, .slice s3 n3 c3, .slice s4 n4 c4] 27) none).trans (World.grownBy_alloc _ (.cells #[.slice za zs.length zc, .int .i64 st] 30) none)
  have hc1 : ((w.alloc (.cells #[.slice s1 ns c1, .slice fa F.length fc, .slice s3 n3 c3, .slice s4 n4 c4] 27)).alloc (.cells #[.slice za zs.length zc, .int .i64 st] 30)).cell? ⟨w.heap.size, 1, none⟩ = some (.slice fa F.length fc) := by go_simp
  have hc2 : ((w.alloc (.cells #[.slice s1 ns c1, .slice fa F.length fc, .slice s3 n3 c3, .slice s4 n4 c4] 27)).alloc (.cells #[.slice za zs.length zc, .int .i64 st] 30)).cell? ⟨w.heap.size + 1, 0, none⟩ = some (.slice za zs.length zc) := by go_simp
  have hc3 : ((w.alloc (.cells #[.slice s1 ns c1, .slice fa F.length fc, .slice s3 n3 c3, .slice s4 n4 c4] 27)).alloc (.cells #[.slice za zs.length zc, .int .i64 st] 30)).cell? ⟨w.heap.size + 1, 1, none⟩ = some (.int .i64 st) := by go_simp
  obtain ⟨f, hf⟩ : ∃ f, F.length = f := ⟨_, rfl⟩
  obtain ⟨N, hN⟩ : ∃ f, zs.length = f := ⟨_, rfl⟩
  obtain ⟨m, hm⟩ : ∃ f, B.length = f := ⟨_, rfl⟩
  obtain ⟨S, hS⟩ : ∃ f, sum zs = f := ⟨_, rfl⟩
  have HVX : Hid (∀ (ss : List Int) (x : Bd), validX zs ss x = (decide (x.1.1 = (ss.length : Int)) && decide (x.2.1 = (ss.length : Int)) && relValid (S : Int) x.1.1 x.1.2 && relValid (S : Int) x.2.1 x.2.2 && inB x.1.2 x.2.2 && inB x.2.2 (fullL zs ss))) := Lib.hid (fun ss x => by
    rw [validX, hS]
    simp only [arityB, List.all_cons, List.all_nil, Bool.and_true, Bool.and_assoc])
  rw [hN, hS] at HA
  rw [hN] at HFU
  rw [hf, hN] at hg hc1 hc2 hc3
  rw [hf] at hfl
  rw [hf, hN, hm]
  obtain ⟨W, hW⟩ : ∃ W, (w.alloc (.cells #[.slice s1 ns c1, .slice fa f fc, .slice s3 n3 c3, .slice s4 n4 c4] 27)).alloc (.cells #[.slice za N zc, .int .i64 st] 30) = W := ⟨_, rfl⟩
  rw [hW] at hg hc1 hc2 hc3
  have HH := Lib.hid (And.intro hf (And.intro hm (And.intro (hF.grown hg) (And.intro (hB.grown hg) (And.intro hff hbl)))))
  have HG := Lib.hid hg
  have HC := Lib.hid (And.intro hc1 (And.intro hc2 hc3))
  clear hF hzn hz hzl hB hff hbl hg hc2 hc3 hN hS
  have HNO : Hid (∀ (j : Nat) (g : Fd) (x : Bd), F[j]? = some g → B[j]? = some x → validF zs g x = false → allB (validF zs) F B = false) := Lib.hid (fun j g x h1 h2 h3 => by
    cases hc : allB (validF zs) F B with
    | false => rfl
    | true => rw [(allB_iff.1 hc).2 j g x h1 h2] at h3; cases h3)
  by_cases hfm : m = f
  rotate_left
  · have f0 : ((m : Int) != (f : Int)) = true := by simp; omega
    have HF : Hid (allB (validF zs) F B = false) := Lib.hid (by
      cases hc : allB (validF zs) F B with
      | false => rfl
      | true => have := (allB_iff.1 hc).1; omega)
    clear hf hm hfm
    go_enter Try.func46, Try.ntmps46
    go_wp2_with fail
    clear hW
    go_ret
    exact ⟨by rw [HF.out]; rfl, HG.out⟩
  have f0 : ((m : Int) != (f : Int)) = false := by simp; omega
  subst hfm
  clear hf hm
  have hc2 := HC.out.2.1
  have hc3 := HC.out.2.2
  go_enter Try.func46, Try.ntmps46
  go_wp2_with fail
  clear hW f0 hc1 hc2 hc3
  refine (HA.out W HG.out).mono ?_
  rintro e w1 ⟨rfl, g1⟩
  have HG1 := Lib.hid g1; clear g1
  go_wp2_with fail
  go_loopg [8, 9] m (fun g s8 s9 wr => ∃ i : Nat, s8 = .int .i64 (i : Int) ∧ g = m - i ∧ i ≤ m ∧ (∀ (j : Nat) (h : Fd) (x : Bd), j < i → F[j]? = some h → B[j]? = some x → validF zs h x = true) ∧ W.grownBy wr none)
  case atStart => exact ⟨0, rfl, rfl, Nat.zero_le _, fun j _ _ hj => absurd hj (Nat.not_lt_zero _), HG1.out⟩
  case round =>
    obtain ⟨i, rfl, hgi, hi, hok, hgr⟩ := hrel
    have HI := Lib.hid (And.intro hgi (And.intro hok hgr)); clear hgi hok hgr
    by_cases hin : i < m
    · have hinB : decide (i < m) = true := by simpa using hin
      have hinI : (i : Int) < (m : Int) := by omega
      obtain ⟨h, hh⟩ : ∃ h, F[i]? = some h := ⟨_, List.getElem?_eq_getElem (by rw [HH.out.1]; exact hin)⟩
      obtain ⟨x, hx⟩ : ∃ x, B[i]? = some x := ⟨_, List.getElem?_eq_getElem (by rw [HH.out.2.1]; exact hin)⟩
      obtain ⟨fb, fo, rfl, y0, ⟨ya1, yk1, y1, yi1⟩, y2⟩ := HH.out.2.2.1.2 i h hh
      obtain ⟨b, o, rfl, hbx⟩ := HH.out.2.2.2.1.2 i x hx
      obtain ⟨xa1, xk1, xa2, xk2, x0, x1, x2, x3, xi1, xi2⟩ := hbx.parts
      have hfh := HH.out.2.2.2.2.1 h (List.mem_of_getElem? hh)
      have hxl := HH.out.2.2.2.2.2 x (List.mem_of_getElem? hx)
      have hdf := HDEF.out (defX zs h) (List.mem_map.2 ⟨h, List.mem_of_getElem? hh, rfl⟩)
      have hfup : Up (fullL zs h.2.1) := hdf.2.1
      have hful : (fullL zs h.2.1).length ≤ 125 := hdf.2.2
      have HV1 := Lib.hid (fun (U : World) (g : W.grownBy U none) => tValid_calls (S : Int) x.1.1 x.1.2 xa1 xk1 U (xi1.grown g) (by omega))
      have HV2 := Lib.hid (fun (U : World) (g : W.grownBy U none) => tValid_calls (S : Int) x.2.1 x.2.2 xa2 xk2 U (xi2.grown g) (by omega))
      have HI1 := Lib.hid (fun (U : World) (g : W.grownBy U none) (u1 : Up x.1.2) (u2 : Up x.2.2) => by
        have h := rIn_calls x.1.1 x.2.1 x.1.2 x.2.2 xa1 xa2 xk1 xk2 U (xi1.grown g) (xi2.grown g) (by omega) (by omega) u2
        rw [lacks_inB u1 u2] at h
        exact h)
      have HFF := Lib.hid (fun (U : World) (g : W.grownBy U none) => HFU.out U h.2.1 ya1 yk1 (HG.out.trans g) ((yi1.grown g).strict hfh.1) (by omega))
      have HI2 := Lib.hid (fun (U : World) (k : Int) (ra : Option Addr) (rc : Nat) (g : W.grownBy U none) (hr : Ints U ra rc (fullL zs h.2.1)) (u2 : Up x.2.2) => by
        have h := rIn_calls x.2.1 k x.2.2 (fullL zs h.2.1) xa2 ra xk2 rc U (xi2.grown g) hr.weak (by omega) (by omega) hfup
        rw [lacks_inB u2 hfup] at h
        exact h)
      have HNX := Lib.hid (HNO.out i h x hh hx)
      have HVX2 := Lib.hid (show validF zs h x = _ from HVX.out h.2.1 x)
      have HU1 : Hid (relValid (S : Int) x.1.1 x.1.2 = true → Up x.1.2) := Lib.hid relValid_up
      have HU2 : Hid (relValid (S : Int) x.2.1 x.2.2 = true → Up x.2.2) := Lib.hid relValid_up
      obtain ⟨k1, hk1⟩ : ∃ k, x.1.1 = k := ⟨_, rfl⟩
      obtain ⟨k2, hk2⟩ : ∃ k, x.2.1 = k := ⟨_, rfl⟩
      obtain ⟨x1n, hx1n⟩ : ∃ n, x.1.2.length = n := ⟨_, rfl⟩
      obtain ⟨x2n, hx2n⟩ : ∃ n, x.2.2.length = n := ⟨_, rfl⟩
      obtain ⟨p, hp⟩ : ∃ n, h.2.1.length = n := ⟨_, rfl⟩
      obtain ⟨fn, hfn⟩ : ∃ n, (fullL zs h.2.1).length = n := ⟨_, rfl⟩
      obtain ⟨nm, hnm⟩ : ∃ n, h.1 = n := ⟨_, rfl⟩
      obtain ⟨Q1, hQ1⟩ : ∃ Q, relValid (S : Int) x.1.1 x.1.2 = Q := ⟨_, rfl⟩
      obtain ⟨Q2, hQ2⟩ : ∃ Q, relValid (S : Int) x.2.1 x.2.2 = Q := ⟨_, rfl⟩
      obtain ⟨Q3, hQ3⟩ : ∃ Q, inB x.1.2 x.2.2 = Q := ⟨_, rfl⟩
      obtain ⟨Q4, hQ4⟩ : ∃ Q, inB x.2.2 (fullL zs h.2.1) = Q := ⟨_, rfl⟩
      rw [hQ1, hQ2, hQ3, hQ4, hp] at HVX2
      rw [hQ1] at HU1
      rw [hQ2] at HU2
      rw [hQ1] at HV1
      rw [hQ2] at HV2
      rw [hQ3] at HI1
      rw [hQ4] at HI2
      rw [hk1, hx1n] at HV1
      rw [hk2, hx2n] at HV2
      rw [hk1, hk2, hx1n, hx2n] at HI1
      rw [hk2, hx2n, hfn] at HI2
      rw [hk1, hk2] at HVX2
      rw [hk1] at x0
      rw [hx1n] at x1
      rw [hk2] at x2
      rw [hx2n] at x3
      rw [hp] at y1
      have HFP : Hid (∀ U : World, W.grownBy U none → Calls Try.prog 95 #[.agg #[.slice za N zc, .int .i64 st], .slice ya1 p yk1] U (fun e w' => ∃ (k : Int) (ra : Option Addr) (rc : Nat), e = .returned (.agg #[.int .i64 k, .slice ra fn rc]) ∧ Ints w' ra rc (fullL zs h.2.1) ∧ U.grownBy w' none)) := Lib.hid (fun U g => by
        have h1 := HFF.out U g
        rw [hp] at h1
        refine h1.mono ?_
        rintro e w' ⟨ra, rc, rfl, hs, gg⟩
        exact ⟨_, ra, rc, by rw [hfn], hs.here, gg⟩)
      have HF1 := Lib.hid (And.intro hh hx)
      have HXC := Lib.hid (And.intro x0 (And.intro x1 (And.intro x2 (And.intro x3 y1))))
      clear hh hx hbx yi1 xi1 xi2 hfh hxl hdf hfup hful hk1 hk2 hx1n hx2n hp hfn hnm hQ1 hQ2 hQ3 hQ4 y0 y2 HFF x0 x1 x2 x3 y1 HNO HVX HFU
      have hxc := HXC.out
      have x0 := HI.out.2.2.cell hxc.1 (by simp)
      have x1 := HI.out.2.2.cell hxc.2.1 (by simp)
      have x2 := HI.out.2.2.cell hxc.2.2.1 (by simp)
      have x3 := HI.out.2.2.cell hxc.2.2.2.1 (by simp)
      have y1 := HI.out.2.2.cell hxc.2.2.2.2 (by simp)
      have z1 := HI.out.2.2.cell HC.out.1 (by simp)
      clear hxc
      by_cases q1 : k1 = (p : Int)
      rotate_left
      · have f1 : (k1 != (p : Int)) = true := by simpa using q1
        have HF := Lib.hid (HNX.out (by rw [HVX2.out, decide_eq_false q1]; rfl))
        clear q1
        go_wp2_with fail
        go_ret
        exact ⟨by rw [HF.out]; rfl, HG.out.trans HI.out.2.2⟩
      have f1 : (k1 != (p : Int)) = false := by simpa using q1
      by_cases q2 : k2 = (p : Int)
      rotate_left
      · have f2 : (k2 != (p : Int)) = true := by simpa using q2
        have HF := Lib.hid (HNX.out (by rw [HVX2.out, decide_eq_false q2, Bool.and_false]; rfl))
        clear q1 q2
        go_wp2_with fail
        go_ret
        exact ⟨by rw [HF.out]; rfl, HG.out.trans HI.out.2.2⟩
      have f2 : (k2 != (p : Int)) = false := by simpa using q2
      rw [decide_eq_true q1, decide_eq_true q2] at HVX2
      clear q1 q2
      go_wp2_with fail
      clear x0 x1 x2 x3 y1 z1
      refine (HV1.out wr HI.out.2.2).mono ?_
      rintro e w2 ⟨rfl, g2⟩
      have HG2 := Lib.hid (HI.out.2.2.trans g2); clear g2
      cases Q1 with
      | false =>
        have HF := Lib.hid (HNX.out (by rw [HVX2.out]; rfl))
        go_wp2_with fail
        go_ret
        exact ⟨by rw [HF.out]; rfl, HG.out.trans HG2.out⟩
      | true =>
      have hxc := HXC.out
      have x2 := HG2.out.cell hxc.2.2.1 (by simp)
      have x3 := HG2.out.cell hxc.2.2.2.1 (by simp)
      clear hxc
      go_wp2_with fail
      clear x2 x3 f1 f2
      refine (HV2.out w2 HG2.out).mono ?_
      rintro e w3 ⟨rfl, g3⟩
      have HG3 := Lib.hid (HG2.out.trans g3); clear g3
      cases Q2 with
      | false =>
        have HF := Lib.hid (HNX.out (by rw [HVX2.out]; rfl))
        go_wp2_with fail
        go_ret
        exact ⟨by rw [HF.out]; rfl, HG.out.trans HG3.out⟩
      | true =>
      have hu1 := HU1.out (by trivial)
      have hu2 := HU2.out (by trivial)
      have HUU := Lib.hid (And.intro hu1 hu2); clear hu1 hu2
      have hxc := HXC.out
      have x0 := hxc.1
      have x1 := hxc.2.1
      have x2 := hxc.2.2.1
      have x3 := hxc.2.2.2.1
      have y1 := hxc.2.2.2.2
      have hcs := HC.out
      have z1 := hcs.1
      have z2 := hcs.2.1
      have z3 := hcs.2.2
      clear hxc hcs
      go_wp2_with fail
      have HS := Lib.hid (fun (Wh : World) (hWh : W.grownBy Wh none) => (⟨hWh, hWh.cell x0 (by simp), hWh.cell x1 (by simp), hWh.cell x2 (by simp), hWh.cell x3 (by simp), hWh.cell y1 (by simp), hWh.cell z1 (by simp), hWh.cell z2 (by simp), hWh.cell z3 (by simp)⟩ : (fun Wh : World => W.grownBy Wh none ∧ Wh.cell? ⟨b, o + i * 4, none⟩ = some (.int .i64 k1) ∧ Wh.cell? ⟨b, o + i * 4 + 1, none⟩ = some (.slice xa1 x1n xk1) ∧ Wh.cell? ⟨b, o + i * 4 + 2, none⟩ = some (.int .i64 k2) ∧ Wh.cell? ⟨b, o + i * 4 + 3, none⟩ = some (.slice xa2 x2n xk2) ∧ Wh.cell? ⟨fb, fo + i * 3 + 1, none⟩ = some (.slice ya1 p yk1) ∧ Wh.cell? ⟨w.heap.size, 1, none⟩ = some (.slice (some ⟨fb, fo, none⟩) m fc) ∧ Wh.cell? ⟨w.heap.size + 1, 0, none⟩ = some (.slice za N zc) ∧ Wh.cell? ⟨w.heap.size + 1, 1, none⟩ = some (.int .i64 st)) Wh))
      clear x0 x1 x2 x3 y1 z1 z2 z3
      cases Q3 with
      | false =>
        have HF := Lib.hid (HNX.out (by rw [HVX2.out]; rfl))
        have hdr : W.grownBy w3.drew none := World.grownBy.trans HG3.out (⟨rfl, rfl, rfl, Nat.le_refl _, fun _ _ _ => rfl⟩ : w3.grownBy w3.drew none)
        refine wp_region_held_drew (S := (fun Wh : World => W.grownBy Wh none ∧ Wh.cell? ⟨b, o + i * 4, none⟩ = some (.int .i64 k1) ∧ Wh.cell? ⟨b, o + i * 4 + 1, none⟩ = some (.slice xa1 x1n xk1) ∧ Wh.cell? ⟨b, o + i * 4 + 2, none⟩ = some (.int .i64 k2) ∧ Wh.cell? ⟨b, o + i * 4 + 3, none⟩ = some (.slice xa2 x2n xk2) ∧ Wh.cell? ⟨fb, fo + i * 3 + 1, none⟩ = some (.slice ya1 p yk1) ∧ Wh.cell? ⟨w.heap.size, 1, none⟩ = some (.slice (some ⟨fb, fo, none⟩) m fc) ∧ Wh.cell? ⟨w.heap.size + 1, 0, none⟩ = some (.slice za N zc) ∧ Wh.cell? ⟨w.heap.size + 1, 1, none⟩ = some (.int .i64 st))) (by kernel_rfl) (HS.out _ hdr) (fun hHeld => ?_)
        refine wpAnyH_take (i := 0) (oi := { dst := some 69, op := Op.move (Operand.tmp 2), type := 57, pos := "ref.go:31", after := #[], guard := none }) (v := ?_) rfl (by kernel_rfl) (by kernel_rfl) (by kernel_rfl) (fun _ _ _ h => h) (Or.inl ⟨by rfl, ?_⟩) (by assumption) ?_
        rotate_left 1
        · (intro W hSW; (try dsimp only at hSW); first | (go_simp; done) | (go_simp; with_reducible rfl))
        try simp only [Act.put, List.setIfInBounds_toArray, List.set_cons_zero, List.set_cons_succ]
        refine wpAnyH_take (i := 1) (oi := { dst := some 70, op := Op.move (Operand.tmp 8), type := 3, pos := "ref.go:31", after := #[], guard := none }) (v := ?_) rfl (by kernel_rfl) (by kernel_rfl) (by kernel_rfl) (fun _ _ _ h => h) (Or.inl ⟨by rfl, ?_⟩) (by assumption) ?_
        rotate_left 1
        · (intro W hSW; (try dsimp only at hSW); first | (go_simp; done) | (go_simp; with_reducible rfl))
        try simp only [Act.put, List.setIfInBounds_toArray, List.set_cons_zero, List.set_cons_succ]
        refine wpAnyH_take (i := 2) (oi := { dst := some 71, op := Op.indexAddr 57 (Operand.tmp 69) (Operand.tmp 70), type := 0, pos := "ref.go:31", after := #[{ on := 0, ground := Ground.data }, { on := 1, ground := Ground.data }], guard := none }) (v := ?_) rfl (by kernel_rfl) (by kernel_rfl) (by kernel_rfl) (fun _ _ _ h => h) (Or.inl ⟨by rfl, ?_⟩) (by assumption) ?_
        rotate_left 1
        · (intro W hSW; (try dsimp only at hSW); first | (go_simp; done) | (go_simp; with_reducible rfl))
        try simp only [Act.put, List.setIfInBounds_toArray, List.set_cons_zero, List.set_cons_succ]
        refine wpAnyH_take (i := 3) (oi := { dst := some 72, op := Op.fieldAddr 74 (Operand.tmp 71) 0, type := 0, pos := "ref.go:31", after := #[{ on := 2, ground := Ground.data }], guard := none }) (v := ?_) rfl (by kernel_rfl) (by kernel_rfl) (by kernel_rfl) (fun _ _ _ h => h) (Or.inl ⟨by rfl, ?_⟩) (by assumption) ?_
        rotate_left 1
        · (intro W hSW; (try dsimp only at hSW); first | (go_simp; done) | (go_simp; with_reducible rfl))
        try simp only [Act.put, List.setIfInBounds_toArray, List.set_cons_zero, List.set_cons_succ]
        refine wpAnyH_take (i := 4) (oi := { dst := some 73, op := Op.load 53 (Operand.tmp 72), type := 53, pos := "ref.go:31", after := #[{ on := 3, ground := Ground.data }], guard := none }) (v := ?_) rfl (by kernel_rfl) (by kernel_rfl) (by kernel_rfl) (fun _ _ _ h => h) (Or.inl ⟨by rfl, ?_⟩) (by assumption) ?_
        rotate_left 1
        · (intro W hSW; (try dsimp only at hSW); first | (go_simp; done) | (go_simp; with_reducible rfl))
        try simp only [Act.put, List.setIfInBounds_toArray, List.set_cons_zero, List.set_cons_succ]
        refine wpAnyH_take (i := 5) (oi := { dst := some 74, op := Op.move (Operand.tmp 2), type := 57, pos := "ref.go:31", after := #[], guard := none }) (v := ?_) rfl (by kernel_rfl) (by kernel_rfl) (by kernel_rfl) (fun _ _ _ h => h) (Or.inl ⟨by rfl, ?_⟩) (by assumption) ?_
        rotate_left 1
        · (intro W hSW; (try dsimp only at hSW); first | (go_simp; done) | (go_simp; with_reducible rfl))
        try simp only [Act.put, List.setIfInBounds_toArray, List.set_cons_zero, List.set_cons_succ]
        refine wpAnyH_take (i := 6) (oi := { dst := some 75, op := Op.move (Operand.tmp 8), type := 3, pos := "ref.go:31", after := #[], guard := none }) (v := ?_) rfl (by kernel_rfl) (by kernel_rfl) (by kernel_rfl) (fun _ _ _ h => h) (Or.inl ⟨by rfl, ?_⟩) (by assumption) ?_
        rotate_left 1
        · (intro W hSW; (try dsimp only at hSW); first | (go_simp; done) | (go_simp; with_reducible rfl))
        try simp only [Act.put, List.setIfInBounds_toArray, List.set_cons_zero, List.set_cons_succ]
        refine wpAnyH_take (i := 7) (oi := { dst := some 76, op := Op.indexAddr 57 (Operand.tmp 74) (Operand.tmp 75), type := 0, pos := "ref.go:31", after := #[{ on := 5, ground := Ground.data }, { on := 6, ground := Ground.data }], guard := none }) (v := ?_) rfl (by kernel_rfl) (by kernel_rfl) (by kernel_rfl) (fun _ _ _ h => h) (Or.inl ⟨by rfl, ?_⟩) (by assumption) ?_
        rotate_left 1
        · (intro W hSW; (try dsimp only at hSW); first | (go_simp; done) | (go_simp; with_reducible rfl))
        try simp only [Act.put, List.setIfInBounds_toArray, List.set_cons_zero, List.set_cons_succ]
        refine wpAnyH_take (i := 8) (oi := { dst := some 77, op := Op.fieldAddr 74 (Operand.tmp 76) 1, type := 0, pos := "ref.go:31", after := #[{ on := 7, ground := Ground.data }], guard := none }) (v := ?_) rfl (by kernel_rfl) (by kernel_rfl) (by kernel_rfl) (fun _ _ _ h => h) (Or.inl ⟨by rfl, ?_⟩) (by assumption) ?_
        rotate_left 1
        · (intro W hSW; (try dsimp only at hSW); first | (go_simp; done) | (go_simp; with_reducible rfl))
        try simp only [Act.put, List.setIfInBounds_toArray, List.set_cons_zero, List.set_cons_succ]
        refine wpAnyH_take (i := 9) (oi := { dst := some 78, op := Op.load 53 (Operand.tmp 77), type := 53, pos := "ref.go:31", after := #[{ on := 8, ground := Ground.data }], guard := none }) (v := ?_) rfl (by kernel_rfl) (by kernel_rfl) (by kernel_rfl) (fun _ _ _ h => h) (Or.inl ⟨by rfl, ?_⟩) (by assumption) ?_
        rotate_left 1
        · (intro W hSW; (try dsimp only at hSW); first | (go_simp; done) | (go_simp; with_reducible rfl))
        try simp only [Act.put, List.setIfInBounds_toArray, List.set_cons_zero, List.set_cons_succ]
        refine wpAnyH_ready (rs := [10]) (by kernel_rfl) (by simp) ?_
        refine (AllReadyH.cons (o := { dst := some 79, op := Op.call { callee := Callee.value (Operand.func 58), args := #[Operand.tmp 73, Operand.tmp 78], argTypes := #[53, 53] }, type := 4, pos := "ref.go:31", after := #[{ on := 4, ground := Ground.data }, { on := 9, ground := Ground.data }], guard := none }) rfl (fun K hK => ?_) AllReadyH.nil)
        rw [if_pos (by rfl)]
        go_simp
        go_at_call 58
        refine (HI1.out _ (hdr) HUU.out.1 HUU.out.2).mono ?_
        rintro e wc1 ⟨rfl, gc1⟩
        have hgr1 := World.grownBy.trans hdr gc1
        go_wp2_with fail
        refine hK.out _ _ (HS.out _ hgr1) (fun hHeld => ?_)
        clear hK K
        try simp only [Act.put, List.setIfInBounds_toArray, List.set_cons_zero, List.set_cons_succ]
        refine wpAnyH_take (i := 11) (oi := { dst := some 80, op := Op.unOp UnOp.not 4 (Operand.tmp 79), type := 4, pos := "ref.go:31", after := #[{ on := 10, ground := Ground.data }], guard := none }) (v := ?_) rfl (by kernel_rfl) (by kernel_rfl) (by kernel_rfl) (fun _ _ _ h => h) (Or.inl ⟨by rfl, ?_⟩) (by assumption) ?_
        rotate_left 1
        · (intro W hSW; (try dsimp only at hSW); first | (go_simp; done) | (go_simp; with_reducible rfl))
        try simp only [Act.put, List.setIfInBounds_toArray, List.set_cons_zero, List.set_cons_succ]
        refine wpAnyH_take (i := 12) (oi := { dst := some 81, op := Op.move (Operand.tmp 80), type := 4, pos := "ref.go:31", after := #[{ on := 11, ground := Ground.data }, { on := 10, ground := Ground.chain }], guard := none }) (v := ?_) rfl (by kernel_rfl) (by kernel_rfl) (by kernel_rfl) (fun _ _ _ h => h) (Or.inl ⟨by rfl, ?_⟩) (by assumption) ?_
        rotate_left 1
        · (intro W hSW; (try dsimp only at hSW); first | (go_simp; done) | (go_simp; with_reducible rfl))
        try simp only [Act.put, List.setIfInBounds_toArray, List.set_cons_zero, List.set_cons_succ]
        refine wpAnyH_take (i := 13) (oi := { dst := some 82, op := Op.move (Operand.tmp 2), type := 57, pos := "ref.go:31", after := #[{ on := 12, ground := Ground.guard }], guard := some (12, false) }) (v := undef) rfl (by kernel_rfl) (by kernel_rfl) (by kernel_rfl) (fun _ _ _ h => h) (Or.inr ⟨by rfl, rfl⟩) (by assumption) ?_
        try simp only [Act.put, List.setIfInBounds_toArray, List.set_cons_zero, List.set_cons_succ]
        refine wpAnyH_take (i := 14) (oi := { dst := some 83, op := Op.move (Operand.tmp 8), type := 3, pos := "ref.go:31", after := #[{ on := 12, ground := Ground.guard }], guard := some (12, false) }) (v := undef) rfl (by kernel_rfl) (by kernel_rfl) (by kernel_rfl) (fun _ _ _ h => h) (Or.inr ⟨by rfl, rfl⟩) (by assumption) ?_
        try simp only [Act.put, List.setIfInBounds_toArray, List.set_cons_zero, List.set_cons_succ]
        refine wpAnyH_take (i := 15) (oi := { dst := some 84, op := Op.indexAddr 57 (Operand.tmp 82) (Operand.tmp 83), type := 0, pos := "ref.go:31", after := #[{ on := 13, ground := Ground.data }, { on := 14, ground := Ground.data }, { on := 12, ground := Ground.guard }], guard := some (12, false) }) (v := undef) rfl (by kernel_rfl) (by kernel_rfl) (by kernel_rfl) (fun _ _ _ h => h) (Or.inr ⟨by rfl, rfl⟩) (by assumption) ?_
        try simp only [Act.put, List.setIfInBounds_toArray, List.set_cons_zero, List.set_cons_succ]
        refine wpAnyH_take (i := 16) (oi := { dst := some 85, op := Op.fieldAddr 74 (Operand.tmp 84) 1, type := 0, pos := "ref.go:31", after := #[{ on := 15, ground := Ground.data }, { on := 12, ground := Ground.guard }], guard := some (12, false) }) (v := undef) rfl (by kernel_rfl) (by kernel_rfl) (by kernel_rfl) (fun _ _ _ h => h) (Or.inr ⟨by rfl, rfl⟩) (by assumption) ?_
        try simp only [Act.put, List.setIfInBounds_toArray, List.set_cons_zero, List.set_cons_succ]
        refine wpAnyH_take (i := 17) (oi := { dst := some 86, op := Op.load 53 (Operand.tmp 85), type := 53, pos := "ref.go:31", after := #[{ on := 16, ground := Ground.data }, { on := 12, ground := Ground.guard }], guard := some (12, false) }) (v := undef) rfl (by kernel_rfl) (by kernel_rfl) (by kernel_rfl) (fun _ _ _ h => h) (Or.inr ⟨by rfl, rfl⟩) (by assumption) ?_
        try simp only [Act.put, List.setIfInBounds_toArray, List.set_cons_zero, List.set_cons_succ]
        refine wpAnyH_take (i := 18) (oi := { dst := some 87, op := Op.load 30 (Operand.tmp 4), type := 30, pos := "ref.go:31", after := #[{ on := 12, ground := Ground.guard }], guard := some (12, false) }) (v := undef) rfl (by kernel_rfl) (by kernel_rfl) (by kernel_rfl) (fun _ _ _ h => h) (Or.inr ⟨by rfl, rfl⟩) (by assumption) ?_
        try simp only [Act.put, List.setIfInBounds_toArray, List.set_cons_zero, List.set_cons_succ]
        refine wpAnyH_take (i := 19) (oi := { dst := some 88, op := Op.fieldAddr 27 (Operand.tmp 3) 1, type := 0, pos := "ref.go:31", after := #[{ on := 12, ground := Ground.guard }], guard := some (12, false) }) (v := undef) rfl (by kernel_rfl) (by kernel_rfl) (by kernel_rfl) (fun _ _ _ h => h) (Or.inr ⟨by rfl, rfl⟩) (by assumption) ?_
        try simp only [Act.put, List.setIfInBounds_toArray, List.set_cons_zero, List.set_cons_succ]
        refine wpAnyH_take (i := 20) (oi := { dst := some 89, op := Op.load 23 (Operand.tmp 88), type := 23, pos := "ref.go:31", after := #[{ on := 19, ground := Ground.data }, { on := 12, ground := Ground.guard }], guard := some (12, false) }) (v := undef) rfl (by kernel_rfl) (by kernel_rfl) (by kernel_rfl) (fun _ _ _ h => h) (Or.inr ⟨by rfl, rfl⟩) (by assumption) ?_
        try simp only [Act.put, List.setIfInBounds_toArray, List.set_cons_zero, List.set_cons_succ]
        refine wpAnyH_take (i := 21) (oi := { dst := some 90, op := Op.move (Operand.tmp 8), type := 3, pos := "ref.go:31", after := #[{ on := 12, ground := Ground.guard }], guard := some (12, false) }) (v := undef) rfl (by kernel_rfl) (by kernel_rfl) (by kernel_rfl) (fun _ _ _ h => h) (Or.inr ⟨by rfl, rfl⟩) (by assumption) ?_
        try simp only [Act.put, List.setIfInBounds_toArray, List.set_cons_zero, List.set_cons_succ]
        refine wpAnyH_take (i := 22) (oi := { dst := some 91, op := Op.indexAddr 23 (Operand.tmp 89) (Operand.tmp 90), type := 0, pos := "ref.go:31", after := #[{ on := 20, ground := Ground.data }, { on := 21, ground := Ground.data }, { on := 12, ground := Ground.guard }], guard := some (12, false) }) (v := undef) rfl (by kernel_rfl) (by kernel_rfl) (by kernel_rfl) (fun _ _ _ h => h) (Or.inr ⟨by rfl, rfl⟩) (by assumption) ?_
        try simp only [Act.put, List.setIfInBounds_toArray, List.set_cons_zero, List.set_cons_succ]
        refine wpAnyH_take (i := 23) (oi := { dst := some 92, op := Op.fieldAddr 51 (Operand.tmp 91) 1, type := 0, pos := "ref.go:31", after := #[{ on := 22, ground := Ground.data }, { on := 12, ground := Ground.guard }], guard := some (12, false) }) (v := undef) rfl (by kernel_rfl) (by kernel_rfl) (by kernel_rfl) (fun _ _ _ h => h) (Or.inr ⟨by rfl, rfl⟩) (by assumption) ?_
        try simp only [Act.put, List.setIfInBounds_toArray, List.set_cons_zero, List.set_cons_succ]
        refine wpAnyH_take (i := 24) (oi := { dst := some 93, op := Op.load 28 (Operand.tmp 92), type := 28, pos := "ref.go:31", after := #[{ on := 23, ground := Ground.data }, { on := 12, ground := Ground.guard }], guard := some (12, false) }) (v := undef) rfl (by kernel_rfl) (by kernel_rfl) (by kernel_rfl) (fun _ _ _ h => h) (Or.inr ⟨by rfl, rfl⟩) (by assumption) ?_
        try simp only [Act.put, List.setIfInBounds_toArray, List.set_cons_zero, List.set_cons_succ]
        refine wpAnyH_take (i := 25) (oi := { dst := some 94, op := Op.call { callee := Callee.value (Operand.func 95), args := #[Operand.tmp 87, Operand.tmp 93], argTypes := #[30, 28] }, type := 53, pos := "ref.go:31", after := #[{ on := 18, ground := Ground.data }, { on := 24, ground := Ground.data }, { on := 12, ground := Ground.chain }, { on := 12, ground := Ground.guard }], guard := some (12, false) }) (v := undef) rfl (by kernel_rfl) (by kernel_rfl) (by kernel_rfl) (fun _ _ _ h => h) (Or.inr ⟨by rfl, rfl⟩) (by assumption) ?_
        try simp only [Act.put, List.setIfInBounds_toArray, List.set_cons_zero, List.set_cons_succ]
        refine wpAnyH_take (i := 26) (oi := { dst := some 95, op := Op.call { callee := Callee.value (Operand.func 58), args := #[Operand.tmp 86, Operand.tmp 94], argTypes := #[53, 53] }, type := 4, pos := "ref.go:31", after := #[{ on := 17, ground := Ground.data }, { on := 25, ground := Ground.data }, { on := 25, ground := Ground.chain }, { on := 12, ground := Ground.guard }], guard := some (12, false) }) (v := undef) rfl (by kernel_rfl) (by kernel_rfl) (by kernel_rfl) (fun _ _ _ h => h) (Or.inr ⟨by rfl, rfl⟩) (by assumption) ?_
        try simp only [Act.put, List.setIfInBounds_toArray, List.set_cons_zero, List.set_cons_succ]
        refine wpAnyH_take (i := 27) (oi := { dst := some 96, op := Op.unOp UnOp.not 4 (Operand.tmp 95), type := 4, pos := "ref.go:31", after := #[{ on := 26, ground := Ground.data }, { on := 12, ground := Ground.guard }], guard := some (12, false) }) (v := undef) rfl (by kernel_rfl) (by kernel_rfl) (by kernel_rfl) (fun _ _ _ h => h) (Or.inr ⟨by rfl, rfl⟩) (by assumption) ?_
        try simp only [Act.put, List.setIfInBounds_toArray, List.set_cons_zero, List.set_cons_succ]
        refine wpAnyH_take (i := 28) (oi := { dst := some 97, op := Op.pick (Operand.tmp 81) (Operand.const (Value.bool true)) (Operand.tmp 96), type := 4, pos := "ref.go:31", after := #[{ on := 12, ground := Ground.data }, { on := 27, ground := Ground.data }], guard := none }) (v := ?_) rfl (by kernel_rfl) (by kernel_rfl) (by kernel_rfl) (fun _ _ _ h => h) (Or.inl ⟨by rfl, ?_⟩) (by assumption) ?_
        rotate_left 1
        · (intro W hSW; (try dsimp only at hSW); first | (go_simp; done) | (go_simp; with_reducible rfl))
        try simp only [Act.put, List.setIfInBounds_toArray, List.set_cons_zero, List.set_cons_succ]
        refine wpAnyH_done (by kernel_rfl) ?_ _
        have hEND := hgr1
        clear hHeld
        have HE := Lib.hid hEND
        clear hEND
        go_wp2_with fail
        go_ret
        exact ⟨by rw [HF.out]; rfl, HG.out.trans HE.out⟩
      | true =>
        have hdr : W.grownBy w3.drew none := World.grownBy.trans HG3.out (⟨rfl, rfl, rfl, Nat.le_refl _, fun _ _ _ => rfl⟩ : w3.grownBy w3.drew none)
        refine wp_region_held_drew (S := (fun Wh : World => W.grownBy Wh none ∧ Wh.cell? ⟨b, o + i * 4, none⟩ = some (.int .i64 k1) ∧ Wh.cell? ⟨b, o + i * 4 + 1, none⟩ = some (.slice xa1 x1n xk1) ∧ Wh.cell? ⟨b, o + i * 4 + 2, none⟩ = some (.int .i64 k2) ∧ Wh.cell? ⟨b, o + i * 4 + 3, none⟩ = some (.slice xa2 x2n xk2) ∧ Wh.cell? ⟨fb, fo + i * 3 + 1, none⟩ = some (.slice ya1 p yk1) ∧ Wh.cell? ⟨w.heap.size, 1, none⟩ = some (.slice (some ⟨fb, fo, none⟩) m fc) ∧ Wh.cell? ⟨w.heap.size + 1, 0, none⟩ = some (.slice za N zc) ∧ Wh.cell? ⟨w.heap.size + 1, 1, none⟩ = some (.int .i64 st))) (by kernel_rfl) (HS.out _ hdr) (fun hHeld => ?_)
        refine wpAnyH_take (i := 0) (oi := { dst := some 69, op := Op.move (Operand.tmp 2), type := 57, pos := "ref.go:31", after := #[], guard := none }) (v := ?_) rfl (by kernel_rfl) (by kernel_rfl) (by kernel_rfl) (fun _ _ _ h => h) (Or.inl ⟨by rfl, ?_⟩) (by assumption) ?_
        rotate_left 1
        · (intro W hSW; (try dsimp only at hSW); first | (go_simp; done) | (go_simp; with_reducible rfl))
        try simp only [Act.put, List.setIfInBounds_toArray, List.set_cons_zero, List.set_cons_succ]
        refine wpAnyH_take (i := 1) (oi := { dst := some 70, op := Op.move (Operand.tmp 8), type := 3, pos := "ref.go:31", after := #[], guard := none }) (v := ?_) rfl (by kernel_rfl) (by kernel_rfl) (by kernel_rfl) (fun _ _ _ h => h) (Or.inl ⟨by rfl, ?_⟩) (by assumption) ?_
        rotate_left 1
        · (intro W hSW; (try dsimp only at hSW); first | (go_simp; done) | (go_simp; with_reducible rfl))
        try simp only [Act.put, List.setIfInBounds_toArray, List.set_cons_zero, List.set_cons_succ]
        refine wpAnyH_take (i := 2) (oi := { dst := some 71, op := Op.indexAddr 57 (Operand.tmp 69) (Operand.tmp 70), type := 0, pos := "ref.go:31", after := #[{ on := 0, ground := Ground.data }, { on := 1, ground := Ground.data }], guard := none }) (v := ?_) rfl (by kernel_rfl) (by kernel_rfl) (by kernel_rfl) (fun _ _ _ h => h) (Or.inl ⟨by rfl, ?_⟩) (by assumption) ?_
        rotate_left 1
        · (intro W hSW; (try dsimp only at hSW); first | (go_simp; done) | (go_simp; with_reducible rfl))
        try simp only [Act.put, List.setIfInBounds_toArray, List.set_cons_zero, List.set_cons_succ]
        refine wpAnyH_take (i := 3) (oi := { dst := some 72, op := Op.fieldAddr 74 (Operand.tmp 71) 0, type := 0, pos := "ref.go:31", after := #[{ on := 2, ground := Ground.data }], guard := none }) (v := ?_) rfl (by kernel_rfl) (by kernel_rfl) (by kernel_rfl) (fun _ _ _ h => h) (Or.inl ⟨by rfl, ?_⟩) (by assumption) ?_
        rotate_left 1
        · (intro W hSW; (try dsimp only at hSW); first | (go_simp; done) | (go_simp; with_reducible rfl))
        try simp only [Act.put, List.setIfInBounds_toArray, List.set_cons_zero, List.set_cons_succ]
        refine wpAnyH_take (i := 4) (oi := { dst := some 73, op := Op.load 53 (Operand.tmp 72), type := 53, pos := "ref.go:31", after := #[{ on := 3, ground := Ground.data }], guard := none }) (v := ?_) rfl (by kernel_rfl) (by kernel_rfl) (by kernel_rfl) (fun _ _ _ h => h) (Or.inl ⟨by rfl, ?_⟩) (by assumption) ?_
        rotate_left 1
        · (intro W hSW; (try dsimp only at hSW); first | (go_simp; done) | (go_simp; with_reducible rfl))
        try simp only [Act.put, List.setIfInBounds_toArray, List.set_cons_zero, List.set_cons_succ]
        refine wpAnyH_take (i := 5) (oi := { dst := some 74, op := Op.move (Operand.tmp 2), type := 57, pos := "ref.go:31", after := #[], guard := none }) (v := ?_) rfl (by kernel_rfl) (by kernel_rfl) (by kernel_rfl) (fun _ _ _ h => h) (Or.inl ⟨by rfl, ?_⟩) (by assumption) ?_
        rotate_left 1
        · (intro W hSW; (try dsimp only at hSW); first | (go_simp; done) | (go_simp; with_reducible rfl))
        try simp only [Act.put, List.setIfInBounds_toArray, List.set_cons_zero, List.set_cons_succ]
        refine wpAnyH_take (i := 6) (oi := { dst := some 75, op := Op.move (Operand.tmp 8), type := 3, pos := "ref.go:31", after := #[], guard := none }) (v := ?_) rfl (by kernel_rfl) (by kernel_rfl) (by kernel_rfl) (fun _ _ _ h => h) (Or.inl ⟨by rfl, ?_⟩) (by assumption) ?_
        rotate_left 1
        · (intro W hSW; (try dsimp only at hSW); first | (go_simp; done) | (go_simp; with_reducible rfl))
        try simp only [Act.put, List.setIfInBounds_toArray, List.set_cons_zero, List.set_cons_succ]
        refine wpAnyH_take (i := 7) (oi := { dst := some 76, op := Op.indexAddr 57 (Operand.tmp 74) (Operand.tmp 75), type := 0, pos := "ref.go:31", after := #[{ on := 5, ground := Ground.data }, { on := 6, ground := Ground.data }], guard := none }) (v := ?_) rfl (by kernel_rfl) (by kernel_rfl) (by kernel_rfl) (fun _ _ _ h => h) (Or.inl ⟨by rfl, ?_⟩) (by assumption) ?_
        rotate_left 1
        · (intro W hSW; (try dsimp only at hSW); first | (go_simp; done) | (go_simp; with_reducible rfl))
        try simp only [Act.put, List.setIfInBounds_toArray, List.set_cons_zero, List.set_cons_succ]
        refine wpAnyH_take (i := 8) (oi := { dst := some 77, op := Op.fieldAddr 74 (Operand.tmp 76) 1, type := 0, pos := "ref.go:31", after := #[{ on := 7, ground := Ground.data }], guard := none }) (v := ?_) rfl (by kernel_rfl) (by kernel_rfl) (by kernel_rfl) (fun _ _ _ h => h) (Or.inl ⟨by rfl, ?_⟩) (by assumption) ?_
        rotate_left 1
        · (intro W hSW; (try dsimp only at hSW); first | (go_simp; done) | (go_simp; with_reducible rfl))
        try simp only [Act.put, List.setIfInBounds_toArray, List.set_cons_zero, List.set_cons_succ]
        refine wpAnyH_take (i := 9) (oi := { dst := some 78, op := Op.load 53 (Operand.tmp 77), type := 53, pos := "ref.go:31", after := #[{ on := 8, ground := Ground.data }], guard := none }) (v := ?_) rfl (by kernel_rfl) (by kernel_rfl) (by kernel_rfl) (fun _ _ _ h => h) (Or.inl ⟨by rfl, ?_⟩) (by assumption) ?_
        rotate_left 1
        · (intro W hSW; (try dsimp only at hSW); first | (go_simp; done) | (go_simp; with_reducible rfl))
        try simp only [Act.put, List.setIfInBounds_toArray, List.set_cons_zero, List.set_cons_succ]
        refine wpAnyH_ready (rs := [10]) (by kernel_rfl) (by simp) ?_
        refine (AllReadyH.cons (o := { dst := some 79, op := Op.call { callee := Callee.value (Operand.func 58), args := #[Operand.tmp 73, Operand.tmp 78], argTypes := #[53, 53] }, type := 4, pos := "ref.go:31", after := #[{ on := 4, ground := Ground.data }, { on := 9, ground := Ground.data }], guard := none }) rfl (fun K hK => ?_) AllReadyH.nil)
        rw [if_pos (by rfl)]
        go_simp
        go_at_call 58
        refine (HI1.out _ (hdr) HUU.out.1 HUU.out.2).mono ?_
        rintro e wc1 ⟨rfl, gc1⟩
        have hgr1 := World.grownBy.trans hdr gc1
        go_wp2_with fail
        refine hK.out _ _ (HS.out _ hgr1) (fun hHeld => ?_)
        clear hK K
        try simp only [Act.put, List.setIfInBounds_toArray, List.set_cons_zero, List.set_cons_succ]
        refine wpAnyH_take (i := 11) (oi := { dst := some 80, op := Op.unOp UnOp.not 4 (Operand.tmp 79), type := 4, pos := "ref.go:31", after := #[{ on := 10, ground := Ground.data }], guard := none }) (v := ?_) rfl (by kernel_rfl) (by kernel_rfl) (by kernel_rfl) (fun _ _ _ h => h) (Or.inl ⟨by rfl, ?_⟩) (by assumption) ?_
        rotate_left 1
        · (intro W hSW; (try dsimp only at hSW); first | (go_simp; done) | (go_simp; with_reducible rfl))
        try simp only [Act.put, List.setIfInBounds_toArray, List.set_cons_zero, List.set_cons_succ]
        refine wpAnyH_take (i := 12) (oi := { dst := some 81, op := Op.move (Operand.tmp 80), type := 4, pos := "ref.go:31", after := #[{ on := 11, ground := Ground.data }, { on := 10, ground := Ground.chain }], guard := none }) (v := ?_) rfl (by kernel_rfl) (by kernel_rfl) (by kernel_rfl) (fun _ _ _ h => h) (Or.inl ⟨by rfl, ?_⟩) (by assumption) ?_
        rotate_left 1
        · (intro W hSW; (try dsimp only at hSW); first | (go_simp; done) | (go_simp; with_reducible rfl))
        try simp only [Act.put, List.setIfInBounds_toArray, List.set_cons_zero, List.set_cons_succ]
        refine wpAnyH_take (i := 13) (oi := { dst := some 82, op := Op.move (Operand.tmp 2), type := 57, pos := "ref.go:31", after := #[{ on := 12, ground := Ground.guard }], guard := some (12, false) }) (v := ?_) rfl (by kernel_rfl) (by kernel_rfl) (by kernel_rfl) (fun _ _ _ h => h) (Or.inl ⟨by rfl, ?_⟩) (by assumption) ?_
        rotate_left 1
        · (intro W hSW; (try dsimp only at hSW); first | (go_simp; done) | (go_simp; with_reducible rfl))
        try simp only [Act.put, List.setIfInBounds_toArray, List.set_cons_zero, List.set_cons_succ]
        refine wpAnyH_take (i := 14) (oi := { dst := some 83, op := Op.move (Operand.tmp 8), type := 3, pos := "ref.go:31", after := #[{ on := 12, ground := Ground.guard }], guard := some (12, false) }) (v := ?_) rfl (by kernel_rfl) (by kernel_rfl) (by kernel_rfl) (fun _ _ _ h => h) (Or.inl ⟨by rfl, ?_⟩) (by assumption) ?_
        rotate_left 1
        · (intro W hSW; (try dsimp only at hSW); first | (go_simp; done) | (go_simp; with_reducible rfl))
        try simp only [Act.put, List.setIfInBounds_toArray, List.set_cons_zero, List.set_cons_succ]
        refine wpAnyH_take (i := 15) (oi := { dst := some 84, op := Op.indexAddr 57 (Operand.tmp 82) (Operand.tmp 83), type := 0, pos := "ref.go:31", after := #[{ on := 13, ground := Ground.data }, { on := 14, ground := Ground.data }, { on := 12, ground := Ground.guard }], guard := some (12, false) }) (v := ?_) rfl (by kernel_rfl) (by kernel_rfl) (by kernel_rfl) (fun _ _ _ h => h) (Or.inl ⟨by rfl, ?_⟩) (by assumption) ?_
        rotate_left 1
        · (intro W hSW; (try dsimp only at hSW); first | (go_simp; done) | (go_simp; with_reducible rfl))
        try simp only [Act.put, List.setIfInBounds_toArray, List.set_cons_zero, List.set_cons_succ]
        refine wpAnyH_take (i := 16) (oi := { dst := some 85, op := Op.fieldAddr 74 (Operand.tmp 84) 1, type := 0, pos := "ref.go:31", after := #[{ on := 15, ground := Ground.data }, { on := 12, ground := Ground.guard }], guard := some (12, false) }) (v := ?_) rfl (by kernel_rfl) (by kernel_rfl) (by kernel_rfl) (fun _ _ _ h => h) (Or.inl ⟨by rfl, ?_⟩) (by assumption) ?_
        rotate_left 1
        · (intro W hSW; (try dsimp only at hSW); first | (go_simp; done) | (go_simp; with_reducible rfl))
        try simp only [Act.put, List.setIfInBounds_toArray, List.set_cons_zero, List.set_cons_succ]
        refine wpAnyH_take (i := 17) (oi := { dst := some 86, op := Op.load 53 (Operand.tmp 85), type := 53, pos := "ref.go:31", after := #[{ on := 16, ground := Ground.data }, { on := 12, ground := Ground.guard }], guard := some (12, false) }) (v := ?_) rfl (by kernel_rfl) (by kernel_rfl) (by kernel_rfl) (fun _ _ _ h => h) (Or.inl ⟨by rfl, ?_⟩) (by assumption) ?_
        rotate_left 1
        · (intro W hSW; (try dsimp only at hSW); first | (go_simp; done) | (go_simp; with_reducible rfl))
        try simp only [Act.put, List.setIfInBounds_toArray, List.set_cons_zero, List.set_cons_succ]
        refine wpAnyH_take (i := 18) (oi := { dst := some 87, op := Op.load 30 (Operand.tmp 4), type := 30, pos := "ref.go:31", after := #[{ on := 12, ground := Ground.guard }], guard := some (12, false) }) (v := ?_) rfl (by kernel_rfl) (by kernel_rfl) (by kernel_rfl) (fun _ _ _ h => h) (Or.inl ⟨by rfl, ?_⟩) (by assumption) ?_
        rotate_left 1
        · (intro W hSW; (try dsimp only at hSW); first | (go_simp; done) | (go_simp; with_reducible rfl))
        try simp only [Act.put, List.setIfInBounds_toArray, List.set_cons_zero, List.set_cons_succ]
        refine wpAnyH_take (i := 19) (oi := { dst := some 88, op := Op.fieldAddr 27 (Operand.tmp 3) 1, type := 0, pos := "ref.go:31", after := #[{ on := 12, ground := Ground.guard }], guard := some (12, false) }) (v := ?_) rfl (by kernel_rfl) (by kernel_rfl) (by kernel_rfl) (fun _ _ _ h => h) (Or.inl ⟨by rfl, ?_⟩) (by assumption) ?_
        rotate_left 1
        · (intro W hSW; (try dsimp only at hSW); first | (go_simp; done) | (go_simp; with_reducible rfl))
        try simp only [Act.put, List.setIfInBounds_toArray, List.set_cons_zero, List.set_cons_succ]
        refine wpAnyH_take (i := 20) (oi := { dst := some 89, op := Op.load 23 (Operand.tmp 88), type := 23, pos := "ref.go:31", after := #[{ on := 19, ground := Ground.data }, { on := 12, ground := Ground.guard }], guard := some (12, false) }) (v := ?_) rfl (by kernel_rfl) (by kernel_rfl) (by kernel_rfl) (fun _ _ _ h => h) (Or.inl ⟨by rfl, ?_⟩) (by assumption) ?_
        rotate_left 1
        · (intro W hSW; (try dsimp only at hSW); first | (go_simp; done) | (go_simp; with_reducible rfl))
        try simp only [Act.put, List.setIfInBounds_toArray, List.set_cons_zero, List.set_cons_succ]
        refine wpAnyH_take (i := 21) (oi := { dst := some 90, op := Op.move (Operand.tmp 8), type := 3, pos := "ref.go:31", after := #[{ on := 12, ground := Ground.guard }], guard := some (12, false) }) (v := ?_) rfl (by kernel_rfl) (by kernel_rfl) (by kernel_rfl) (fun _ _ _ h => h) (Or.inl ⟨by rfl, ?_⟩) (by assumption) ?_
        rotate_left 1
        · (intro W hSW; (try dsimp only at hSW); first | (go_simp; done) | (go_simp; with_reducible rfl))
        try simp only [Act.put, List.setIfInBounds_toArray, List.set_cons_zero, List.set_cons_succ]
        refine wpAnyH_take (i := 22) (oi := { dst := some 91, op := Op.indexAddr 23 (Operand.tmp 89) (Operand.tmp 90), type := 0, pos := "ref.go:31", after := #[{ on := 20, ground := Ground.data }, { on := 21, ground := Ground.data }, { on := 12, ground := Ground.guard }], guard := some (12, false) }) (v := ?_) rfl (by kernel_rfl) (by kernel_rfl) (by kernel_rfl) (fun _ _ _ h => h) (Or.inl ⟨by rfl, ?_⟩) (by assumption) ?_
        rotate_left 1
        · (intro W hSW; (try dsimp only at hSW); first | (go_simp; done) | (go_simp; with_reducible rfl))
        try simp only [Act.put, List.setIfInBounds_toArray, List.set_cons_zero, List.set_cons_succ]
        refine wpAnyH_take (i := 23) (oi := { dst := some 92, op := Op.fieldAddr 51 (Operand.tmp 91) 1, type := 0, pos := "ref.go:31", after := #[{ on := 22, ground := Ground.data }, { on := 12, ground := Ground.guard }], guard := some (12, false) }) (v := ?_) rfl (by kernel_rfl) (by kernel_rfl) (by kernel_rfl) (fun _ _ _ h => h) (Or.inl ⟨by rfl, ?_⟩) (by assumption) ?_
        rotate_left 1
        · (intro W hSW; (try dsimp only at hSW); first | (go_simp; done) | (go_simp; with_reducible rfl))
        try simp only [Act.put, List.setIfInBounds_toArray, List.set_cons_zero, List.set_cons_succ]
        refine wpAnyH_take (i := 24) (oi := { dst := some 93, op := Op.load 28 (Operand.tmp 92), type := 28, pos := "ref.go:31", after := #[{ on := 23, ground := Ground.data }, { on := 12, ground := Ground.guard }], guard := some (12, false) }) (v := ?_) rfl (by kernel_rfl) (by kernel_rfl) (by kernel_rfl) (fun _ _ _ h => h) (Or.inl ⟨by rfl, ?_⟩) (by assumption) ?_
        rotate_left 1
        · (intro W hSW; (try dsimp only at hSW); first | (go_simp; done) | (go_simp; with_reducible rfl))
        try simp only [Act.put, List.setIfInBounds_toArray, List.set_cons_zero, List.set_cons_succ]
        refine wpAnyH_ready (rs := [25]) (by kernel_rfl) (by simp) ?_
        refine (AllReadyH.cons (o := { dst := some 94, op := Op.call { callee := Callee.value (Operand.func 95), args := #[Operand.tmp 87, Operand.tmp 93], argTypes := #[30, 28] }, type := 53, pos := "ref.go:31", after := #[{ on := 18, ground := Ground.data }, { on := 24, ground := Ground.data }, { on := 12, ground := Ground.chain }, { on := 12, ground := Ground.guard }], guard := some (12, false) }) rfl (fun K hK => ?_) AllReadyH.nil)
        rw [if_pos (by rfl)]
        go_simp
        go_at_call 95
        refine (HFP.out _ (hgr1)).mono ?_
        rintro e wc2 ⟨kF, raF, rcF, rfl, hri, gc2⟩
        have hgr2 := World.grownBy.trans hgr1 gc2
        go_wp2_with fail
        refine hK.out _ _ (HS.out _ hgr2) (fun hHeld => ?_)
        clear hK K
        try simp only [Act.put, List.setIfInBounds_toArray, List.set_cons_zero, List.set_cons_succ]
        refine wpAnyH_ready (rs := [26]) (by kernel_rfl) (by simp) ?_
        refine (AllReadyH.cons (o := { dst := some 95, op := Op.call { callee := Callee.value (Operand.func 58), args := #[Operand.tmp 86, Operand.tmp 94], argTypes := #[53, 53] }, type := 4, pos := "ref.go:31", after := #[{ on := 17, ground := Ground.data }, { on := 25, ground := Ground.data }, { on := 25, ground := Ground.chain }, { on := 12, ground := Ground.guard }], guard := some (12, false) }) rfl (fun K hK => ?_) AllReadyH.nil)
        rw [if_pos (by rfl)]
        go_simp
        go_at_call 58
        refine (HI2.out _ kF raF rcF (hgr2) hri HUU.out.2).mono ?_
        rintro e wc3 ⟨rfl, gc3⟩
        have hgr3 := World.grownBy.trans hgr2 gc3
        go_wp2_with fail
        refine hK.out _ _ (HS.out _ hgr3) (fun hHeld => ?_)
        clear hK K
        try simp only [Act.put, List.setIfInBounds_toArray, List.set_cons_zero, List.set_cons_succ]
        refine wpAnyH_take (i := 27) (oi := { dst := some 96, op := Op.unOp UnOp.not 4 (Operand.tmp 95), type := 4, pos := "ref.go:31", after := #[{ on := 26, ground := Ground.data }, { on := 12, ground := Ground.guard }], guard := some (12, false) }) (v := ?_) rfl (by kernel_rfl) (by kernel_rfl) (by kernel_rfl) (fun _ _ _ h => h) (Or.inl ⟨by rfl, ?_⟩) (by assumption) ?_
        rotate_left 1
        · (intro W hSW; (try dsimp only at hSW); first | (go_simp; done) | (go_simp; with_reducible rfl))
        try simp only [Act.put, List.setIfInBounds_toArray, List.set_cons_zero, List.set_cons_succ]
        refine wpAnyH_take (i := 28) (oi := { dst := some 97, op := Op.pick (Operand.tmp 81) (Operand.const (Value.bool true)) (Operand.tmp 96), type := 4, pos := "ref.go:31", after := #[{ on := 12, ground := Ground.data }, { on := 27, ground := Ground.data }], guard := none }) (v := ?_) rfl (by kernel_rfl) (by kernel_rfl) (by kernel_rfl) (fun _ _ _ h => h) (Or.inl ⟨by rfl, ?_⟩) (by assumption) ?_
        rotate_left 1
        · (intro W hSW; (try dsimp only at hSW); first | (go_simp; done) | (go_simp; with_reducible rfl))
        try simp only [Act.put, List.setIfInBounds_toArray, List.set_cons_zero, List.set_cons_succ]
        refine wpAnyH_done (by kernel_rfl) ?_ _
        have hEND := hgr3
        clear hHeld
        have HE := Lib.hid hEND
        clear hEND hri
        cases Q4 with
        | false =>
          have HF := Lib.hid (HNX.out (by rw [HVX2.out]; rfl))
          go_wp2_with fail
          go_ret
          exact ⟨by rw [HF.out]; rfl, HG.out.trans HE.out⟩
        | true =>
          have HS2 : Hid (∀ (j : Nat) (h' : Fd) (x' : Bd), j < i + 1 → F[j]? = some h' → B[j]? = some x' → validF zs h' x' = true) := Lib.hid (fun j h' x' hj h1 h2 => by
            by_cases hji : j = i
            · subst hji
              rw [HF1.out.1] at h1
              rw [HF1.out.2] at h2
              cases h1
              cases h2
              rw [HVX2.out]; rfl
            · exact HI.out.2.1 j h' x' (by omega) h1 h2)
          go_wp2_with fail
          go_roundg (m - (i + 1))
          case measure => rw [HI.out.1]; omega
          case rel => exact ⟨i + 1, rfl, rfl, by omega, HS2.out, HE.out⟩
    · have hie : i = m := by omega
      subst hie
      have hinB : decide (i < i) = false := by simp
      have HF : Hid (allB (validF zs) F B = true) := Lib.hid (allB_iff.2 ⟨by rw [HH.out.1, HH.out.2.1], fun j g x h1 h2 => HI.out.2.1 j g x (by have := (List.getElem?_eq_some_iff.1 h1).1; rw [HH.out.1] at this; exact this) h1 h2⟩)
      go_wp2_with fail
      go_ret
      exact ⟨by rw [HF.out]; rfl, HG.out.trans HI.out.2.2⟩
end Go.Proofs.Ytbddpjofhddilaa
