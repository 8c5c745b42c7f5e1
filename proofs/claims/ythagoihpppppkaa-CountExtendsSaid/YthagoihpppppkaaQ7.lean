/- The reference's merge. -/
import Derived.Test.YthagoihpppppkaaQ6
import Derived.Test.YthagoihpppppkaaD2

import Derived.Deep.DeepCutAuto
namespace Go.Proofs.Ythagoihpppppkaa
open Go.RowKit Go.Maps

theorem reach_n {m : Nat} {x : Int} (u : List Int) (k : Int) (a : Option Addr) (c : Nat) (w : World) (hm : u.length = m) (hx : reachL u k = x) (h : IntsW w a c u) (hl : u.length ≤ 1000) (hk : -1000000 ≤ k ∧ k ≤ 1000000) :
    Calls Try.prog 58 #[.slice a m c, .int .i64 k] w fun e w' => e = .returned (.int .i64 x) ∧ w' = w := by
  subst hm hx; exact reach_calls u k a c w h hl hk
def mpF (a b : List Int) (k : Nat) (r : Int) (i : Nat) : Pr Int := if k < i ∨ b.length + i < k then .ret r else (andP (reachL a (i : Int)) (reachL b ((k : Int) - (i : Int)))).bind fun t => orP r t
theorem place_m (a b : List Int) (k : Nat) : placeP a b k = foldP (mpF a b k) (List.range' 0 (a.length + 1)) 1 := by rw [← mplace_eq, ← List.range_eq_range']; rfl
theorem run_mpF_no {a b : List Int} {k : Nat} {r : Int} {i : Nat} (h : k < i ∨ b.length + i < k) (gs : List Gt) : (mpF a b k r i).run gs = (gs, r) := by unfold mpF; rw [if_pos h]; rfl
theorem run_mpF_yes {a b : List Int} {k : Nat} {r : Int} {i : Nat} (h : ¬ (k < i ∨ b.length + i < k)) (gs : List Gt) : (mpF a b k r i).run gs = orC (andC gs (reachL a (i : Int)) (reachL b ((k : Int) - (i : Int)))).1 r (andC gs (reachL a (i : Int)) (reachL b ((k : Int) - (i : Int)))).2 := by
  unfold mpF; rw [if_neg h, Pr.run_bind, run_andP]; rfl
theorem resB43 (tmps : Array Value) (w : World) (b : Nat) (a : Option Addr) (n c : Nat) (v : Value) (ht : tmps.getD 6 undef = .pointer (some ⟨b, 0, none⟩)) (hv : tmps.getD 7 undef = v) (h0 : w.cell? ⟨b, 0, none⟩ = some (.slice a n c)) :
    (results Try.f43 tmps).run Try.prog w = .ok (.tuple #[.agg #[.slice a n c], v]) w := by
  have ht' : tmps[6]?.getD undef = .pointer (some ⟨b, 0, none⟩) := by simpa using ht
  have hv' : tmps[7]?.getD undef = v := by simpa using hv
  simp [results, ht', hv', go_sem, h0, Result.andThen]
/-- What is owed of a state of the merge: the box of the circuit, the box of the answer. -/
structure MgS (w0 : World) (bc bR : Nat) (w : World) (a : Option Addr) (c : Nat) (g : List Gt) : Prop where
  cb : CB w bc a c g
  z : BoxZ w bR
  go : w0.grownBy w none
theorem MgS.grown {w0 : World} {bc bR : Nat} {w w' : World} {a : Option Addr} {c : Nat} {g : List Gt} (h : MgS w0 bc bR w a c g) (hg : w.grownBy w' none) : MgS w0 bc bR w' a c g := ⟨h.cb.grown hg, h.z.grown hg, World.grownBy.trans h.go hg⟩
theorem MgS.put {w0 : World} {bc bR : Nat} {w : World} {a a' : Option Addr} {c c' : Nat} {g g' : List Gt} (h : MgS w0 bc bR w a c g) (h0 : w0.heap.size ≤ bc) (hne : bc ≠ bR) (hr : GatesW w a' c' g') : MgS w0 bc bR (w.setCell ⟨bc, 0, none⟩ (.slice a' g'.length c')) a' c' g' :=
  ⟨CB.put hr h.cb.1 h.cb.2.1, ⟨by rw [World.cell?_setCell_other _ _ _ _ (fun e => by injection e with e _; exact hne e)]; exact h.z.1, by rw [World.frozen?_setCell]; exact h.z.2⟩, grown_own h.go (grown_set w bc 0 _) (fun k e => by cases e; exact h0)⟩

theorem MgS.past {w0 : World} {bc bR B n k : Nat} {w w' : World} {a : Option Addr} {c : Nat} {g : List Gt} {e : TypeId} {v : Value} {xs : List Value} (h : MgS w0 bc bR w a c g) (hb : bc < B) (hR : bR < B) (h0 : w0.heap.size ≤ B) (hown : w.ownsRow B e k v n xs) (he : e ≠ 69) (hg : w.grownBy w' v.ownBlock) : MgS w0 bc bR w' a c g := by
  have hne : some bR ≠ v.ownBlock := fun e => by have := (hown.lt bR e.symm).1; omega
  exact ⟨CB.past h.cb hb hown he hg, ⟨hg.cell h.z.1 hne, (World.frozen?_of_block (a := ⟨bR, 0, none⟩) (hg.block bR (lies_lt h.z.1) hne)).trans h.z.2⟩, grown_own h.go hg (fun j e => Nat.le_trans h0 (hown.lt j e).1)⟩
def rcM (k la lb i : Nat) : Nat := 2 * (min k la + 1 - max i (k - lb))

set_option maxRecDepth 100000 in
set_option maxHeartbeats 4000000 in
theorem merge43_calls (a b : List Int) (aa : Option Addr) (cc : Nat) (va : Option Addr) (ca : Nat) (vb : Option Addr) (cb : Nat) (w : World) (gs : List Gt) (h : GatesW w aa cc gs) (ha : IntsW w va ca a) (hb : IntsW w vb cb b) (hG : Good gs) (hla : ∀ r ∈ a, r ≤ 9223372036854775807) (hlb : ∀ r ∈ b, r ≤ 9223372036854775807) (hl : gs.length + costA a.length b.length ≤ 850) (h1 : a.length ≤ 100) (h2 : b.length ≤ 100) :
    Calls Try.prog 43 #[.agg #[.slice aa gs.length cc], .slice va a.length ca, .slice vb b.length cb] w fun e w' => AnsL w ((addP a b).run gs).1 ((addP a b).run gs).2 e w' := by
  obtain ⟨la, hna⟩ : ∃ n, a.length = n := ⟨_, rfl⟩
  obtain ⟨lb, hnb⟩ : ∃ n, b.length = n := ⟨_, rfl⟩
  obtain ⟨res, hres⟩ : ∃ r, (addP a b).run gs = r := ⟨_, rfl⟩
  obtain ⟨g9, l9⟩ := res
  have HNA := Lib.hid hna
  have HNB := Lib.hid hnb
  have HLA := Lib.hid (show a.length ≤ 1000 by omega)
  have HLB := Lib.hid (show b.length ≤ 1000 by omega)
  have HBA := Lib.hid hla
  have HBB := Lib.hid hlb
  have HGD := Lib.hid hG
  obtain ⟨n, hn⟩ : ∃ n, la + lb = n := ⟨_, rfl⟩
  have HRUN := Lib.hid (show (foldP (adF a b) (List.range' 1 n) []).run gs = (g9, l9) from by rw [← hres, add_def, hna, hnb, hn])
  have HCL := Lib.hid (show gs.length + costL la lb (List.range' 1 n) ≤ 850 from by rw [← hn, ← hna, ← hnb]; exact hl)
  obtain ⟨i0, hi0, hz0, hz1, hz2⟩ := info_parts info3
  rw [hna] at h1 ⊢
  rw [hnb] at h2 ⊢
  rw [hres]
  simp only
  have hab : IntKind.i64.wrap ((la : Int) + (lb : Int)) = (n : Int) := by rw [IntWalk.i64_in _ (by omega)]; omega
  have hn200 : n ≤ 200 := by omega
  have hg1 := World.grownBy_alloc w (.cells #[.slice aa gs.length cc] 32) none
  have hcb0 := CB.new h
  obtain ⟨W1, hW1⟩ : ∃ z, w.alloc (.cells #[.slice aa gs.length cc] 32) = z := ⟨_, rfl⟩
  rw [hW1] at hg1 hcb0
  have hg2 := World.grownBy_alloc W1 (.cells #[.slice none 0 0] 32) none
  have hz := BoxZ.new W1
  obtain ⟨W2, hW2⟩ : ∃ z, W1.alloc (.cells #[.slice none 0 0] 32) = z := ⟨_, rfl⟩
  rw [hW2] at hg2 hz
  obtain ⟨bc, hbc⟩ : ∃ z, w.heap.size = z := ⟨_, rfl⟩
  obtain ⟨bR, hbR⟩ : ∃ z, W1.heap.size = z := ⟨_, rfl⟩
  rw [hbc] at hcb0
  rw [hbR] at hz
  have hbB : bc < W2.heap.size := Nat.lt_of_lt_of_le (lies_lt hcb0.1 : bc < W1.heap.size) hg2.size
  have hcl : bc < W1.heap.size := lies_lt hcb0.1
  have HLO := Lib.hid (show w.heap.size ≤ bc ∧ w.heap.size ≤ bR ∧ bc ≠ bR ∧ bR < W2.heap.size from ⟨by omega, by have := hg1.size; omega, by omega, lies_lt hz.1⟩)
  have HMG := Lib.hid (show MgS w bc bR W2 aa cc gs from ⟨hcb0.grown hg2, hz, World.grownBy.trans hg1 hg2⟩)
  have HRA := Lib.hid ha
  have HRB := Lib.hid hb
  have HBC := Lib.hid hbB
  clear h ha hb hG hla hlb hl hna hnb hres hg1 hcb0 hg2 hz hcl hbB
  go_enter Try.func43, Try.ntmps43
  go_upto_region 2 with fail
  clear hW1 hW2 hbc hbR
  have hgw := World.grownBy_alloc W2 (.cells #[] 3) none
  have HW3 := Lib.hid (HMG.out.grown hgw)
  have HO3 := Lib.hid (World.ownsRow_made (base := W2.heap.size) (e := 3) (size := 1) W2 #[] 0 (Nat.le_refl _) (Nat.zero_le _) rfl)
  obtain ⟨W3, hW3⟩ : ∃ z, W2.alloc (.cells #[] 3) = z := ⟨_, rfl⟩
  rw [hW3] at HW3 HO3 ⊢
  clear hW3 hgw HMG
  obtain ⟨B, hB⟩ : ∃ z, W2.heap.size = z := ⟨_, rfl⟩
  rw [hB] at HO3 HLO HBC ⊢
  have HBW := Lib.hid (show B ≤ W3.heap.size from by have h := (HO3.out.lt B rfl).2; omega)
  clear hB
  go_wp2_with fail
  go_loopg [8, 9] n (fun gk s8 s9 wr => ∃ (j : Nat) (vo : Option Addr) (co : Nat) (out : List Int) (gj : List Gt) (ac : Option Addr) (cg : Nat), s8 = .slice vo j co ∧ s9 = .int .i64 ((j + 1 : Nat) : Int) ∧ gk = n - j ∧ j ≤ n ∧ (foldP (adF a b) (List.range' (1 + j) (n - j)) out).run gj = (g9, l9) ∧ out.length = j ∧ Good gj ∧ gj.length + costL la lb (List.range' (1 + j) (n - j)) ≤ 850 ∧ MgS w bc bR wr ac cg gj ∧ wr.ownsRow B 3 1 (.slice vo j co) j (intCells out) ∧ B ≤ wr.heap.size)
  case atStart => exact ⟨0, _, _, [], gs, aa, cc, rfl, rfl, rfl, Nat.zero_le _, HRUN.out, rfl, HGD.out, HCL.out, HW3.out, HO3.out, HBW.out⟩
  case round =>
    obtain ⟨j, vo, co, out, gj, ac0, cg0, rfl, rfl, hgk, hjn, hrun, hol, hgj, hcj, hst, hown, hbw⟩ := hrel
    have HI0 := Lib.hid hgk; clear hgk
    have HRJ := Lib.hid hrun
    have HOL := Lib.hid hol
    have HSJ := Lib.hid hst
    have HOW := Lib.hid (And.intro hown hbw)
    clear hrun hol hst hown hbw
    obtain ⟨k, hk⟩ : ∃ k, j + 1 = k := ⟨_, rfl⟩
    rw [hk]
    by_cases hkn : k ≤ n
    · have f1 : decide ((k : Int) ≤ (n : Int)) = true := decide_eq_true (by omega)
      have f2 : decide (k ≤ n) = true := decide_eq_true hkn
      obtain ⟨pr, hpr⟩ : ∃ r, (placeP a b k).run gj = r := ⟨_, rfl⟩
      obtain ⟨gp, rp⟩ := pr
      have HK := Lib.hid hk
      have HPL := Lib.hid (show (foldP (mpF a b k) (List.range' 0 (la + 1)) 1).run gj = (gp, rp) from by rw [← hpr, place_m, HNA.out])
      have hrc : List.range' (1 + j) (n - j) = k :: List.range' (1 + k) (n - k) := by rw [range_cons (by omega)]; congr 2 <;> omega
      have HRN := Lib.hid (show (foldP (adF a b) (List.range' (1 + k) (n - k)) (out ++ [rp])).run gp = (g9, l9) from by
        have h := HRJ.out
        rw [hrc, run_foldP_cons, run_adF, hpr] at h
        exact h)
      have HCC := Lib.hid (show gj.length + rcM k la lb 0 + costL la lb (List.range' (1 + k) (n - k)) ≤ 850 from by
        have h := hcj
        rw [hrc, costL_cons] at h
        unfold rcM
        rw [Nat.zero_max]
        omega)
      have HGJ := Lib.hid hgj
      clear hcj hgj hpr hrc hk
      go_wp2_with fail
      clear f1 f2 hab
      have hkb : k ≤ 200 := by omega
      go_loopg [10, 11] (la + 1) (fun gk s10 s11 wr => ∃ (i cnt : Nat) (r : Int) (g : List Gt) (ac : Option Addr) (cg : Nat), s10 = .int .i64 r ∧ s11 = .int .i64 (i : Int) ∧ gk = cnt ∧ i + cnt = la + 1 ∧ (foldP (mpF a b k) (List.range' i cnt) r).run g = (gp, rp) ∧ r ≤ 9223372036854775807 ∧ (Good g ∧ g.length + rcM k la lb i + costL la lb (List.range' (1 + k) (n - k)) ≤ 850) ∧ MgS w bc bR wr ac cg g ∧ wr.ownsRow B 3 1 (.slice vo j co) j (intCells out) ∧ B ≤ wr.heap.size)
      case atStart => exact ⟨0, la + 1, 1, gj, ac0, cg0, rfl, rfl, rfl, by omega, HPL.out, by omega, ⟨HGJ.out, HCC.out⟩, HSJ.out, HOW.out.1, HOW.out.2⟩
      case round =>
        obtain ⟨i, cnt, r, g, ac, cg, rfl, rfl, hgk, hic, hrun, hrl, hgl, hst, hown, hbw⟩ := hrel
        have HI := Lib.hid hgk; clear hgk
        have HMS := Lib.hid hst; clear hst
        have HGL := Lib.hid hgl; clear hgl
        have HRL := Lib.hid hrl; clear hrl
        have HRU := Lib.hid hrun; clear hrun
        have HOI := Lib.hid (And.intro hown hbw); clear hown hbw
        have HIC := Lib.hid hic; clear hic
        obtain ⟨wp, hwp⟩ : ∃ z, z = wr := ⟨_, rfl⟩
        rw [← hwp] at HMS HOI ⊢
        clear hwp
        by_cases hia : i ≤ la
        · have f1 : decide (i ≤ la) = true := decide_eq_true hia
          have f2 : decide ((i : Int) ≤ (la : Int)) = true := decide_eq_true (by omega)
          have hcp : 0 < cnt := by have := HIC.out; omega
          obtain ⟨dK, hdK⟩ : ∃ d : Int, (k : Int) - (i : Int) = d := ⟨_, rfl⟩
          have wK : IntKind.i64.wrap ((k : Int) - (i : Int)) = dK := by rw [IntWalk.i64_in _ (by omega)]; exact hdK
          have hk1 : IntKind.i64.wrap ((i : Int) + 1) = ((i + 1 : Nat) : Int) := by rw [IntWalk.i64_in _ (by omega)]; omega
          have HIC1 := Lib.hid (show i + 1 + (cnt - 1) = la + 1 from by have := HIC.out; omega)
          have HCP := Lib.hid hcp
          go_upto_region 10 with fail
          clear f1 f2 wK
          by_cases hsk : k < i ∨ lb + i < k
          · have HRU2 := Lib.hid (show (foldP (mpF a b k) (List.range' (i + 1) (cnt - 1)) r).run g = (gp, rp) from by
              have h := HRU.out
              rw [range_cons hcp, run_foldP_cons, run_mpF_no (by rw [HNB.out]; exact hsk)] at h
              exact h)
            have HL2 := Lib.hid (show Good g ∧ g.length + rcM k la lb (i + 1) + costL la lb (List.range' (1 + k) (n - k)) ≤ 850 from ⟨HGL.out.1, by have := HGL.out.2; unfold rcM at this ⊢; omega⟩)
            have HSK := Lib.hid (show dK < 0 ∨ (¬ dK < 0 ∧ (lb : Int) < dK) by omega)
            clear hsk hdK hcp
            rcases HSK.out with h1 | ⟨h1, h2⟩
            · have g1 : decide (dK < 0) = true := decide_eq_true h1
              clear h1
              go_wp2_with fail
              go_roundg (cnt - 1)
              case measure => rw [HI.out]; have := HCP.out; omega
              case rel => exact ⟨i + 1, cnt - 1, r, g, ac, cg, rfl, rfl, rfl, HIC1.out, HRU2.out, HRL.out, HL2.out, HMS.out, HOI.out.1, HOI.out.2⟩
            · have g1 : decide (dK < 0) = false := decide_eq_false h1
              have g2 : decide ((lb : Int) < dK) = true := decide_eq_true h2
              clear h1 h2
              go_wp2_with fail
              go_roundg (cnt - 1)
              case measure => rw [HI.out]; have := HCP.out; omega
              case rel => exact ⟨i + 1, cnt - 1, r, g, ac, cg, rfl, rfl, rfl, HIC1.out, HRU2.out, HRL.out, HL2.out, HMS.out, HOI.out.1, HOI.out.2⟩
          · obtain ⟨x, hx⟩ : ∃ x, reachL a (i : Int) = x := ⟨_, rfl⟩
            obtain ⟨y, hy⟩ : ∃ y, reachL b dK = y := ⟨_, rfl⟩
            obtain ⟨r1, hr1⟩ : ∃ r, andC g x y = r := ⟨_, rfl⟩
            obtain ⟨g1, t1⟩ := r1
            obtain ⟨rr2, hr2⟩ : ∃ q, orC g1 r t1 = q := ⟨_, rfl⟩
            obtain ⟨g2, r2⟩ := rr2
            have hxl : x ≤ 9223372036854775807 := by rw [← hx]; exact reachL_le HBA.out _
            have hyl : y ≤ 9223372036854775807 := by rw [← hy]; exact reachL_le HBB.out _
            have hrc2 : rcM k la lb i = rcM k la lb (i + 1) + 2 := by unfold rcM; omega
            have htl : t1 ≤ 9223372036854775807 := by have h := and_le (gs := g) hxl hyl (by have := HGL.out.2; omega); rw [hr1] at h; exact h
            have hg1 : Good g1 ∧ g1.length ≤ g.length + 1 := by
              have e := step_and HGL.out.1 x y
              have e2 := @and_len g x y
              rw [hr1] at e e2
              exact ⟨e.good, e2⟩
            have hg2 : Good g2 ∧ g2.length ≤ g1.length + 1 := by
              have e := step_or hg1.1 r t1
              have e2 := @or_len g1 r t1
              rw [hr2] at e e2
              exact ⟨e.good, e2⟩
            have HR2 := Lib.hid (show r2 ≤ 9223372036854775807 from by have h := or_le (gs := g1) HRL.out htl (by have := HGL.out.2; have := hg1.2; omega); rw [hr2] at h; exact h)
            have HL2 := Lib.hid (show Good g2 ∧ g2.length + rcM k la lb (i + 1) + costL la lb (List.range' (1 + k) (n - k)) ≤ 850 from ⟨hg2.1, by have := HGL.out.2; have := hg1.2; have := hg2.2; omega⟩)
            have HRU2 := Lib.hid (show (foldP (mpF a b k) (List.range' (i + 1) (cnt - 1)) r2).run g2 = (gp, rp) from by
              have h := HRU.out
              rw [range_cons hcp, run_foldP_cons, run_mpF_yes (by rw [HNB.out]; exact hsk), hdK, hx, hy, hr1] at h
              simp only at h
              rw [hr2] at h
              exact h)
            have HR1 := Lib.hid hr1
            have HOR := Lib.hid (fun (W : World) (A : Option Addr) (C : Nat) (hW : GatesW W A C g1) => ror_at (a := A) (c := C) (w := W) r t1 hr2 hg1.1 (by have := HGL.out.2; have := hg1.2; omega) HRL.out htl hW)
            have HGB := Lib.hid (show g.length ≤ 900 by have := HGL.out.2; omega)
            have HX := Lib.hid (And.intro hx hy)
            have HXL := Lib.hid (And.intro hxl hyl)
            have HJB := Lib.hid (show -1000000 ≤ (i : Int) ∧ (i : Int) ≤ 1000000 by omega)
            have HDK := Lib.hid (show -1000000 ≤ dK ∧ dK ≤ 1000000 by omega)
            have g1' : decide (dK < 0) = false := decide_eq_false (by omega)
            have g2' : decide ((lb : Int) < dK) = false := decide_eq_false (by omega)
            have Hc := Lib.hid HMS.out.cb
            have HGP := Lib.hid HMS.out.go
            clear hsk hdK hcp hr1 hr2 hxl hyl htl hg1 hg2 hx hy hrc2
            go_upto_region 11 with fail
            clear g1' g2'
            go_cut [13, 14] (fun s0 s1 wx => ∃ b a c, s0 = .pointer (some ⟨b, 0, none⟩) ∧ s1 = .int .i64 t1 ∧ wp.heap.size ≤ b ∧ CB wx b a c g1 ∧ wp.grownBy wx none)
            case first =>
                have HS := Lib.hid (fun (Wh : World) (hWh : wp.grownBy Wh none) => (⟨hWh, hWh.cell Hc.out.1 (by simp)⟩ : (fun Wh : World => wp.grownBy Wh none ∧ Wh.cell? ⟨bc, 0, none⟩ = some (.slice ac g.length cg)) Wh))
                have hdr : wp.grownBy wp.drew none := ⟨rfl, rfl, rfl, Nat.le_refl _, fun _ _ _ => rfl⟩
                refine wp_region_held_drew (S := (fun Wh : World => wp.grownBy Wh none ∧ Wh.cell? ⟨bc, 0, none⟩ = some (.slice ac g.length cg))) (by kernel_rfl) (HS.out _ hdr) (fun hHeld => ?_)
                refine wpAnyH_take (i := 0) (oi := { dst := some 45, op := Op.load 32 (Operand.tmp 3), type := 32, pos := "ref.go:75", after := #[], guard := none }) (v := ?_) rfl (by kernel_rfl) (by kernel_rfl) (by kernel_rfl) (fun _ _ _ h => h) (Or.inl ⟨by rfl, ?_⟩) (by assumption) ?_
                rotate_left 1
                · (intro W hSW; (try dsimp only at hSW); first | (go_simp; done) | (go_simp; with_reducible rfl))
                try simp only [Act.put, List.setIfInBounds_toArray, List.set_cons_zero, List.set_cons_succ]
                refine wpAnyH_take (i := 1) (oi := { dst := some 46, op := Op.move (Operand.tmp 1), type := 33, pos := "ref.go:75", after := #[], guard := none }) (v := ?_) rfl (by kernel_rfl) (by kernel_rfl) (by kernel_rfl) (fun _ _ _ h => h) (Or.inl ⟨by rfl, ?_⟩) (by assumption) ?_
                rotate_left 1
                · (intro W hSW; (try dsimp only at hSW); first | (go_simp; done) | (go_simp; with_reducible rfl))
                try simp only [Act.put, List.setIfInBounds_toArray, List.set_cons_zero, List.set_cons_succ]
                refine wpAnyH_take (i := 2) (oi := { dst := some 47, op := Op.move (Operand.tmp 11), type := 3, pos := "ref.go:75", after := #[], guard := none }) (v := ?_) rfl (by kernel_rfl) (by kernel_rfl) (by kernel_rfl) (fun _ _ _ h => h) (Or.inl ⟨by rfl, ?_⟩) (by assumption) ?_
                rotate_left 1
                · (intro W hSW; (try dsimp only at hSW); first | (go_simp; done) | (go_simp; with_reducible rfl))
                try simp only [Act.put, List.setIfInBounds_toArray, List.set_cons_zero, List.set_cons_succ]
                refine wpAnyH_take (i := 4) (oi := { dst := some 49, op := Op.move (Operand.tmp 2), type := 33, pos := "ref.go:75", after := #[], guard := none }) (v := ?_) rfl (by kernel_rfl) (by kernel_rfl) (by kernel_rfl) (fun _ _ _ h => h) (Or.inl ⟨by rfl, ?_⟩) (by assumption) ?_
                rotate_left 1
                · (intro W hSW; (try dsimp only at hSW); first | (go_simp; done) | (go_simp; with_reducible rfl))
                try simp only [Act.put, List.setIfInBounds_toArray, List.set_cons_zero, List.set_cons_succ]
                refine wpAnyH_take (i := 5) (oi := { dst := some 50, op := Op.move (Operand.tmp 12), type := 3, pos := "ref.go:75", after := #[], guard := none }) (v := ?_) rfl (by kernel_rfl) (by kernel_rfl) (by kernel_rfl) (fun _ _ _ h => h) (Or.inl ⟨by rfl, ?_⟩) (by assumption) ?_
                rotate_left 1
                · (intro W hSW; (try dsimp only at hSW); first | (go_simp; done) | (go_simp; with_reducible rfl))
                try simp only [Act.put, List.setIfInBounds_toArray, List.set_cons_zero, List.set_cons_succ]
                refine wpAnyH_ready (rs := [3, 11]) (by kernel_rfl) (by simp) ?_
                refine (AllReadyH.cons (o := { dst := some 48, op := Op.call { callee := Callee.value (Operand.func 58), args := #[Operand.tmp 46, Operand.tmp 47], argTypes := #[33, 3] }, type := 3, pos := "ref.go:75", after := #[{ on := 1, ground := Ground.data }, { on := 2, ground := Ground.data }], guard := none }) rfl (fun K hK => ?_) (AllReadyH.cons (o := { dst := some 13, op := Op.alloc 32, type := 0, pos := "ref.go:75", after := #[], guard := none }) rfl (fun K hK => ?_) AllReadyH.nil))
                · rw [if_pos (by rfl)]
                  go_simp
                  go_at_call 58
                  refine (reach_n a (i : Int) va ca _ HNA.out HX.out.1 (HRA.out.grown (World.grownBy.trans HGP.out hdr)) HLA.out HJB.out).mono ?_
                  rintro e w9 ⟨rfl, hw9⟩
                  rw [hw9]
                  clear hw9 w9
                  go_wp2_with fail
                  refine hK.out _ _ (HS.out _ hdr) (fun hHeld => ?_)
                  clear hK K
                  try simp only [Act.put, List.setIfInBounds_toArray, List.set_cons_zero, List.set_cons_succ]
                  refine wpAnyH_ready (rs := [6, 11]) (by kernel_rfl) (by simp) ?_
                  refine (AllReadyH.cons (o := { dst := some 51, op := Op.call { callee := Callee.value (Operand.func 58), args := #[Operand.tmp 49, Operand.tmp 50], argTypes := #[33, 3] }, type := 3, pos := "ref.go:75", after := #[{ on := 4, ground := Ground.data }, { on := 5, ground := Ground.data }, { on := 3, ground := Ground.chain }], guard := none }) rfl (fun K hK => ?_) (AllReadyH.cons (o := { dst := some 13, op := Op.alloc 32, type := 0, pos := "ref.go:75", after := #[], guard := none }) rfl (fun K hK => ?_) AllReadyH.nil))
                  · rw [if_pos (by rfl)]
                    go_simp
                    go_at_call 58
                    refine (reach_n b dK vb cb _ HNB.out HX.out.2 (HRB.out.grown (World.grownBy.trans HGP.out hdr)) HLB.out HDK.out).mono ?_
                    rintro e w9 ⟨rfl, hw9⟩
                    rw [hw9]
                    clear hw9 w9
                    go_wp2_with fail
                    refine hK.out _ _ (HS.out _ hdr) (fun hHeld => ?_)
                    clear hK K
                    try simp only [Act.put, List.setIfInBounds_toArray, List.set_cons_zero, List.set_cons_succ]
                    refine wpAnyH_ready (rs := [7, 11]) (by kernel_rfl) (by simp) ?_
                    refine (AllReadyH.cons (o := { dst := some 52, op := Op.call { callee := Callee.value (Operand.func 57), args := #[Operand.tmp 45, Operand.tmp 48, Operand.tmp 51], argTypes := #[32, 3, 3] }, type := 40, pos := "ref.go:75", after := #[{ on := 0, ground := Ground.data }, { on := 3, ground := Ground.data }, { on := 6, ground := Ground.data }, { on := 6, ground := Ground.chain }], guard := none }) rfl (fun K hK => ?_) (AllReadyH.cons (o := { dst := some 13, op := Op.alloc 32, type := 0, pos := "ref.go:75", after := #[], guard := none }) rfl (fun K hK => ?_) AllReadyH.nil))
                    · rw [if_pos (by rfl)]
                      go_simp
                      go_at_call 57
                      refine (rand_at x y HR1.out HGL.out.1 HGB.out HXL.out.1 HXL.out.2 ((Hc.out.grown hdr).2.2)).mono ?_
                      rintro e wM ⟨aM, cM, rfl, hr, gM⟩
                      have hgM := World.grownBy.trans hdr gM
                      go_wp2_with fail
                      refine hK.out _ _ (HS.out _ hgM) (fun hHeld => ?_)
                      clear hK K
                      try simp only [Act.put, List.setIfInBounds_toArray, List.set_cons_zero, List.set_cons_succ]
                      refine wpAnyH_take (i := 8) (oi := { dst := some 44, op := Op.move (Operand.tmp 52), type := 40, pos := "ref.go:75", after := #[{ on := 7, ground := Ground.data }], guard := none }) (v := ?_) rfl (by kernel_rfl) (by kernel_rfl) (by kernel_rfl) (fun _ _ _ h => h) (Or.inl ⟨by rfl, ?_⟩) (by assumption) ?_
                      rotate_left 1
                      · (intro W hSW; (try dsimp only at hSW); first | (go_simp; done) | (go_simp; with_reducible rfl))
                      try simp only [Act.put, List.setIfInBounds_toArray, List.set_cons_zero, List.set_cons_succ]
                      refine wpAnyH_take (i := 9) (oi := { dst := some 53, op := Op.extract (Operand.tmp 44) 0, type := 32, pos := "ref.go:75", after := #[{ on := 8, ground := Ground.data }], guard := none }) (v := ?_) rfl (by kernel_rfl) (by kernel_rfl) (by kernel_rfl) (fun _ _ _ h => h) (Or.inl ⟨by rfl, ?_⟩) (by assumption) ?_
                      rotate_left 1
                      · (intro W hSW; (try dsimp only at hSW); first | (go_simp; done) | (go_simp; with_reducible rfl))
                      try simp only [Act.put, List.setIfInBounds_toArray, List.set_cons_zero, List.set_cons_succ]
                      refine wpAnyH_take (i := 10) (oi := { dst := some 54, op := Op.extract (Operand.tmp 44) 1, type := 3, pos := "ref.go:75", after := #[{ on := 8, ground := Ground.data }, { on := 12, ground := Ground.gcOnly Departure.lateStores }], guard := none }) (v := ?_) rfl (by kernel_rfl) (by kernel_rfl) (by kernel_rfl) (fun _ _ _ h => h) (Or.inl ⟨by rfl, ?_⟩) (by assumption) ?_
                      rotate_left 1
                      · (intro W hSW; (try dsimp only at hSW); first | (go_simp; done) | (go_simp; with_reducible rfl))
                      try simp only [Act.put, List.setIfInBounds_toArray, List.set_cons_zero, List.set_cons_succ]
                      refine wpAnyH_ready (rs := [11]) (by kernel_rfl) (by simp) ?_
                      refine (AllReadyH.cons (o := { dst := some 13, op := Op.alloc 32, type := 0, pos := "ref.go:75", after := #[], guard := none }) rfl (fun K hK => ?_) AllReadyH.nil)
                      rw [if_pos (by rfl)]
                      go_simp
                      have hgA : wp.grownBy (World.alloc wM (.cells #[.slice none 0 0] 32)) none := World.grownBy.trans hgM (World.grownBy_alloc wM (.cells #[.slice none 0 0] 32) none)
                      have hz : BoxZ (World.alloc wM (.cells #[.slice none 0 0] 32)) (wM.heap.size) := BoxZ.new wM
                      have hge0 : wp.heap.size ≤ wM.heap.size := World.grownBy.size hgM
                      have hge : ∀ p, wM.heap.size = p → wp.heap.size ≤ p := fun p e => by rw [← e]; exact hge0
                      clear hge0
                      replace hr := hr.grown (World.grownBy_alloc wM (.cells #[.slice none 0 0] 32) none)
                      obtain ⟨WA, hWA⟩ : ∃ z, World.alloc wM (.cells #[.slice none 0 0] 32) = z := ⟨_, rfl⟩
                      rw [hWA] at hgA hz ⊢
                      rw [hWA] at hr
                      clear hWA
                      obtain ⟨pA, hpA⟩ : ∃ p, wM.heap.size = p := ⟨_, rfl⟩
                      replace hge := hge pA hpA
                      rw [hpA] at hz ⊢
                      clear hpA
                      refine hK.out _ _ (HS.out _ hgA) (fun hHeld => ?_)
                      clear hK K
                      try simp only [Act.put, List.setIfInBounds_toArray, List.set_cons_zero, List.set_cons_succ]
                      refine wpAnyH_ready (rs := [12]) (by kernel_rfl) (by simp) ?_
                      refine (AllReadyH.cons (o := { dst := none, op := Op.store 32 (Operand.tmp 13) (Operand.tmp 53), type := 0, pos := "ref.go:75", after := #[{ on := 11, ground := Ground.data }, { on := 9, ground := Ground.data }, { on := 7, ground := Ground.chain }, { on := 0, ground := Ground.phase }, { on := 1, ground := Ground.phase }, { on := 2, ground := Ground.phase }, { on := 3, ground := Ground.phase }, { on := 4, ground := Ground.phase }, { on := 5, ground := Ground.phase }, { on := 6, ground := Ground.phase }, { on := 7, ground := Ground.phase }, { on := 8, ground := Ground.phase }, { on := 9, ground := Ground.phase }, { on := 10, ground := Ground.textOnly Departure.lateStores }, { on := 11, ground := Ground.phase }], guard := none }) rfl (fun K hK => ?_) AllReadyH.nil)
                      rw [if_pos (by rfl)]
                      have z0 := hz.1
                      have zf := hz.2
                      go_simp
                      clear z0 zf
                      have hcb := CB.put hr hz.1 hz.2
                      have hgS := grown_own hgA (grown_set WA pA 0 (.slice aM g1.length cM)) (fun k hk => by cases hk; exact hge)
                      obtain ⟨WS, hWS⟩ : ∃ z, World.setCell WA ⟨pA, 0, none⟩ (.slice aM g1.length cM) = z := ⟨_, rfl⟩
                      rw [hWS] at hcb hgS  ⊢
                      clear hWS
                      refine hK.out _ _ (HS.out _ hgS) (fun hHeld => ?_)
                      clear hK K
                      try simp only [Act.put, List.setIfInBounds_toArray, List.set_cons_zero, List.set_cons_succ]
                      refine wpAnyH_take (i := 13) (oi := { dst := some 14, op := Op.assign (Operand.tmp 54), type := 3, pos := "ref.go:75", after := #[{ on := 10, ground := Ground.data }, { on := 12, ground := Ground.chain }, { on := 0, ground := Ground.phase }, { on := 1, ground := Ground.phase }, { on := 2, ground := Ground.phase }, { on := 3, ground := Ground.phase }, { on := 4, ground := Ground.phase }, { on := 5, ground := Ground.phase }, { on := 6, ground := Ground.phase }, { on := 7, ground := Ground.phase }, { on := 8, ground := Ground.phase }, { on := 9, ground := Ground.phase }, { on := 10, ground := Ground.phase }, { on := 11, ground := Ground.phase }, { on := 12, ground := Ground.phase }], guard := none }) (v := ?_) rfl (by kernel_rfl) (by kernel_rfl) (by kernel_rfl) (fun _ _ _ h => h) (Or.inl ⟨by rfl, ?_⟩) (by assumption) ?_
                      rotate_left 1
                      · (intro W hSW; (try dsimp only at hSW); first | (go_simp; done) | (go_simp; with_reducible rfl))
                      try simp only [Act.put, List.setIfInBounds_toArray, List.set_cons_zero, List.set_cons_succ]
                      refine wpAnyH_done (by kernel_rfl) ?_ _
                      have hEND := hgS
                      clear hHeld
                      go_wp2_with fail
                      go_meet
                      exact ⟨pA, aM, cM, rfl, rfl, hge, hcb, hEND⟩
                    · rw [if_pos (by rfl)]
                      go_simp
                      have hgA : wp.grownBy ((World.alloc wp (.cells #[.slice none 0 0] 32)).drew) none := World.grownBy.trans (World.grownBy_alloc wp (.cells #[.slice none 0 0] 32) none) (⟨rfl, rfl, rfl, Nat.le_refl _, fun _ _ _ => rfl⟩ : (World.alloc wp (.cells #[.slice none 0 0] 32)).grownBy (World.alloc wp (.cells #[.slice none 0 0] 32)).drew none)
                      have hz : BoxZ ((World.alloc wp (.cells #[.slice none 0 0] 32)).drew) (wp.heap.size) := (BoxZ.new wp).grown (⟨rfl, rfl, rfl, Nat.le_refl _, fun _ _ _ => rfl⟩ : (World.alloc wp (.cells #[.slice none 0 0] 32)).grownBy (World.alloc wp (.cells #[.slice none 0 0] 32)).drew none)
                      have hge0 : wp.heap.size ≤ wp.heap.size := Nat.le_refl _
                      have hge : ∀ p, wp.heap.size = p → wp.heap.size ≤ p := fun p e => by rw [← e]; exact hge0
                      clear hge0
                      obtain ⟨WA, hWA⟩ : ∃ z, (World.alloc wp (.cells #[.slice none 0 0] 32)).drew = z := ⟨_, rfl⟩
                      rw [hWA] at hgA hz ⊢
                      clear hWA
                      obtain ⟨pA, hpA⟩ : ∃ p, wp.heap.size = p := ⟨_, rfl⟩
                      replace hge := hge pA hpA
                      rw [hpA] at hz ⊢
                      clear hpA
                      refine hK.out _ _ (HS.out _ hgA) (fun hHeld => ?_)
                      clear hK K
                      try simp only [Act.put, List.setIfInBounds_toArray, List.set_cons_zero, List.set_cons_succ]
                      refine wpAnyH_ready (rs := [7]) (by kernel_rfl) (by simp) ?_
                      refine (AllReadyH.cons (o := { dst := some 52, op := Op.call { callee := Callee.value (Operand.func 57), args := #[Operand.tmp 45, Operand.tmp 48, Operand.tmp 51], argTypes := #[32, 3, 3] }, type := 40, pos := "ref.go:75", after := #[{ on := 0, ground := Ground.data }, { on := 3, ground := Ground.data }, { on := 6, ground := Ground.data }, { on := 6, ground := Ground.chain }], guard := none }) rfl (fun K hK => ?_) AllReadyH.nil)
                      rw [if_pos (by rfl)]
                      go_simp
                      go_at_call 57
                      refine (rand_at x y HR1.out HGL.out.1 HGB.out HXL.out.1 HXL.out.2 ((Hc.out.grown hgA).2.2)).mono ?_
                      rintro e wM ⟨aM, cM, rfl, hr, gM⟩
                      have hgM := World.grownBy.trans hgA gM
                      replace hz := hz.grown gM
                      go_wp2_with fail
                      refine hK.out _ _ (HS.out _ hgM) (fun hHeld => ?_)
                      clear hK K
                      try simp only [Act.put, List.setIfInBounds_toArray, List.set_cons_zero, List.set_cons_succ]
                      refine wpAnyH_take (i := 8) (oi := { dst := some 44, op := Op.move (Operand.tmp 52), type := 40, pos := "ref.go:75", after := #[{ on := 7, ground := Ground.data }], guard := none }) (v := ?_) rfl (by kernel_rfl) (by kernel_rfl) (by kernel_rfl) (fun _ _ _ h => h) (Or.inl ⟨by rfl, ?_⟩) (by assumption) ?_
                      rotate_left 1
                      · (intro W hSW; (try dsimp only at hSW); first | (go_simp; done) | (go_simp; with_reducible rfl))
                      try simp only [Act.put, List.setIfInBounds_toArray, List.set_cons_zero, List.set_cons_succ]
                      refine wpAnyH_take (i := 9) (oi := { dst := some 53, op := Op.extract (Operand.tmp 44) 0, type := 32, pos := "ref.go:75", after := #[{ on := 8, ground := Ground.data }], guard := none }) (v := ?_) rfl (by kernel_rfl) (by kernel_rfl) (by kernel_rfl) (fun _ _ _ h => h) (Or.inl ⟨by rfl, ?_⟩) (by assumption) ?_
                      rotate_left 1
                      · (intro W hSW; (try dsimp only at hSW); first | (go_simp; done) | (go_simp; with_reducible rfl))
                      try simp only [Act.put, List.setIfInBounds_toArray, List.set_cons_zero, List.set_cons_succ]
                      refine wpAnyH_take (i := 10) (oi := { dst := some 54, op := Op.extract (Operand.tmp 44) 1, type := 3, pos := "ref.go:75", after := #[{ on := 8, ground := Ground.data }, { on := 12, ground := Ground.gcOnly Departure.lateStores }], guard := none }) (v := ?_) rfl (by kernel_rfl) (by kernel_rfl) (by kernel_rfl) (fun _ _ _ h => h) (Or.inl ⟨by rfl, ?_⟩) (by assumption) ?_
                      rotate_left 1
                      · (intro W hSW; (try dsimp only at hSW); first | (go_simp; done) | (go_simp; with_reducible rfl))
                      try simp only [Act.put, List.setIfInBounds_toArray, List.set_cons_zero, List.set_cons_succ]
                      refine wpAnyH_ready (rs := [12]) (by kernel_rfl) (by simp) ?_
                      refine (AllReadyH.cons (o := { dst := none, op := Op.store 32 (Operand.tmp 13) (Operand.tmp 53), type := 0, pos := "ref.go:75", after := #[{ on := 11, ground := Ground.data }, { on := 9, ground := Ground.data }, { on := 7, ground := Ground.chain }, { on := 0, ground := Ground.phase }, { on := 1, ground := Ground.phase }, { on := 2, ground := Ground.phase }, { on := 3, ground := Ground.phase }, { on := 4, ground := Ground.phase }, { on := 5, ground := Ground.phase }, { on := 6, ground := Ground.phase }, { on := 7, ground := Ground.phase }, { on := 8, ground := Ground.phase }, { on := 9, ground := Ground.phase }, { on := 10, ground := Ground.textOnly Departure.lateStores }, { on := 11, ground := Ground.phase }], guard := none }) rfl (fun K hK => ?_) AllReadyH.nil)
                      rw [if_pos (by rfl)]
                      have z0 := hz.1
                      have zf := hz.2
                      go_simp
                      clear z0 zf
                      have hcb := CB.put hr hz.1 hz.2
                      have hgS := grown_own hgM (grown_set wM pA 0 (.slice aM g1.length cM)) (fun k hk => by cases hk; exact hge)
                      obtain ⟨WS, hWS⟩ : ∃ z, World.setCell wM ⟨pA, 0, none⟩ (.slice aM g1.length cM) = z := ⟨_, rfl⟩
                      rw [hWS] at hcb hgS  ⊢
                      clear hWS
                      refine hK.out _ _ (HS.out _ hgS) (fun hHeld => ?_)
                      clear hK K
                      try simp only [Act.put, List.setIfInBounds_toArray, List.set_cons_zero, List.set_cons_succ]
                      refine wpAnyH_take (i := 13) (oi := { dst := some 14, op := Op.assign (Operand.tmp 54), type := 3, pos := "ref.go:75", after := #[{ on := 10, ground := Ground.data }, { on := 12, ground := Ground.chain }, { on := 0, ground := Ground.phase }, { on := 1, ground := Ground.phase }, { on := 2, ground := Ground.phase }, { on := 3, ground := Ground.phase }, { on := 4, ground := Ground.phase }, { on := 5, ground := Ground.phase }, { on := 6, ground := Ground.phase }, { on := 7, ground := Ground.phase }, { on := 8, ground := Ground.phase }, { on := 9, ground := Ground.phase }, { on := 10, ground := Ground.phase }, { on := 11, ground := Ground.phase }, { on := 12, ground := Ground.phase }], guard := none }) (v := ?_) rfl (by kernel_rfl) (by kernel_rfl) (by kernel_rfl) (fun _ _ _ h => h) (Or.inl ⟨by rfl, ?_⟩) (by assumption) ?_
                      rotate_left 1
                      · (intro W hSW; (try dsimp only at hSW); first | (go_simp; done) | (go_simp; with_reducible rfl))
                      try simp only [Act.put, List.setIfInBounds_toArray, List.set_cons_zero, List.set_cons_succ]
                      refine wpAnyH_done (by kernel_rfl) ?_ _
                      have hEND := hgS
                      clear hHeld
                      go_wp2_with fail
                      go_meet
                      exact ⟨pA, aM, cM, rfl, rfl, hge, hcb, hEND⟩
                  · rw [if_pos (by rfl)]
                    go_simp
                    have hgA : wp.grownBy ((World.alloc wp (.cells #[.slice none 0 0] 32)).drew) none := World.grownBy.trans (World.grownBy_alloc wp (.cells #[.slice none 0 0] 32) none) (⟨rfl, rfl, rfl, Nat.le_refl _, fun _ _ _ => rfl⟩ : (World.alloc wp (.cells #[.slice none 0 0] 32)).grownBy (World.alloc wp (.cells #[.slice none 0 0] 32)).drew none)
                    have hz : BoxZ ((World.alloc wp (.cells #[.slice none 0 0] 32)).drew) (wp.heap.size) := (BoxZ.new wp).grown (⟨rfl, rfl, rfl, Nat.le_refl _, fun _ _ _ => rfl⟩ : (World.alloc wp (.cells #[.slice none 0 0] 32)).grownBy (World.alloc wp (.cells #[.slice none 0 0] 32)).drew none)
                    have hge0 : wp.heap.size ≤ wp.heap.size := Nat.le_refl _
                    have hge : ∀ p, wp.heap.size = p → wp.heap.size ≤ p := fun p e => by rw [← e]; exact hge0
                    clear hge0
                    obtain ⟨WA, hWA⟩ : ∃ z, (World.alloc wp (.cells #[.slice none 0 0] 32)).drew = z := ⟨_, rfl⟩
                    rw [hWA] at hgA hz ⊢
                    clear hWA
                    obtain ⟨pA, hpA⟩ : ∃ p, wp.heap.size = p := ⟨_, rfl⟩
                    replace hge := hge pA hpA
                    rw [hpA] at hz ⊢
                    clear hpA
                    refine hK.out _ _ (HS.out _ hgA) (fun hHeld => ?_)
                    clear hK K
                    try simp only [Act.put, List.setIfInBounds_toArray, List.set_cons_zero, List.set_cons_succ]
                    refine wpAnyH_ready (rs := [6]) (by kernel_rfl) (by simp) ?_
                    refine (AllReadyH.cons (o := { dst := some 51, op := Op.call { callee := Callee.value (Operand.func 58), args := #[Operand.tmp 49, Operand.tmp 50], argTypes := #[33, 3] }, type := 3, pos := "ref.go:75", after := #[{ on := 4, ground := Ground.data }, { on := 5, ground := Ground.data }, { on := 3, ground := Ground.chain }], guard := none }) rfl (fun K hK => ?_) AllReadyH.nil)
                    rw [if_pos (by rfl)]
                    go_simp
                    go_at_call 58
                    refine (reach_n b dK vb cb _ HNB.out HX.out.2 (HRB.out.grown (World.grownBy.trans HGP.out hgA)) HLB.out HDK.out).mono ?_
                    rintro e w9 ⟨rfl, hw9⟩
                    rw [hw9]
                    clear hw9 w9
                    go_wp2_with fail
                    refine hK.out _ _ (HS.out _ hgA) (fun hHeld => ?_)
                    clear hK K
                    try simp only [Act.put, List.setIfInBounds_toArray, List.set_cons_zero, List.set_cons_succ]
                    refine wpAnyH_ready (rs := [7]) (by kernel_rfl) (by simp) ?_
                    refine (AllReadyH.cons (o := { dst := some 52, op := Op.call { callee := Callee.value (Operand.func 57), args := #[Operand.tmp 45, Operand.tmp 48, Operand.tmp 51], argTypes := #[32, 3, 3] }, type := 40, pos := "ref.go:75", after := #[{ on := 0, ground := Ground.data }, { on := 3, ground := Ground.data }, { on := 6, ground := Ground.data }, { on := 6, ground := Ground.chain }], guard := none }) rfl (fun K hK => ?_) AllReadyH.nil)
                    rw [if_pos (by rfl)]
                    go_simp
                    go_at_call 57
                    refine (rand_at x y HR1.out HGL.out.1 HGB.out HXL.out.1 HXL.out.2 ((Hc.out.grown hgA).2.2)).mono ?_
                    rintro e wM ⟨aM, cM, rfl, hr, gM⟩
                    have hgM := World.grownBy.trans hgA gM
                    replace hz := hz.grown gM
                    go_wp2_with fail
                    refine hK.out _ _ (HS.out _ hgM) (fun hHeld => ?_)
                    clear hK K
                    try simp only [Act.put, List.setIfInBounds_toArray, List.set_cons_zero, List.set_cons_succ]
                    refine wpAnyH_take (i := 8) (oi := { dst := some 44, op := Op.move (Operand.tmp 52), type := 40, pos := "ref.go:75", after := #[{ on := 7, ground := Ground.data }], guard := none }) (v := ?_) rfl (by kernel_rfl) (by kernel_rfl) (by kernel_rfl) (fun _ _ _ h => h) (Or.inl ⟨by rfl, ?_⟩) (by assumption) ?_
                    rotate_left 1
                    · (intro W hSW; (try dsimp only at hSW); first | (go_simp; done) | (go_simp; with_reducible rfl))
                    try simp only [Act.put, List.setIfInBounds_toArray, List.set_cons_zero, List.set_cons_succ]
                    refine wpAnyH_take (i := 9) (oi := { dst := some 53, op := Op.extract (Operand.tmp 44) 0, type := 32, pos := "ref.go:75", after := #[{ on := 8, ground := Ground.data }], guard := none }) (v := ?_) rfl (by kernel_rfl) (by kernel_rfl) (by kernel_rfl) (fun _ _ _ h => h) (Or.inl ⟨by rfl, ?_⟩) (by assumption) ?_
                    rotate_left 1
                    · (intro W hSW; (try dsimp only at hSW); first | (go_simp; done) | (go_simp; with_reducible rfl))
                    try simp only [Act.put, List.setIfInBounds_toArray, List.set_cons_zero, List.set_cons_succ]
                    refine wpAnyH_take (i := 10) (oi := { dst := some 54, op := Op.extract (Operand.tmp 44) 1, type := 3, pos := "ref.go:75", after := #[{ on := 8, ground := Ground.data }, { on := 12, ground := Ground.gcOnly Departure.lateStores }], guard := none }) (v := ?_) rfl (by kernel_rfl) (by kernel_rfl) (by kernel_rfl) (fun _ _ _ h => h) (Or.inl ⟨by rfl, ?_⟩) (by assumption) ?_
                    rotate_left 1
                    · (intro W hSW; (try dsimp only at hSW); first | (go_simp; done) | (go_simp; with_reducible rfl))
                    try simp only [Act.put, List.setIfInBounds_toArray, List.set_cons_zero, List.set_cons_succ]
                    refine wpAnyH_ready (rs := [12]) (by kernel_rfl) (by simp) ?_
                    refine (AllReadyH.cons (o := { dst := none, op := Op.store 32 (Operand.tmp 13) (Operand.tmp 53), type := 0, pos := "ref.go:75", after := #[{ on := 11, ground := Ground.data }, { on := 9, ground := Ground.data }, { on := 7, ground := Ground.chain }, { on := 0, ground := Ground.phase }, { on := 1, ground := Ground.phase }, { on := 2, ground := Ground.phase }, { on := 3, ground := Ground.phase }, { on := 4, ground := Ground.phase }, { on := 5, ground := Ground.phase }, { on := 6, ground := Ground.phase }, { on := 7, ground := Ground.phase }, { on := 8, ground := Ground.phase }, { on := 9, ground := Ground.phase }, { on := 10, ground := Ground.textOnly Departure.lateStores }, { on := 11, ground := Ground.phase }], guard := none }) rfl (fun K hK => ?_) AllReadyH.nil)
                    rw [if_pos (by rfl)]
                    have z0 := hz.1
                    have zf := hz.2
                    go_simp
                    clear z0 zf
                    have hcb := CB.put hr hz.1 hz.2
                    have hgS := grown_own hgM (grown_set wM pA 0 (.slice aM g1.length cM)) (fun k hk => by cases hk; exact hge)
                    obtain ⟨WS, hWS⟩ : ∃ z, World.setCell wM ⟨pA, 0, none⟩ (.slice aM g1.length cM) = z := ⟨_, rfl⟩
                    rw [hWS] at hcb hgS  ⊢
                    clear hWS
                    refine hK.out _ _ (HS.out _ hgS) (fun hHeld => ?_)
                    clear hK K
                    try simp only [Act.put, List.setIfInBounds_toArray, List.set_cons_zero, List.set_cons_succ]
                    refine wpAnyH_take (i := 13) (oi := { dst := some 14, op := Op.assign (Operand.tmp 54), type := 3, pos := "ref.go:75", after := #[{ on := 10, ground := Ground.data }, { on := 12, ground := Ground.chain }, { on := 0, ground := Ground.phase }, { on := 1, ground := Ground.phase }, { on := 2, ground := Ground.phase }, { on := 3, ground := Ground.phase }, { on := 4, ground := Ground.phase }, { on := 5, ground := Ground.phase }, { on := 6, ground := Ground.phase }, { on := 7, ground := Ground.phase }, { on := 8, ground := Ground.phase }, { on := 9, ground := Ground.phase }, { on := 10, ground := Ground.phase }, { on := 11, ground := Ground.phase }, { on := 12, ground := Ground.phase }], guard := none }) (v := ?_) rfl (by kernel_rfl) (by kernel_rfl) (by kernel_rfl) (fun _ _ _ h => h) (Or.inl ⟨by rfl, ?_⟩) (by assumption) ?_
                    rotate_left 1
                    · (intro W hSW; (try dsimp only at hSW); first | (go_simp; done) | (go_simp; with_reducible rfl))
                    try simp only [Act.put, List.setIfInBounds_toArray, List.set_cons_zero, List.set_cons_succ]
                    refine wpAnyH_done (by kernel_rfl) ?_ _
                    have hEND := hgS
                    clear hHeld
                    go_wp2_with fail
                    go_meet
                    exact ⟨pA, aM, cM, rfl, rfl, hge, hcb, hEND⟩
                · rw [if_pos (by rfl)]
                  go_simp
                  have hgA : wp.grownBy ((World.alloc wp (.cells #[.slice none 0 0] 32)).drew) none := World.grownBy.trans (World.grownBy_alloc wp (.cells #[.slice none 0 0] 32) none) (⟨rfl, rfl, rfl, Nat.le_refl _, fun _ _ _ => rfl⟩ : (World.alloc wp (.cells #[.slice none 0 0] 32)).grownBy (World.alloc wp (.cells #[.slice none 0 0] 32)).drew none)
                  have hz : BoxZ ((World.alloc wp (.cells #[.slice none 0 0] 32)).drew) (wp.heap.size) := (BoxZ.new wp).grown (⟨rfl, rfl, rfl, Nat.le_refl _, fun _ _ _ => rfl⟩ : (World.alloc wp (.cells #[.slice none 0 0] 32)).grownBy (World.alloc wp (.cells #[.slice none 0 0] 32)).drew none)
                  have hge0 : wp.heap.size ≤ wp.heap.size := Nat.le_refl _
                  have hge : ∀ p, wp.heap.size = p → wp.heap.size ≤ p := fun p e => by rw [← e]; exact hge0
                  clear hge0
                  obtain ⟨WA, hWA⟩ : ∃ z, (World.alloc wp (.cells #[.slice none 0 0] 32)).drew = z := ⟨_, rfl⟩
                  rw [hWA] at hgA hz ⊢
                  clear hWA
                  obtain ⟨pA, hpA⟩ : ∃ p, wp.heap.size = p := ⟨_, rfl⟩
                  replace hge := hge pA hpA
                  rw [hpA] at hz ⊢
                  clear hpA
                  refine hK.out _ _ (HS.out _ hgA) (fun hHeld => ?_)
                  clear hK K
                  try simp only [Act.put, List.setIfInBounds_toArray, List.set_cons_zero, List.set_cons_succ]
                  refine wpAnyH_ready (rs := [3]) (by kernel_rfl) (by simp) ?_
                  refine (AllReadyH.cons (o := { dst := some 48, op := Op.call { callee := Callee.value (Operand.func 58), args := #[Operand.tmp 46, Operand.tmp 47], argTypes := #[33, 3] }, type := 3, pos := "ref.go:75", after := #[{ on := 1, ground := Ground.data }, { on := 2, ground := Ground.data }], guard := none }) rfl (fun K hK => ?_) AllReadyH.nil)
                  rw [if_pos (by rfl)]
                  go_simp
                  go_at_call 58
                  refine (reach_n a (i : Int) va ca _ HNA.out HX.out.1 (HRA.out.grown (World.grownBy.trans HGP.out hgA)) HLA.out HJB.out).mono ?_
                  rintro e w9 ⟨rfl, hw9⟩
                  rw [hw9]
                  clear hw9 w9
                  go_wp2_with fail
                  refine hK.out _ _ (HS.out _ hgA) (fun hHeld => ?_)
                  clear hK K
                  try simp only [Act.put, List.setIfInBounds_toArray, List.set_cons_zero, List.set_cons_succ]
                  refine wpAnyH_ready (rs := [6]) (by kernel_rfl) (by simp) ?_
                  refine (AllReadyH.cons (o := { dst := some 51, op := Op.call { callee := Callee.value (Operand.func 58), args := #[Operand.tmp 49, Operand.tmp 50], argTypes := #[33, 3] }, type := 3, pos := "ref.go:75", after := #[{ on := 4, ground := Ground.data }, { on := 5, ground := Ground.data }, { on := 3, ground := Ground.chain }], guard := none }) rfl (fun K hK => ?_) AllReadyH.nil)
                  rw [if_pos (by rfl)]
                  go_simp
                  go_at_call 58
                  refine (reach_n b dK vb cb _ HNB.out HX.out.2 (HRB.out.grown (World.grownBy.trans HGP.out hgA)) HLB.out HDK.out).mono ?_
                  rintro e w9 ⟨rfl, hw9⟩
                  rw [hw9]
                  clear hw9 w9
                  go_wp2_with fail
                  refine hK.out _ _ (HS.out _ hgA) (fun hHeld => ?_)
                  clear hK K
                  try simp only [Act.put, List.setIfInBounds_toArray, List.set_cons_zero, List.set_cons_succ]
                  refine wpAnyH_ready (rs := [7]) (by kernel_rfl) (by simp) ?_
                  refine (AllReadyH.cons (o := { dst := some 52, op := Op.call { callee := Callee.value (Operand.func 57), args := #[Operand.tmp 45, Operand.tmp 48, Operand.tmp 51], argTypes := #[32, 3, 3] }, type := 40, pos := "ref.go:75", after := #[{ on := 0, ground := Ground.data }, { on := 3, ground := Ground.data }, { on := 6, ground := Ground.data }, { on := 6, ground := Ground.chain }], guard := none }) rfl (fun K hK => ?_) AllReadyH.nil)
                  rw [if_pos (by rfl)]
                  go_simp
                  go_at_call 57
                  refine (rand_at x y HR1.out HGL.out.1 HGB.out HXL.out.1 HXL.out.2 ((Hc.out.grown hgA).2.2)).mono ?_
                  rintro e wM ⟨aM, cM, rfl, hr, gM⟩
                  have hgM := World.grownBy.trans hgA gM
                  replace hz := hz.grown gM
                  go_wp2_with fail
                  refine hK.out _ _ (HS.out _ hgM) (fun hHeld => ?_)
                  clear hK K
                  try simp only [Act.put, List.setIfInBounds_toArray, List.set_cons_zero, List.set_cons_succ]
                  refine wpAnyH_take (i := 8) (oi := { dst := some 44, op := Op.move (Operand.tmp 52), type := 40, pos := "ref.go:75", after := #[{ on := 7, ground := Ground.data }], guard := none }) (v := ?_) rfl (by kernel_rfl) (by kernel_rfl) (by kernel_rfl) (fun _ _ _ h => h) (Or.inl ⟨by rfl, ?_⟩) (by assumption) ?_
                  rotate_left 1
                  · (intro W hSW; (try dsimp only at hSW); first | (go_simp; done) | (go_simp; with_reducible rfl))
                  try simp only [Act.put, List.setIfInBounds_toArray, List.set_cons_zero, List.set_cons_succ]
                  refine wpAnyH_take (i := 9) (oi := { dst := some 53, op := Op.extract (Operand.tmp 44) 0, type := 32, pos := "ref.go:75", after := #[{ on := 8, ground := Ground.data }], guard := none }) (v := ?_) rfl (by kernel_rfl) (by kernel_rfl) (by kernel_rfl) (fun _ _ _ h => h) (Or.inl ⟨by rfl, ?_⟩) (by assumption) ?_
                  rotate_left 1
                  · (intro W hSW; (try dsimp only at hSW); first | (go_simp; done) | (go_simp; with_reducible rfl))
                  try simp only [Act.put, List.setIfInBounds_toArray, List.set_cons_zero, List.set_cons_succ]
                  refine wpAnyH_take (i := 10) (oi := { dst := some 54, op := Op.extract (Operand.tmp 44) 1, type := 3, pos := "ref.go:75", after := #[{ on := 8, ground := Ground.data }, { on := 12, ground := Ground.gcOnly Departure.lateStores }], guard := none }) (v := ?_) rfl (by kernel_rfl) (by kernel_rfl) (by kernel_rfl) (fun _ _ _ h => h) (Or.inl ⟨by rfl, ?_⟩) (by assumption) ?_
                  rotate_left 1
                  · (intro W hSW; (try dsimp only at hSW); first | (go_simp; done) | (go_simp; with_reducible rfl))
                  try simp only [Act.put, List.setIfInBounds_toArray, List.set_cons_zero, List.set_cons_succ]
                  refine wpAnyH_ready (rs := [12]) (by kernel_rfl) (by simp) ?_
                  refine (AllReadyH.cons (o := { dst := none, op := Op.store 32 (Operand.tmp 13) (Operand.tmp 53), type := 0, pos := "ref.go:75", after := #[{ on := 11, ground := Ground.data }, { on := 9, ground := Ground.data }, { on := 7, ground := Ground.chain }, { on := 0, ground := Ground.phase }, { on := 1, ground := Ground.phase }, { on := 2, ground := Ground.phase }, { on := 3, ground := Ground.phase }, { on := 4, ground := Ground.phase }, { on := 5, ground := Ground.phase }, { on := 6, ground := Ground.phase }, { on := 7, ground := Ground.phase }, { on := 8, ground := Ground.phase }, { on := 9, ground := Ground.phase }, { on := 10, ground := Ground.textOnly Departure.lateStores }, { on := 11, ground := Ground.phase }], guard := none }) rfl (fun K hK => ?_) AllReadyH.nil)
                  rw [if_pos (by rfl)]
                  have z0 := hz.1
                  have zf := hz.2
                  go_simp
                  clear z0 zf
                  have hcb := CB.put hr hz.1 hz.2
                  have hgS := grown_own hgM (grown_set wM pA 0 (.slice aM g1.length cM)) (fun k hk => by cases hk; exact hge)
                  obtain ⟨WS, hWS⟩ : ∃ z, World.setCell wM ⟨pA, 0, none⟩ (.slice aM g1.length cM) = z := ⟨_, rfl⟩
                  rw [hWS] at hcb hgS  ⊢
                  clear hWS
                  refine hK.out _ _ (HS.out _ hgS) (fun hHeld => ?_)
                  clear hK K
                  try simp only [Act.put, List.setIfInBounds_toArray, List.set_cons_zero, List.set_cons_succ]
                  refine wpAnyH_take (i := 13) (oi := { dst := some 14, op := Op.assign (Operand.tmp 54), type := 3, pos := "ref.go:75", after := #[{ on := 10, ground := Ground.data }, { on := 12, ground := Ground.chain }, { on := 0, ground := Ground.phase }, { on := 1, ground := Ground.phase }, { on := 2, ground := Ground.phase }, { on := 3, ground := Ground.phase }, { on := 4, ground := Ground.phase }, { on := 5, ground := Ground.phase }, { on := 6, ground := Ground.phase }, { on := 7, ground := Ground.phase }, { on := 8, ground := Ground.phase }, { on := 9, ground := Ground.phase }, { on := 10, ground := Ground.phase }, { on := 11, ground := Ground.phase }, { on := 12, ground := Ground.phase }], guard := none }) (v := ?_) rfl (by kernel_rfl) (by kernel_rfl) (by kernel_rfl) (fun _ _ _ h => h) (Or.inl ⟨by rfl, ?_⟩) (by assumption) ?_
                  rotate_left 1
                  · (intro W hSW; (try dsimp only at hSW); first | (go_simp; done) | (go_simp; with_reducible rfl))
                  try simp only [Act.put, List.setIfInBounds_toArray, List.set_cons_zero, List.set_cons_succ]
                  refine wpAnyH_done (by kernel_rfl) ?_ _
                  have hEND := hgS
                  clear hHeld
                  go_wp2_with fail
                  go_meet
                  exact ⟨pA, aM, cM, rfl, rfl, hge, hcb, hEND⟩
            obtain ⟨bd, ad, cd, rfl, rfl, _, hcbd, gwc⟩ := hcut
            obtain ⟨V, rfl⟩ : ∃ z, z = wc := ⟨_, rfl⟩
            have HD := Lib.hid hcbd
            have HM1 := Lib.hid (HMS.out.grown gwc)
            have HO1 := Lib.hid (And.intro (own_grown HOI.out.1 gwc) (Nat.le_trans HOI.out.2 gwc.size))
            clear hcbd gwc
            go_upto_region 12 with fail
            have q1 := HD.out.1
            go_wp2_with fail
            refine (HOR.out V ad cd HD.out.2.2).mono ?_
            rintro e V2 ⟨a2, c2, rfl, hr2, gv2⟩
            clear q1
            go_upto_region 13 with fail
            have hg3 := World.grownBy_alloc V2 (.cells #[.slice a2 g2.length c2] 32) none
            have hcb3 := CB.new hr2
            have HM2 := Lib.hid (HM1.out.grown (World.grownBy.trans gv2 hg3))
            have HO2 := Lib.hid (And.intro (own_grown HO1.out.1 (World.grownBy.trans gv2 hg3)) (Nat.le_trans HO1.out.2 (World.grownBy.trans gv2 hg3).size))
            obtain ⟨V3, hV3⟩ : ∃ z, V2.alloc (.cells #[.slice a2 g2.length c2] 32) = z := ⟨_, rfl⟩
            rw [hV3] at HM2 HO2 hcb3 ⊢
            have HE := Lib.hid hcb3
            clear hV3 hg3 gv2 hr2 hcb3
            have q2 := HE.out.1
            have z0 := HM2.out.cb.1
            have zf := HM2.out.cb.2.1
            have HM4 := Lib.hid (HM2.out.put HLO.out.1 HLO.out.2.2.1 HE.out.2.2)
            have HO4 := Lib.hid (And.intro (HO2.out.1.kept (grown_set V3 bc 0 (.slice a2 g2.length c2)) (own_ne HO2.out.1 (by have := HLO.out; have := HBC.out; omega))) (Nat.le_trans HO2.out.2 (grown_set V3 bc 0 (.slice a2 g2.length c2)).size))
            go_wp2_with fail
            clear q2 z0 zf
            go_roundg (cnt - 1)
            case measure => rw [HI.out]; have := HCP.out; omega
            case rel => exact ⟨i + 1, cnt - 1, r2, g2, a2, c2, rfl, rfl, rfl, HIC1.out, HRU2.out, HR2.out, HL2.out, HM4.out, HO4.out.1, HO4.out.2⟩
        · have f1 : decide (i ≤ la) = false := decide_eq_false hia
          have f2 : decide ((i : Int) ≤ (la : Int)) = false := decide_eq_false (by omega)
          have hc0 : cnt = 0 := by have := HIC.out; omega
          have HRG := Lib.hid (show r = rp ∧ g = gp from by
            have h := HRU.out
            rw [hc0] at h
            injection h with h1 h2
            exact ⟨h2, h1⟩)
          have hk1 : IntKind.i64.wrap ((k : Int) + 1) = ((k + 1 : Nat) : Int) := by rw [IntWalk.i64_in _ (by omega)]; omega
          clear hc0 hia
          go_upto_region 15 with fail
          clear f1 f2
          go_wp2_with (at_builtin; refine wpList_append_own_at _ rfl _ _ 33 rfl B 3 i0 (.int .i64 0) 1 8 Try.underlying33 hi0 hz0 hz1 hz2 rfl (by decide) _ j (intCells out) rfl (HOI.out.1.alloc _) ⟨wp.heap.size, 0, none⟩ 1 1 [.int .i64 r] rfl rfl (cell_one_new _ _ _) (fun u hu => by simp at hu; subst hu; rfl) (by unfold maxLen; omega) (by omega) (by have := HOI.out.2; simp; omega) ?_)
          intro v' w6 hown' hgrow6 _ hat6
          obtain ⟨rgA, rcA, rfl⟩ := own_shape hown'
          have haA := World.grownBy_alloc wp (.cells #[.int .i64 r] 3) none
          have HM6 := Lib.hid ((HMS.out.grown haA).past (B := B) (by have := HBC.out; omega) (by have := HLO.out; omega) (by have := HLO.out; omega) (HOI.out.1.alloc _) (by decide) hgrow6)
          have HO6 := Lib.hid (show w6.ownsRow B 3 1 (.slice rgA (j + 1) rcA) (j + 1) (intCells (out ++ [r])) ∧ B ≤ w6.heap.size from ⟨by rw [intCells, List.map_append]; exact hown', Nat.le_trans (Nat.le_trans HOI.out.2 haA.size) hgrow6.size⟩)
          clear hown' hgrow6 haA hat6
          go_wp2_with fail
          go_roundg (n - (j + 1))
          case measure => rw [HI0.out]; have := HK.out; omega
          case rel => exact ⟨j + 1, rgA, rcA, out ++ [r], g, ac, cg, rfl, by rw [HK.out]; simp, rfl, by have := HK.out; omega, by rw [HRG.out.1, HRG.out.2, HK.out]; exact HRN.out, by rw [List.length_append, HOL.out]; rfl, HGL.out.1, by rw [HK.out]; have := HGL.out.2; omega, HM6.out, HO6.out.1, HO6.out.2⟩
    · have f1 : decide ((k : Int) ≤ (n : Int)) = false := decide_eq_false (by omega)
      have f2 : decide (k ≤ n) = false := decide_eq_false hkn
      have hjn' : j = n := by omega
      have HFIN := Lib.hid (show out = l9 ∧ gj = g9 from by
        have h := HRJ.out
        rw [hjn', Nat.sub_self] at h
        injection h with h1 h2
        exact ⟨h2, h1⟩)
      clear hk hcj hgj
      subst hjn'
      clear hkn
      have q1 := HSJ.out.cb.1
      have z0 := HSJ.out.z.1
      have zf := HSJ.out.z.2
      have HFW := Lib.hid (HSJ.out.cb.2.2.set HSJ.out.z.1 (.slice ac0 gj.length cg0))
      have HFC := Lib.hid (World.cell?_setCell_same wr ⟨bR, 0, none⟩ (.slice ac0 gj.length cg0) HSJ.out.z.1)
      have HFG := Lib.hid (grown_own HSJ.out.go (grown_set wr bR 0 (.slice ac0 gj.length cg0)) (fun x e => by cases e; exact HLO.out.2.1))
      have HFR := Lib.hid (show IntsW (wr.setCell ⟨bR, 0, none⟩ (.slice ac0 gj.length cg0)) vo co out from by
        have h1 := HOW.out.1
        have h2 := IntsN.weak (IntsN.own (N := fun _ => False) HOL.out h1 (fun k _ h => h))
        exact h2.set HSJ.out.z.1 _)
      go_wp2_with fail
      clear q1 z0 zf
      refine bodyPost_ret (resB43 _ _ bR ac0 gj.length cg0 _ rfl rfl HFC.out) rfl ?_
      rw [← HFIN.out.1, ← HFIN.out.2]
      exact ⟨ac0, cg0, vo, co, by rw [HOL.out]; rfl, HFW.out, HFR.out, HFG.out⟩
end Go.Proofs.Ythagoihpppppkaa
