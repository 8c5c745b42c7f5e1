/- The law of default bounds. -/
import Derived.Test.YtbddpjofhddilaaNWV
namespace Go.Proofs.Ytbddpjofhddilaa
open Go.RowKit

set_option maxRecDepth 100000 in
set_option maxHeartbeats 16000000 in
theorem default_law_calls (hh : HeadSays9) (s1 : Option Addr) (ns c1 : Nat) (F : List Fd) (fa : Option Addr) (fc : Nat) (s3 : Option Addr) (n3 q3 : Nat) (s4 : Option Addr) (n4 q4 : Nat) (us : List Int) (sa : Option Addr) (sc : Nat) (st : Int) (raw0 : List (List Nat)) (ra0 : Option Addr) (rc0 : Nat)  (w : World)
    (hF : Fields w fa fc F) (hFl : (F.length : Int) ≤ 9223372036854775807) (hu : Ints w sa sc us) (hul : (us.length : Int) ≤ 9223372036854775807) (hr0 : Raws w ra0 rc0 raw0) (hro0 : RawOk raw0)  :
    Calls Try.prog 11 #[.agg #[.slice s1 ns c1, .slice fa F.length fc, .slice s3 n3 q3, .slice s4 n4 q4], .agg #[.slice sa us.length sc, .int .i64 st], .slice ra0 raw0.length rc0] w fun e w' => e = .returned (.bool true) ∧ w.grownBy w' none := by
  obtain ⟨n, hn⟩ : ∃ n, us.length = n := ⟨_, rfl⟩
  obtain ⟨f, hf⟩ : ∃ k, F.length = k := ⟨_, rfl⟩
  obtain ⟨rn0, hrn0⟩ : ∃ k, raw0.length = k := ⟨_, rfl⟩
  have HFI := Lib.hid (fun (U : World) (g : w.grownBy U none) => fitsS_calls s1 fa s3 s4 ns c1 fc n3 q3 n4 q4 F us sa sc st U (hF.grown g) (hu.grown g) hul hFl)
  rw [hn, hf] at HFI
  have HBN := Lib.hid (Bx9.new w (.slice s1 ns c1) (.slice fa f fc) (.slice s3 n3 q3) (.slice s4 n4 q4) (.slice sa n sc) (.int .i64 st))
  have HN := Lib.hid (And.intro hn (And.intro hf (And.intro hF hu)))
  have HRW := Lib.hid ((And.intro hr0 (And.intro hro0 hrn0)))
  rw [hn, hf, hrn0]
  clear hn hf hF hu hFl hul hr0 hro0 hrn0
  obtain ⟨W, hW⟩ : ∃ W, (w.alloc (.cells #[.slice s1 ns c1, .slice fa f fc, .slice s3 n3 q3, .slice s4 n4 q4] 27)).alloc (.cells #[.slice sa n sc, .int .i64 st] 30) = W := ⟨_, rfl⟩
  rw [hW] at HBN
  obtain ⟨g0, hg0⟩ : ∃ g, w.heap.size = g := ⟨_, rfl⟩
  have HW := Lib.hid (And.intro hW hg0)
  rw [hg0] at HBN
  clear hW
  go_enter Try.func11, Try.ntmps11
  go_wp2_with fail
  rw [HW.out.1]
  clear hg0
  refine (hh W).mono ?_
  rintro e w0 ⟨rfl, gh⟩
  have HG := Lib.hid (HBN.out.2.trans gh)
  have HB := Lib.hid (HBN.out.1.grown gh)
  clear gh HBN
  clear HW
  have hbx := HB.out
  obtain ⟨a0, a1, a2, a3, b0, b1⟩ := hbx
  go_wp2_with fail
  clear a0 a1 a2 a3 b0 b1
  refine (HFI.out w0 HG.out).mono ?_
  rintro e w1 ⟨rfl, gh⟩
  replace HB := Lib.hid (HB.out.grown gh)
  replace HG := Lib.hid (HG.out.trans gh)
  clear gh HFI
  obtain ⟨Q, hQ⟩ : ∃ Q, fitsS ns F us st = Q := ⟨_, rfl⟩
  rw [hQ]
  cases Q with
  | false =>
    clear hQ
    go_wp2_with fail
    go_ret
    exact ⟨rfl, HG.out⟩
  | true =>
  obtain ⟨hz0, hz5, hz4, hf6, hff, hfit, hs12, hu4⟩ := fits_setup hQ
  have HNU := Lib.hid (fun (U : World) (g : w.grownBy U none) => (HN.out.2.2.2.grown g).nums hz0)
  have HDEF := Lib.hid (defOk (F := F) hz5 (fun f hf => (hff f hf).2))
  have hzl : (us.map Int.toNat).length = n := by rw [List.length_map]; exact HN.out.1
  have HST := Lib.hid (And.intro hs12 (And.intro hff hfit))
  have HMD0 := Lib.hid (fun (U : World) (g : w.grownBy U none) => by
    have h := made_calls s1 fa s3 s4 ns c1 fc n3 q3 n4 q4 F (us.map Int.toNat) sa sc st raw0 ra0 rc0 U (HN.out.2.2.1.grown g) (HNU.out U g) hz5 hz4 (by omega) hff hfit (HRW.out.1.grown g) HRW.out.2.1
    rw [hzl, HN.out.2.1, HRW.out.2.2] at h
    exact h)
  have hdl : (F.map (defX (us.map Int.toNat))).length = f := by rw [List.length_map]; exact HN.out.2.1
  have hn6 : f ≤ 6 := by rw [← HN.out.2.1]; exact hf6
  have HDF := Lib.hid (fun (U : World) (g : w.grownBy U none) => by
    have h := default_calls s1 fa s3 s4 ns c1 fc n3 q3 n4 q4 F (us.map Int.toNat) sa sc st U (HN.out.2.2.1.grown g) (HNU.out U g) hz5 hz4 (by omega) hff
    rw [hzl, HN.out.2.1] at h
    exact h)
  have HVA := Lib.hid (fun (U : World) (X : List Bd) (xa : Option Addr) (xc : Nat) (g : w.grownBy U none) (hx : Bds U xa xc X) (hgx : GoodL X (F.map (defX (us.map Int.toNat)))) (hxl : ∀ x ∈ X, x.1.2.length ≤ 125 ∧ x.2.2.length ≤ 125) (hxf : X.length = f) =>
    validG (s1 := s1) (s3 := s3) (s4 := s4) (ns := ns) (c1 := c1) (n3 := n3) (c3 := q3) (n4 := n4) (c4 := q4) (st := st) (HN.out.2.2.1.grown g) (HNU.out U g) hz5 hz4 hx hf6 hff hxl hzl HN.out.2.1 hxf (valid_good hz5 hs12 hff hfit hgx))
  clear hQ hz0 hs12 hu4
  obtain ⟨DB, hDB⟩ : ∃ D, F.map (defX (us.map Int.toNat)) = D := ⟨_, rfl⟩
  rw [hDB] at HMD0 HDEF hdl HDF HVA
  clear hDB
  obtain ⟨A, hA⟩ : ∃ D, madeL raw0 DB = D := ⟨_, rfl⟩
  rw [hA] at HMD0
  have hGA : GoodL A DB := by rw [← hA]; exact goodL_made HDEF.out
  have hGD : GoodL DB DB := goodL_def HDEF.out
  have hla := goodL_len hGA HDEF.out
  have hld := goodL_len hGD HDEF.out
  have HA := Lib.hid (And.intro hGA (And.intro hla (hGA.1.trans hdl)))
  have HD := Lib.hid (And.intro hGD (And.intro hld hdl))
  clear hA hGA hGD hla hld hdl hz5 hz4 hff hfit hzl hf6
  have hbx := HB.out
  obtain ⟨a0, a1, a2, a3, b0, b1⟩ := hbx
  go_wp2_with fail
  clear a0 a1 a2 a3 b0 b1
  refine (HDF.out _ HG.out).mono ?_
  rintro e v2 ⟨ad, cd, rfl, hsp, gh⟩
  replace HB := Lib.hid (HB.out.grown gh)
  replace HG := Lib.hid (HG.out.trans gh)
  clear gh
  have HMD := Lib.hid hsp.here
  clear hsp
  have hbx := HB.out
  obtain ⟨a0, a1, a2, a3, b0, b1⟩ := hbx
  go_wp2_with fail
  clear a0 a1 a2 a3 b0 b1
  refine (HMD0.out _ HG.out).mono ?_
  rintro e v3 ⟨aa, ca, rfl, hsp, gh⟩
  replace HB := Lib.hid (HB.out.grown gh)
  replace HMD := Lib.hid (HMD.out.grown gh)
  replace HG := Lib.hid (HG.out.trans gh)
  clear gh
  have HMA := Lib.hid hsp.here
  clear hsp
  have hbx := HB.out
  obtain ⟨a0, a1, a2, a3, b0, b1⟩ := hbx
  go_wp2_with fail
  clear a0 a1 a2 a3 b0 b1
  refine (HVA.out _ DB ad cd HG.out HMD.out HD.out.1 HD.out.2.1 HD.out.2.2).mono ?_
  rintro e v4 ⟨rfl, gh⟩
  replace HB := Lib.hid (HB.out.grown gh)
  replace HMD := Lib.hid (HMD.out.grown gh)
  replace HMA := Lib.hid (HMA.out.grown gh)
  replace HG := Lib.hid (HG.out.trans gh)
  clear gh
  have hbx := HB.out
  obtain ⟨a0, a1, a2, a3, b0, b1⟩ := hbx
  go_wp2_with fail
  clear a0 a1 a2 a3 b0 b1
  refine (HVA.out _ A aa ca HG.out HMA.out HA.out.1 HA.out.2.1 HA.out.2.2).mono ?_
  rintro e v5 ⟨rfl, gh⟩
  replace HB := Lib.hid (HB.out.grown gh)
  replace HMD := Lib.hid (HMD.out.grown gh)
  replace HMA := Lib.hid (HMA.out.grown gh)
  replace HG := Lib.hid (HG.out.trans gh)
  clear gh
  go_wp2_with fail
  go_loopg [10, 11] f (fun g s10 s11 wr => ∃ i : Nat, s10 = .int .i64 (upTo DB i : Nat) ∧ s11 = .int .i64 (i : Int) ∧ g = f - i ∧ i ≤ f ∧ v5.grownBy wr none)
  case atStart => exact ⟨0, rfl, rfl, rfl, Nat.zero_le _, grown_refl _ _⟩
  case round =>
    obtain ⟨i, rfl, rfl, hgi, hi, hgr⟩ := hrel
    replace HB := Lib.hid (HB.out.grown hgr)
    replace HMD := Lib.hid (HMD.out.grown hgr)
    replace HMA := Lib.hid (HMA.out.grown hgr)
    replace HG := Lib.hid (HG.out.trans hgr)
    have HI := Lib.hid (And.intro hgi hgr); clear hgi hgr
    by_cases hin : i < f
    · have hinB : decide (i < f) = true := by simpa using hin
      have hinI : (i : Int) < (f : Int) := by omega
      obtain ⟨x, hx⟩ : ∃ x, DB[i]? = some x := ⟨_, List.getElem?_eq_getElem (by rw [HD.out.2.2]; exact hin)⟩
      obtain ⟨b, o, rfl, hbx⟩ := HMD.out.2 i x hx
      obtain ⟨a1, k1, a2, k2, x0, x1, x2, x3, i1, i2⟩ := hbx.parts
      obtain ⟨p, hp⟩ : ∃ p, x.2.2.length = p := ⟨_, rfl⟩
      obtain ⟨u, hu⟩ : ∃ u, upTo DB i = u := ⟨_, rfl⟩
      have hul := upTo_le HD.out.2.1 i
      have hpl := (HD.out.2.1 x (List.mem_of_getElem? hx)).2
      have HX : Hid (upTo DB (i + 1) = u + p) := Lib.hid (by rw [upTo_succ hx, hu, hp])
      rw [hp] at x3 hpl
      rw [hu] at hul
      rw [hu]
      clear hx i1 i2 x0 x1 x2 hp hu
      go_wp2_with fail
      go_roundg (f - (i + 1))
      case measure => rw [HI.out.1]; omega
      case rel => exact ⟨i + 1, by rw [HX.out, Int.natCast_add], rfl, rfl, by omega, HI.out.2⟩
    · have hie : i = f := by omega
      subst hie
      have hinB : decide (i < i) = false := by simp
      obtain ⟨tot, htot⟩ : ∃ k, upTo DB i = k := ⟨_, rfl⟩
      have HF : Hid ((freeTo DB i).length = tot) := Lib.hid ((free_def HDEF.out i).trans htot)
      rw [htot]
      clear htot HI
      go_wp2_with fail
      refine (meetG HMA.out HMD.out HA.out.2.2 HD.out.2.2 hn6 HA.out.2.1 HD.out.2.1 (meetR_def HA.out.1 HDEF.out).1 HA.out.2.2).mono ?_
      rintro e v6 ⟨ax, cx, rfl, hsp, gh⟩
      replace HB := Lib.hid (HB.out.grown gh)
      replace HMD := Lib.hid (HMD.out.grown gh)
      replace HMA := Lib.hid (HMA.out.grown gh)
      replace HG := Lib.hid (HG.out.trans gh)
      clear gh
      have HMX := Lib.hid hsp
      clear hsp
      go_wp2_with fail
      refine (meetG HMD.out HMA.out HD.out.2.2 HA.out.2.2 hn6 HD.out.2.1 HA.out.2.1 (meetR_def HA.out.1 HDEF.out).2 HA.out.2.2).mono ?_
      rintro e v7 ⟨ay, cy, rfl, hsp, gh⟩
      replace HB := Lib.hid (HB.out.grown gh)
      replace HMD := Lib.hid (HMD.out.grown gh)
      replace HMA := Lib.hid (HMA.out.grown gh)
      replace HMX := Lib.hid (HMX.out.grown gh)
      replace HG := Lib.hid (HG.out.trans gh)
      clear gh
      have HMY := Lib.hid hsp
      clear hsp
      go_wp2_with fail
      refine (freeG HMD.out HD.out.2.2 hn6 HD.out.2.1 HF.out).mono ?_
      rintro e v8 ⟨r1, q1, rfl, hfr, gh⟩
      replace HB := Lib.hid (HB.out.grown gh)
      replace HMD := Lib.hid (HMD.out.grown gh)
      replace HMA := Lib.hid (HMA.out.grown gh)
      replace HMX := Lib.hid (HMX.out.grown gh)
      replace HMY := Lib.hid (HMY.out.grown gh)
      replace HG := Lib.hid (HG.out.trans gh)
      clear gh
      clear hfr
      go_wp2_with fail
      refine (equalG HMX.out HMA.out HA.out.2.2 HA.out.2.2 hn6 HA.out.2.1 HA.out.2.1 (decide_eq_true rfl)).mono ?_
      rintro e v9 ⟨rfl, gh⟩
      replace HB := Lib.hid (HB.out.grown gh)
      replace HMD := Lib.hid (HMD.out.grown gh)
      replace HMA := Lib.hid (HMA.out.grown gh)
      replace HMX := Lib.hid (HMX.out.grown gh)
      replace HMY := Lib.hid (HMY.out.grown gh)
      replace HG := Lib.hid (HG.out.trans gh)
      clear gh
      go_wp2_with fail
      refine (equalG HMY.out HMA.out HA.out.2.2 HA.out.2.2 hn6 HA.out.2.1 HA.out.2.1 (decide_eq_true rfl)).mono ?_
      rintro e v10 ⟨rfl, gh⟩
      replace HB := Lib.hid (HB.out.grown gh)
      replace HMD := Lib.hid (HMD.out.grown gh)
      replace HMA := Lib.hid (HMA.out.grown gh)
      replace HMX := Lib.hid (HMX.out.grown gh)
      replace HMY := Lib.hid (HMY.out.grown gh)
      replace HG := Lib.hid (HG.out.trans gh)
      clear gh
      go_wp2_with fail
      go_ret
      exact ⟨rfl, HG.out⟩
end Go.Proofs.Ytbddpjofhddilaa
