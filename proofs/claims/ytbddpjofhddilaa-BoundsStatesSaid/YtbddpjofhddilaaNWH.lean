/- The law of the states of bounds. -/
import Derived.Test.YtbddpjofhddilaaNWN
namespace Go.Proofs.Ytbddpjofhddilaa
open Go.RowKit

set_option maxRecDepth 100000 in
set_option maxHeartbeats 16000000 in
theorem states_law_calls (hh : HeadSays9) (s1 : Option Addr) (ns c1 : Nat) (F : List Fd) (fa : Option Addr) (fc : Nat) (s3 : Option Addr) (n3 q3 : Nat) (s4 : Option Addr) (n4 q4 : Nat) (us : List Int) (sa : Option Addr) (sc : Nat) (st : Int) (raw0 : List (List Nat)) (ra0 : Option Addr) (rc0 : Nat) (raw1 : List (List Nat)) (ra1 : Option Addr) (rc1 : Nat) (pk0 : List Bool) (pa0 : Option Addr) (pc0 : Nat) (pk1 : List Bool) (pa1 : Option Addr) (pc1 : Nat) (w : World)
    (hF : Fields w fa fc F) (hFl : (F.length : Int) ≤ 9223372036854775807) (hu : Ints w sa sc us) (hul : (us.length : Int) ≤ 9223372036854775807) (hr0 : Raws w ra0 rc0 raw0) (hro0 : RawOk raw0) (hr1 : Raws w ra1 rc1 raw1) (hro1 : RawOk raw1) (hp0 : Bools w pa0 pc0 pk0) (hpl0 : (pk0.length : Int) ≤ 9223372036854775807) (hp1 : Bools w pa1 pc1 pk1) (hpl1 : (pk1.length : Int) ≤ 9223372036854775807) :
    Calls Try.prog 14 #[.agg #[.slice s1 ns c1, .slice fa F.length fc, .slice s3 n3 q3, .slice s4 n4 q4], .agg #[.slice sa us.length sc, .int .i64 st], .slice ra0 raw0.length rc0, .slice ra1 raw1.length rc1, .slice pa0 pk0.length pc0, .slice pa1 pk1.length pc1] w fun e w' => e = .returned (.bool true) ∧ w.grownBy w' none := by
  obtain ⟨n, hn⟩ : ∃ n, us.length = n := ⟨_, rfl⟩
  obtain ⟨f, hf⟩ : ∃ k, F.length = k := ⟨_, rfl⟩
  obtain ⟨rn0, hrn0⟩ : ∃ k, raw0.length = k := ⟨_, rfl⟩
  obtain ⟨rn1, hrn1⟩ : ∃ k, raw1.length = k := ⟨_, rfl⟩
  obtain ⟨pn0, hpn0⟩ : ∃ k, pk0.length = k := ⟨_, rfl⟩
  have HPK0 := Lib.hid (And.intro hp0 (And.intro hpl0 hpn0))
  obtain ⟨pn1, hpn1⟩ : ∃ k, pk1.length = k := ⟨_, rfl⟩
  have HPK1 := Lib.hid (And.intro hp1 (And.intro hpl1 hpn1))
  have HFI := Lib.hid (fun (U : World) (g : w.grownBy U none) => fitsS_calls s1 fa s3 s4 ns c1 fc n3 q3 n4 q4 F us sa sc st U (hF.grown g) (hu.grown g) hul hFl)
  rw [hn, hf] at HFI
  have HBN := Lib.hid (Bx9.new w (.slice s1 ns c1) (.slice fa f fc) (.slice s3 n3 q3) (.slice s4 n4 q4) (.slice sa n sc) (.int .i64 st))
  have HN := Lib.hid (And.intro hn (And.intro hf (And.intro hF hu)))
  have HRW := Lib.hid ((And.intro (And.intro hr0 (And.intro hro0 hrn0)) (And.intro hr1 (And.intro hro1 hrn1))))
  rw [hn, hf, hrn0, hrn1, hpn0, hpn1]
  clear hn hf hF hu hFl hul hr0 hro0 hrn0 hr1 hro1 hrn1 hp0 hpl0 hpn0 hp1 hpl1 hpn1
  obtain ⟨W, hW⟩ : ∃ W, (w.alloc (.cells #[.slice s1 ns c1, .slice fa f fc, .slice s3 n3 q3, .slice s4 n4 q4] 27)).alloc (.cells #[.slice sa n sc, .int .i64 st] 30) = W := ⟨_, rfl⟩
  rw [hW] at HBN
  obtain ⟨g0, hg0⟩ : ∃ g, w.heap.size = g := ⟨_, rfl⟩
  have HW := Lib.hid (And.intro hW hg0)
  rw [hg0] at HBN
  clear hW
  go_enter Try.func14, Try.ntmps14
  go_wp2_with fail
  rw [HW.out.1]
  clear hg0
  refine (hh W).mono ?_
  rintro e w0 ⟨rfl, gh⟩
  have HG := Lib.hid (HBN.out.2.trans gh)
  have HB := Lib.hid (HBN.out.1.grown gh)
  clear gh HBN
  clear HW
  have hbx := HB.out
  obtain ⟨a0, a1, a2, a3, b0, b1⟩ := hbx
  go_wp2_with fail
  clear a0 a1 a2 a3 b0 b1
  refine (HFI.out w0 HG.out).mono ?_
  rintro e w1 ⟨rfl, gh⟩
  replace HB := Lib.hid (HB.out.grown gh)
  replace HG := Lib.hid (HG.out.trans gh)
  clear gh HFI
  obtain ⟨Q, hQ⟩ : ∃ Q, fitsS ns F us st = Q := ⟨_, rfl⟩
  rw [hQ]
  cases Q with
  | false =>
    clear hQ
    go_wp2_with fail
    go_ret
    exact ⟨rfl, HG.out⟩
  | true =>
  obtain ⟨hz0, hz5, hz4, hf6, hff, hfit, hs12, hu4⟩ := fits_setup hQ
  have HNU := Lib.hid (fun (U : World) (g : w.grownBy U none) => (HN.out.2.2.2.grown g).nums hz0)
  have HDEF := Lib.hid (defOk (F := F) hz5 (fun f hf => (hff f hf).2))
  have hzl : (us.map Int.toNat).length = n := by rw [List.length_map]; exact HN.out.1
  have HST := Lib.hid (And.intro hs12 (And.intro hff hfit))
  have HMD0 := Lib.hid (fun (U : World) (g : w.grownBy U none) => by
    have h := made_calls s1 fa s3 s4 ns c1 fc n3 q3 n4 q4 F (us.map Int.toNat) sa sc st raw0 ra0 rc0 U (HN.out.2.2.1.grown g) (HNU.out U g) hz5 hz4 (by omega) hff hfit (HRW.out.1.1.grown g) HRW.out.1.2.1
    rw [hzl, HN.out.2.1, HRW.out.1.2.2] at h
    exact h)
  have HMD1 := Lib.hid (fun (U : World) (g : w.grownBy U none) => by
    have h := made_calls s1 fa s3 s4 ns c1 fc n3 q3 n4 q4 F (us.map Int.toNat) sa sc st raw1 ra1 rc1 U (HN.out.2.2.1.grown g) (HNU.out U g) hz5 hz4 (by omega) hff hfit (HRW.out.2.1.grown g) HRW.out.2.2.1
    rw [hzl, HN.out.2.1, HRW.out.2.2.2] at h
    exact h)
  have hdl : (F.map (defX (us.map Int.toNat))).length = f := by rw [List.length_map]; exact HN.out.2.1
  have hn6 : f ≤ 6 := by rw [← HN.out.2.1]; exact hf6
  clear hQ hz0 hs12 hu4
  obtain ⟨DB, hDB⟩ : ∃ D, F.map (defX (us.map Int.toNat)) = D := ⟨_, rfl⟩
  rw [hDB] at HMD0 HMD1 HDEF hdl
  clear hDB
  obtain ⟨A, hA⟩ : ∃ D, madeL raw0 DB = D := ⟨_, rfl⟩
  obtain ⟨B, hB⟩ : ∃ D, madeL raw1 DB = D := ⟨_, rfl⟩
  rw [hA] at HMD0
  rw [hB] at HMD1
  have hGA : GoodL A DB := by rw [← hA]; exact goodL_made HDEF.out
  have hGB : GoodL B DB := by rw [← hB]; exact goodL_made HDEF.out
  have hla := goodL_len hGA HDEF.out
  have hlb := goodL_len hGB HDEF.out
  have HA := Lib.hid (And.intro hGA (And.intro hla (hGA.1.trans hdl)))
  have HBB := Lib.hid (And.intro hGB (And.intro hlb (hGB.1.trans hdl)))
  clear hA hB hGA hGB hla hlb hdl hz5 hz4 hff hfit hzl hf6
  have hbx := HB.out
  obtain ⟨a0, a1, a2, a3, b0, b1⟩ := hbx
  go_wp2_with fail
  clear a0 a1 a2 a3 b0 b1
  refine (HMD0.out _ HG.out).mono ?_
  rintro e v2 ⟨aa, ca, rfl, hsp, gh⟩
  replace HB := Lib.hid (HB.out.grown gh)
  replace HG := Lib.hid (HG.out.trans gh)
  clear gh
  have HMA := Lib.hid hsp.here
  clear hsp
  go_wp2_with fail
  refine (insideG HMA.out (HPK0.out.1.grown HG.out) HA.out.2.2 hn6 HA.out.2.1 HA.out.1 HPK0.out.2.1 HPK0.out.2.2).mono ?_
  rintro e v3 ⟨xa, xc, rfl, hsp, gh⟩
  replace HB := Lib.hid (HB.out.grown gh)
  replace HMA := Lib.hid (HMA.out.grown gh)
  replace HG := Lib.hid (HG.out.trans gh)
  clear gh
  have HMX := Lib.hid hsp
  clear hsp
  have hbx := HB.out
  obtain ⟨a0, a1, a2, a3, b0, b1⟩ := hbx
  go_wp2_with fail
  clear a0 a1 a2 a3 b0 b1
  refine (HMD1.out _ HG.out).mono ?_
  rintro e v4 ⟨ab, cb, rfl, hsp, gh⟩
  replace HB := Lib.hid (HB.out.grown gh)
  replace HMA := Lib.hid (HMA.out.grown gh)
  replace HMX := Lib.hid (HMX.out.grown gh)
  replace HG := Lib.hid (HG.out.trans gh)
  clear gh
  have HMB := Lib.hid hsp.here
  clear hsp
  go_wp2_with fail
  refine (insideG HMB.out (HPK1.out.1.grown HG.out) HBB.out.2.2 hn6 HBB.out.2.1 HBB.out.1 HPK1.out.2.1 HPK1.out.2.2).mono ?_
  rintro e v5 ⟨ya, yc, rfl, hsp, gh⟩
  replace HB := Lib.hid (HB.out.grown gh)
  replace HMA := Lib.hid (HMA.out.grown gh)
  replace HMX := Lib.hid (HMX.out.grown gh)
  replace HMB := Lib.hid (HMB.out.grown gh)
  replace HG := Lib.hid (HG.out.trans gh)
  clear gh
  have HMY := Lib.hid hsp
  clear hsp
  go_wp2_with fail
  refine (contains1G HMA.out HA.out.2.2 hn6 HA.out.2.1 HMX.out ((insS_len _ _).trans HA.out.2.2) (insS_rows HA.out.2.1) (insS_in HA.out.1 pk0)).mono ?_
  rintro e v6 ⟨rfl, gh⟩
  replace HB := Lib.hid (HB.out.grown gh)
  replace HMA := Lib.hid (HMA.out.grown gh)
  replace HMX := Lib.hid (HMX.out.grown gh)
  replace HMB := Lib.hid (HMB.out.grown gh)
  replace HMY := Lib.hid (HMY.out.grown gh)
  replace HG := Lib.hid (HG.out.trans gh)
  clear gh
  go_wp2_with fail
  obtain ⟨Q2, hQ2⟩ : ∃ Q, allB withinB A (insS pk1 B) = Q := ⟨_, rfl⟩
  have HQ2 := Lib.hid hQ2
  clear hQ2
  refine (contains1G HMA.out HA.out.2.2 hn6 HA.out.2.1 HMY.out ((insS_len _ _).trans HBB.out.2.2) (insS_rows HBB.out.2.1) HQ2.out).mono ?_
  rintro e v7 ⟨rfl, gh⟩
  replace HB := Lib.hid (HB.out.grown gh)
  replace HMA := Lib.hid (HMA.out.grown gh)
  replace HMX := Lib.hid (HMX.out.grown gh)
  replace HMB := Lib.hid (HMB.out.grown gh)
  replace HMY := Lib.hid (HMY.out.grown gh)
  replace HG := Lib.hid (HG.out.trans gh)
  clear gh
  go_wp2_with fail
  refine (contains3G HMA.out HA.out.2.2 hn6 HA.out.2.1 HMX.out ((insS_len _ _).trans HA.out.2.2) (insS_rows HA.out.2.1) HMY.out ((insS_len _ _).trans HBB.out.2.2) (insS_rows HBB.out.2.1) (insS_in HA.out.1 pk0) HQ2.out).mono ?_
  rintro e v8 ⟨rfl, gh⟩
  replace HB := Lib.hid (HB.out.grown gh)
  replace HMA := Lib.hid (HMA.out.grown gh)
  replace HMX := Lib.hid (HMX.out.grown gh)
  replace HMB := Lib.hid (HMB.out.grown gh)
  replace HMY := Lib.hid (HMY.out.grown gh)
  replace HG := Lib.hid (HG.out.trans gh)
  clear gh
  clear HQ2
  cases Q2
  · have hqq : (true && (false && true)) = false := rfl
    rw [hqq]
    go_wp2_with fail
    refine (containsG HMA.out HA.out.2.2 hn6 HA.out.2.1 (sts_nil _) rfl (Nat.zero_le _) (fun l hl => by cases hl) rfl).mono ?_
    rintro e v9 ⟨rfl, gh⟩
    replace HB := Lib.hid (HB.out.grown gh)
    replace HMA := Lib.hid (HMA.out.grown gh)
    replace HMX := Lib.hid (HMX.out.grown gh)
    replace HMB := Lib.hid (HMB.out.grown gh)
    replace HMY := Lib.hid (HMY.out.grown gh)
    replace HG := Lib.hid (HG.out.trans gh)
    clear gh
    go_wp2_with fail
    go_ret
    exact ⟨rfl, HG.out⟩
  · have hqq : (true && (true && true)) = true := rfl
    rw [hqq]
    go_wp2_with fail
    refine (containsG HMA.out HA.out.2.2 hn6 HA.out.2.1 (sts_nil _) rfl (Nat.zero_le _) (fun l hl => by cases hl) rfl).mono ?_
    rintro e v9 ⟨rfl, gh⟩
    replace HB := Lib.hid (HB.out.grown gh)
    replace HMA := Lib.hid (HMA.out.grown gh)
    replace HMX := Lib.hid (HMX.out.grown gh)
    replace HMB := Lib.hid (HMB.out.grown gh)
    replace HMY := Lib.hid (HMY.out.grown gh)
    replace HG := Lib.hid (HG.out.trans gh)
    clear gh
    go_wp2_with fail
    go_ret
    exact ⟨rfl, HG.out⟩
end Go.Proofs.Ytbddpjofhddilaa
