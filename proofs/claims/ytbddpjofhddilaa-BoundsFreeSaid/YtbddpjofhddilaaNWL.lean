/- The law of free tuples. -/
import Derived.Test.YtbddpjofhddilaaNXC
namespace Go.Proofs.Ytbddpjofhddilaa
open Go.RowKit

set_option maxRecDepth 100000 in
set_option maxHeartbeats 16000000 in
theorem free_law_calls (hh : HeadSays9) (s1 : Option Addr) (ns c1 : Nat) (F : List Fd) (fa : Option Addr) (fc : Nat) (s3 : Option Addr) (n3 q3 : Nat) (s4 : Option Addr) (n4 q4 : Nat) (us : List Int) (sa : Option Addr) (sc : Nat) (st : Int) (raw0 : List (List Nat)) (ra0 : Option Addr) (rc0 : Nat) (pk0 : List Bool) (pa0 : Option Addr) (pc0 : Nat) (pk1 : List Bool) (pa1 : Option Addr) (pc1 : Nat) (w : World)
    (hF : Fields w fa fc F) (hFl : (F.length : Int) ≤ 9223372036854775807) (hu : Ints w sa sc us) (hul : (us.length : Int) ≤ 9223372036854775807) (hr0 : Raws w ra0 rc0 raw0) (hro0 : RawOk raw0) (hp0 : Bools w pa0 pc0 pk0) (hpl0 : (pk0.length : Int) ≤ 9223372036854775807) (hp1 : Bools w pa1 pc1 pk1) (hpl1 : (pk1.length : Int) ≤ 9223372036854775807) :
    Calls Try.prog 13 #[.agg #[.slice s1 ns c1, .slice fa F.length fc, .slice s3 n3 q3, .slice s4 n4 q4], .agg #[.slice sa us.length sc, .int .i64 st], .slice ra0 raw0.length rc0, .slice pa0 pk0.length pc0, .slice pa1 pk1.length pc1] w fun e w' => e = .returned (.bool true) ∧ w.grownBy w' none := by
  obtain ⟨n, hn⟩ : ∃ n, us.length = n := ⟨_, rfl⟩
  obtain ⟨f, hf⟩ : ∃ k, F.length = k := ⟨_, rfl⟩
  obtain ⟨rn0, hrn0⟩ : ∃ k, raw0.length = k := ⟨_, rfl⟩
  obtain ⟨pn0, hpn0⟩ : ∃ k, pk0.length = k := ⟨_, rfl⟩
  have HPK0 := Lib.hid (And.intro hp0 (And.intro hpl0 hpn0))
  obtain ⟨pn1, hpn1⟩ : ∃ k, pk1.length = k := ⟨_, rfl⟩
  have HPK1 := Lib.hid (And.intro hp1 (And.intro hpl1 hpn1))
  have HFI := Lib.hid (fun (U : World) (g : w.grownBy U none) => fitsS_calls s1 fa s3 s4 ns c1 fc n3 q3 n4 q4 F us sa sc st U (hF.grown g) (hu.grown g) hul hFl)
  rw [hn, hf] at HFI
  have HBN := Lib.hid (Bx9.new w (.slice s1 ns c1) (.slice fa f fc) (.slice s3 n3 q3) (.slice s4 n4 q4) (.slice sa n sc) (.int .i64 st))
  have HN := Lib.hid (And.intro hn (And.intro hf (And.intro hF hu)))
  have HRW := Lib.hid ((And.intro hr0 (And.intro hro0 hrn0)))
  rw [hn, hf, hrn0, hpn0, hpn1]
  clear hn hf hF hu hFl hul hr0 hro0 hrn0 hp0 hpl0 hpn0 hp1 hpl1 hpn1
  obtain ⟨W, hW⟩ : ∃ W, (w.alloc (.cells #[.slice s1 ns c1, .slice fa f fc, .slice s3 n3 q3, .slice s4 n4 q4] 27)).alloc (.cells #[.slice sa n sc, .int .i64 st] 30) = W := ⟨_, rfl⟩
  rw [hW] at HBN
  obtain ⟨g0, hg0⟩ : ∃ g, w.heap.size = g := ⟨_, rfl⟩
  have HW := Lib.hid (And.intro hW hg0)
  rw [hg0] at HBN
  clear hW
  go_enter Try.func13, Try.ntmps13
  go_wp2_with fail
  rw [HW.out.1]
  clear hg0
  refine (hh W).mono ?_
  rintro e w0 ⟨rfl, gh⟩
  have HG := Lib.hid (HBN.out.2.trans gh)
  have HB := Lib.hid (HBN.out.1.grown gh)
  clear gh HBN
  clear HW
  have hbx := HB.out
  obtain ⟨a0, a1, a2, a3, b0, b1⟩ := hbx
  go_wp2_with fail
  clear a0 a1 a2 a3 b0 b1
  refine (HFI.out w0 HG.out).mono ?_
  rintro e w1 ⟨rfl, gh⟩
  replace HB := Lib.hid (HB.out.grown gh)
  replace HG := Lib.hid (HG.out.trans gh)
  clear gh HFI
  obtain ⟨Q, hQ⟩ : ∃ Q, fitsS ns F us st = Q := ⟨_, rfl⟩
  rw [hQ]
  cases Q with
  | false =>
    clear hQ
    go_wp2_with fail
    go_ret
    exact ⟨rfl, HG.out⟩
  | true =>
  obtain ⟨hz0, hz5, hz4, hf6, hff, hfit, hs12, hu4⟩ := fits_setup hQ
  have HNU := Lib.hid (fun (U : World) (g : w.grownBy U none) => (HN.out.2.2.2.grown g).nums hz0)
  have HDEF := Lib.hid (defOk (F := F) hz5 (fun f hf => (hff f hf).2))
  have hzl : (us.map Int.toNat).length = n := by rw [List.length_map]; exact HN.out.1
  have HST := Lib.hid (And.intro hs12 (And.intro hff hfit))
  have HMD0 := Lib.hid (fun (U : World) (g : w.grownBy U none) => by
    have h := made_calls s1 fa s3 s4 ns c1 fc n3 q3 n4 q4 F (us.map Int.toNat) sa sc st raw0 ra0 rc0 U (HN.out.2.2.1.grown g) (HNU.out U g) hz5 hz4 (by omega) hff hfit (HRW.out.1.grown g) HRW.out.2.1
    rw [hzl, HN.out.2.1, HRW.out.2.2] at h
    exact h)
  have hdl : (F.map (defX (us.map Int.toNat))).length = f := by rw [List.length_map]; exact HN.out.2.1
  have hn6 : f ≤ 6 := by rw [← HN.out.2.1]; exact hf6
  clear hQ hz0 hs12 hu4
  obtain ⟨DB, hDB⟩ : ∃ D, F.map (defX (us.map Int.toNat)) = D := ⟨_, rfl⟩
  rw [hDB] at HMD0 HDEF hdl
  clear hDB
  obtain ⟨A, hA⟩ : ∃ D, madeL raw0 DB = D := ⟨_, rfl⟩
  rw [hA] at HMD0
  have hGA : GoodL A DB := by rw [← hA]; exact goodL_made HDEF.out
  have hla := goodL_len hGA HDEF.out
  have HA := Lib.hid (And.intro hGA (And.intro hla (hGA.1.trans hdl)))
  clear hA hGA hla hdl hz5 hz4 hff hfit hzl hf6
  have hbx := HB.out
  obtain ⟨a0, a1, a2, a3, b0, b1⟩ := hbx
  go_wp2_with fail
  clear a0 a1 a2 a3 b0 b1
  refine (HMD0.out _ HG.out).mono ?_
  rintro e v2 ⟨aa, ca, rfl, hsp, gh⟩
  replace HB := Lib.hid (HB.out.grown gh)
  replace HG := Lib.hid (HG.out.trans gh)
  clear gh
  have HMA := Lib.hid hsp.here
  clear hsp
  obtain ⟨m, hm⟩ : ∃ m, (freeTo A f).length = m := ⟨_, rfl⟩
  have hm1 : m ≤ 1500 := by
    have h := freeTo_short (A := A) (fun x hx => by have := HA.out.2.1 x hx; omega) f
    have := Nat.mul_le_mul_right 250 hn6
    omega
  have HM := Lib.hid hm
  clear hm
  go_wp2_with fail
  refine (freeG HMA.out HA.out.2.2 hn6 HA.out.2.1 HM.out).mono ?_
  rintro e v3 ⟨la, lc, rfl, hpr, gh⟩
  replace HB := Lib.hid (HB.out.grown gh)
  replace HMA := Lib.hid (HMA.out.grown gh)
  replace HG := Lib.hid (HG.out.trans gh)
  clear gh
  have HPR := Lib.hid hpr
  clear hpr
  go_wp2_with fail
  go_loopg [14, 15, 16] m (fun g s14 s15 s16 wr => ∃ k : Nat, s14 = .int .i64 (k : Int) ∧ g = m - k ∧ k ≤ m ∧ v3.grownBy wr none)
  case atStart => exact ⟨0, rfl, rfl, Nat.zero_le _, grown_refl _ _⟩
  case round =>
    obtain ⟨k, rfl, hgi, hk, hgr⟩ := hrel
    by_cases hin : k < m
    · have hinB : decide (k < m) = true := by simpa using hin
      have hinI : (k : Int) < (m : Int) := by omega
      replace HB := Lib.hid (HB.out.grown hgr)
      replace HMA := Lib.hid (HMA.out.grown hgr)
      replace HPR := Lib.hid (HPR.out.grown hgr)
      replace HG := Lib.hid (HG.out.trans hgr)
      have HI := Lib.hid (And.intro hgi hgr); clear hgi hgr
      obtain ⟨p, hp⟩ : ∃ p, (freeTo A f)[k]? = some p := ⟨_, List.getElem?_eq_getElem (by rw [HM.out]; exact hin)⟩
      obtain ⟨i, x, hpi, hif, hx, hru, hrl⟩ := mem_free HA.out.1 (List.mem_of_getElem? hp)
      obtain ⟨b, o, rfl, hbx⟩ := HMA.out.2 i x hx
      obtain ⟨lb, lo, rfl, l0, l1⟩ := HPR.out.2 k _ hp
      obtain ⟨a1, k1, a2, k2, x0, x1, x2, x3, i1, i2⟩ := hbx.parts
      obtain ⟨d, hd⟩ := getL HA.out.1.1 hx
      have hgx := HA.out.1.2 i x d hx hd
      have hxl := HA.out.2.1 x (List.mem_of_getElem? hx)
      rw [hpi] at l0
      obtain ⟨r, hr⟩ : ∃ r, p.2 = r := ⟨_, rfl⟩
      rw [hr] at l1 hru hrl
      obtain ⟨K1, hK1⟩ : ∃ r, x.1.1 = r := ⟨_, rfl⟩
      obtain ⟨K2, hK2⟩ : ∃ r, x.2.1 = r := ⟨_, rfl⟩
      obtain ⟨n1, hn1⟩ : ∃ r, x.1.2.length = r := ⟨_, rfl⟩
      obtain ⟨n2, hn2⟩ : ∃ r, x.2.2.length = r := ⟨_, rfl⟩
      rw [hK1] at x0
      rw [hn1] at x1
      rw [hK2] at x2
      rw [hn2] at x3
      have HX := Lib.hid (And.intro hgx (And.intro hxl (And.intro i1 (And.intro i2 (And.intro hn1 (And.intro hn2 (And.intro hru hrl)))))))
      have HP := Lib.hid (And.intro hp (And.intro hpi hr))
      have hifB : decide (i < f) = true := by simpa using hif
      have hifC : decide (f ≤ i) = false := by simpa using hif
      have hifI : (i : Int) < (f : Int) := by omega
      clear hx hbx hd hgx hxl hru hrl hK1 hK2 hn1 hn2 hp hpi hr
      go_wp2_with fail
      obtain ⟨wq, hwq⟩ : ∃ wq, wq = wr := ⟨_, rfl⟩
      subst hwq
      have HS := Lib.hid (fun (Wh : World) (hWh : wq.grownBy Wh none) => (⟨hWh, hWh.cell x0 (by simp), hWh.cell x1 (by simp), hWh.cell x2 (by simp), hWh.cell x3 (by simp), hWh.cell l0 (by simp), hWh.cell l1 (by simp)⟩ : (fun Wh : World => wq.grownBy Wh none ∧ Wh.cell? ⟨b, o + i * 4, none⟩ = some (.int .i64 K1) ∧ Wh.cell? ⟨b, o + i * 4 + 1, none⟩ = some (.slice a1 n1 k1) ∧ Wh.cell? ⟨b, o + i * 4 + 2, none⟩ = some (.int .i64 K2) ∧ Wh.cell? ⟨b, o + i * 4 + 3, none⟩ = some (.slice a2 n2 k2) ∧ Wh.cell? ⟨lb, lo + k * 2, none⟩ = some (.int .i64 (i : Int)) ∧ Wh.cell? ⟨lb, lo + k * 2 + 1, none⟩ = some (.int .i64 r)) Wh))
      have hdr : wq.grownBy wq.drew none := ⟨rfl, rfl, rfl, Nat.le_refl _, fun _ _ _ => rfl⟩
      refine wp_region_held_drew (S := (fun Wh : World => wq.grownBy Wh none ∧ Wh.cell? ⟨b, o + i * 4, none⟩ = some (.int .i64 K1) ∧ Wh.cell? ⟨b, o + i * 4 + 1, none⟩ = some (.slice a1 n1 k1) ∧ Wh.cell? ⟨b, o + i * 4 + 2, none⟩ = some (.int .i64 K2) ∧ Wh.cell? ⟨b, o + i * 4 + 3, none⟩ = some (.slice a2 n2 k2) ∧ Wh.cell? ⟨lb, lo + k * 2, none⟩ = some (.int .i64 (i : Int)) ∧ Wh.cell? ⟨lb, lo + k * 2 + 1, none⟩ = some (.int .i64 r))) (by kernel_rfl) (HS.out _ hdr) (fun hHeld => ?_)
      refine wpAnyH_take (i := 0) (oi := { dst := some 58, op := Op.move (Operand.tmp 12), type := 57, pos := "law.go:227", after := #[], guard := none }) (v := ?_) rfl (by kernel_rfl) (by kernel_rfl) (by kernel_rfl) (fun _ _ _ h => h) (Or.inl ⟨by rfl, ?_⟩) (by assumption) ?_
      rotate_left 1
      · (intro W hSW; (try dsimp only at hSW); first | (go_simp; done) | (go_simp; with_reducible rfl))
      try simp only [Act.put, List.setIfInBounds_toArray, List.set_cons_zero, List.set_cons_succ]
      refine wpAnyH_take (i := 1) (oi := { dst := some 59, op := Op.move (Operand.tmp 15), type := 3, pos := "law.go:227", after := #[], guard := none }) (v := ?_) rfl (by kernel_rfl) (by kernel_rfl) (by kernel_rfl) (fun _ _ _ h => h) (Or.inl ⟨by rfl, ?_⟩) (by assumption) ?_
      rotate_left 1
      · (intro W hSW; (try dsimp only at hSW); first | (go_simp; done) | (go_simp; with_reducible rfl))
      try simp only [Act.put, List.setIfInBounds_toArray, List.set_cons_zero, List.set_cons_succ]
      refine wpAnyH_take (i := 2) (oi := { dst := some 60, op := Op.indexAddr 57 (Operand.tmp 58) (Operand.tmp 59), type := 0, pos := "law.go:227", after := #[{ on := 0, ground := Ground.data }, { on := 1, ground := Ground.data }], guard := none }) (v := ?_) rfl (by kernel_rfl) (by kernel_rfl) (by kernel_rfl) (fun _ _ _ h => h) (Or.inl ⟨by rfl, ?_⟩) (by assumption) ?_
      rotate_left 1
      · (intro W hSW; (try dsimp only at hSW); first | (go_simp; done) | (go_simp; with_reducible rfl))
      try simp only [Act.put, List.setIfInBounds_toArray, List.set_cons_zero, List.set_cons_succ]
      refine wpAnyH_take (i := 3) (oi := { dst := some 61, op := Op.fieldAddr 74 (Operand.tmp 60) 1, type := 0, pos := "law.go:227", after := #[{ on := 2, ground := Ground.data }], guard := none }) (v := ?_) rfl (by kernel_rfl) (by kernel_rfl) (by kernel_rfl) (fun _ _ _ h => h) (Or.inl ⟨by rfl, ?_⟩) (by assumption) ?_
      rotate_left 1
      · (intro W hSW; (try dsimp only at hSW); first | (go_simp; done) | (go_simp; with_reducible rfl))
      try simp only [Act.put, List.setIfInBounds_toArray, List.set_cons_zero, List.set_cons_succ]
      refine wpAnyH_take (i := 4) (oi := { dst := some 62, op := Op.fieldAddr 53 (Operand.tmp 61) 0, type := 0, pos := "law.go:227", after := #[{ on := 3, ground := Ground.data }], guard := none }) (v := ?_) rfl (by kernel_rfl) (by kernel_rfl) (by kernel_rfl) (fun _ _ _ h => h) (Or.inl ⟨by rfl, ?_⟩) (by assumption) ?_
      rotate_left 1
      · (intro W hSW; (try dsimp only at hSW); first | (go_simp; done) | (go_simp; with_reducible rfl))
      try simp only [Act.put, List.setIfInBounds_toArray, List.set_cons_zero, List.set_cons_succ]
      refine wpAnyH_take (i := 5) (oi := { dst := some 63, op := Op.load 3 (Operand.tmp 62), type := 3, pos := "law.go:227", after := #[{ on := 4, ground := Ground.data }], guard := none }) (v := ?_) rfl (by kernel_rfl) (by kernel_rfl) (by kernel_rfl) (fun _ _ _ h => h) (Or.inl ⟨by rfl, ?_⟩) (by assumption) ?_
      rotate_left 1
      · (intro W hSW; (try dsimp only at hSW); first | (go_simp; done) | (go_simp; with_reducible rfl))
      try simp only [Act.put, List.setIfInBounds_toArray, List.set_cons_zero, List.set_cons_succ]
      refine wpAnyH_take (i := 6) (oi := { dst := some 64, op := Op.move (Operand.tmp 13), type := 67, pos := "law.go:227", after := #[], guard := none }) (v := ?_) rfl (by kernel_rfl) (by kernel_rfl) (by kernel_rfl) (fun _ _ _ h => h) (Or.inl ⟨by rfl, ?_⟩) (by assumption) ?_
      rotate_left 1
      · (intro W hSW; (try dsimp only at hSW); first | (go_simp; done) | (go_simp; with_reducible rfl))
      try simp only [Act.put, List.setIfInBounds_toArray, List.set_cons_zero, List.set_cons_succ]
      refine wpAnyH_take (i := 7) (oi := { dst := some 65, op := Op.move (Operand.tmp 14), type := 3, pos := "law.go:227", after := #[], guard := none }) (v := ?_) rfl (by kernel_rfl) (by kernel_rfl) (by kernel_rfl) (fun _ _ _ h => h) (Or.inl ⟨by rfl, ?_⟩) (by assumption) ?_
      rotate_left 1
      · (intro W hSW; (try dsimp only at hSW); first | (go_simp; done) | (go_simp; with_reducible rfl))
      try simp only [Act.put, List.setIfInBounds_toArray, List.set_cons_zero, List.set_cons_succ]
      refine wpAnyH_take (i := 8) (oi := { dst := some 66, op := Op.indexAddr 67 (Operand.tmp 64) (Operand.tmp 65), type := 0, pos := "law.go:227", after := #[{ on := 6, ground := Ground.data }, { on := 7, ground := Ground.data }], guard := none }) (v := ?_) rfl (by kernel_rfl) (by kernel_rfl) (by kernel_rfl) (fun _ _ _ h => h) (Or.inl ⟨by rfl, ?_⟩) (by assumption) ?_
      rotate_left 1
      · (intro W hSW; (try dsimp only at hSW); first | (go_simp; done) | (go_simp; with_reducible rfl))
      try simp only [Act.put, List.setIfInBounds_toArray, List.set_cons_zero, List.set_cons_succ]
      refine wpAnyH_take (i := 9) (oi := { dst := some 67, op := Op.indexAddr 79 (Operand.tmp 66) (Operand.const (Value.int IntKind.i64 1)), type := 0, pos := "law.go:227", after := #[{ on := 8, ground := Ground.data }], guard := none }) (v := ?_) rfl (by kernel_rfl) (by kernel_rfl) (by kernel_rfl) (fun _ _ _ h => h) (Or.inl ⟨by rfl, ?_⟩) (by assumption) ?_
      rotate_left 1
      · (intro W hSW; (try dsimp only at hSW); first | (go_simp; done) | (go_simp; with_reducible rfl))
      try simp only [Act.put, List.setIfInBounds_toArray, List.set_cons_zero, List.set_cons_succ]
      refine wpAnyH_take (i := 10) (oi := { dst := some 68, op := Op.load 3 (Operand.tmp 67), type := 3, pos := "law.go:227", after := #[{ on := 9, ground := Ground.data }], guard := none }) (v := ?_) rfl (by kernel_rfl) (by kernel_rfl) (by kernel_rfl) (fun _ _ _ h => h) (Or.inl ⟨by rfl, ?_⟩) (by assumption) ?_
      rotate_left 1
      · (intro W hSW; (try dsimp only at hSW); first | (go_simp; done) | (go_simp; with_reducible rfl))
      try simp only [Act.put, List.setIfInBounds_toArray, List.set_cons_zero, List.set_cons_succ]
      refine wpAnyH_ready (rs := [11, 13]) (by kernel_rfl) (by simp) ?_
      refine (AllReadyH.cons (o := { dst := some 69, op := Op.buildSlice 28 1 #[(0, Operand.tmp 68)], type := 28, pos := "law.go:227", after := #[{ on := 10, ground := Ground.data }], guard := none }) rfl (fun K hK => ?_) (AllReadyH.cons (o := { dst := some 16, op := Op.alloc 53, type := 0, pos := "law.go:227", after := #[], guard := none }) rfl (fun K hK => ?_) AllReadyH.nil))
      · rw [if_pos (by rfl)]
        go_simp
        have hgc := World.grownBy.trans (World.grownBy_alloc wq (.cells #[.int .i64 r] 3) none) (⟨rfl, rfl, rfl, Nat.le_refl _, fun _ _ _ => rfl⟩ : (World.alloc wq (.cells #[.int .i64 r] 3)).grownBy ((World.alloc wq (.cells #[.int .i64 r] 3)).drew) none)
        have hsb := (Sl1.new wq (.int .i64 r)).grown (⟨rfl, rfl, rfl, Nat.le_refl _, fun _ _ _ => rfl⟩ : (World.alloc wq (.cells #[.int .i64 r] 3)).grownBy ((World.alloc wq (.cells #[.int .i64 r] 3)).drew) none)
        obtain ⟨WS, hWS⟩ : ∃ WS, (World.alloc wq (.cells #[.int .i64 r] 3)).drew = WS := ⟨_, rfl⟩
        rw [hWS] at hgc hsb ⊢
        clear hWS
        have hzT := hsb.2
        refine hK.out _ _ (HS.out _ hgc) (fun hHeld => ?_)
        clear hK K
        try simp only [Act.put, List.setIfInBounds_toArray, List.set_cons_zero, List.set_cons_succ]
        refine wpAnyH_take (i := 12) (oi := { dst := some 70, op := Op.build 53 #[(0, Operand.tmp 63), (1, Operand.tmp 69)], type := 53, pos := "law.go:227", after := #[{ on := 5, ground := Ground.data }, { on := 11, ground := Ground.data }], guard := none }) (v := ?_) rfl (by kernel_rfl) (by kernel_rfl) (by kernel_rfl) (fun _ _ _ h => h) (Or.inl ⟨by rfl, ?_⟩) (by assumption) ?_
        rotate_left 1
        · (intro W hSW; (try dsimp only at hSW); first | (go_simp; done) | (go_simp; with_reducible rfl))
        try simp only [Act.put, List.setIfInBounds_toArray, List.set_cons_zero, List.set_cons_succ]
        refine wpAnyH_ready (rs := [13]) (by kernel_rfl) (by simp) ?_
        refine (AllReadyH.cons (o := { dst := some 16, op := Op.alloc 53, type := 0, pos := "law.go:227", after := #[], guard := none }) rfl (fun K hK => ?_) AllReadyH.nil)
        rw [if_pos (by rfl)]
        go_simp
        have hga := World.grownBy.trans hgc (World.grownBy_alloc (WS) (.cells #[.int .i64 0, .slice none 0 0] 53) none)
        have hkc := Zero2.new (lo := wq.heap.size) (WS) (World.grownBy.size hgc)
        try (replace hsb := hsb.grown (World.grownBy_alloc (WS) (.cells #[.int .i64 0, .slice none 0 0] 53) none))
        obtain ⟨WA, hWA⟩ : ∃ WA, World.alloc (WS) (.cells #[.int .i64 0, .slice none 0 0] 53) = WA := ⟨_, rfl⟩
        rw [hWA] at hga hkc ⊢
        try (rw [hWA] at hsb)
        clear hWA
        have hzA := hkc.lt
        have hzG := World.grownBy.size hga
        refine hK.out _ _ (HS.out _ hga) (fun hHeld => ?_)
        clear hK K
        try simp only [Act.put, List.setIfInBounds_toArray, List.set_cons_zero, List.set_cons_succ]
        refine wpAnyH_ready (rs := [14]) (by kernel_rfl) (by simp) ?_
        refine (AllReadyH.cons (o := { dst := none, op := Op.store 53 (Operand.tmp 16) (Operand.tmp 70), type := 0, pos := "law.go:227", after := #[{ on := 13, ground := Ground.data }, { on := 12, ground := Ground.data }, { on := 0, ground := Ground.phase }, { on := 1, ground := Ground.phase }, { on := 2, ground := Ground.phase }, { on := 3, ground := Ground.phase }, { on := 4, ground := Ground.phase }, { on := 5, ground := Ground.phase }, { on := 6, ground := Ground.phase }, { on := 7, ground := Ground.phase }, { on := 8, ground := Ground.phase }, { on := 9, ground := Ground.phase }, { on := 10, ground := Ground.phase }, { on := 11, ground := Ground.phase }, { on := 12, ground := Ground.phase }, { on := 13, ground := Ground.phase }], guard := none }) rfl (fun K hK => ?_) AllReadyH.nil)
        rw [if_pos (by rfl)]
        have q0 := hkc.c0
        have q1 := hkc.c1
        have q4 := hkc.f0
        have q5 := hkc.f1
        go_simp
        clear q4 q5
        have hfs := two_set9 (.int .i64 K2) (.slice (some ⟨wq.heap.size, 0, none⟩) 1 1) q0 q1
        clear q0 q1
        have hgs := grown_own hga hfs.2.2 (fun k hk => by cases hk; exact hkc.ge)
        refine hK.out _ _ (HS.out _ hgs) (fun hHeld => ?_)
        clear hK K
        try simp only [Act.put, List.setIfInBounds_toArray, List.set_cons_zero, List.set_cons_succ]
        refine wpAnyH_done (by kernel_rfl) ?_ _
        have hEND := hgs
        clear hHeld
        have hne : wq.heap.size ≠ WS.heap.size := by omega
        have hsc := hfs.2.2.cell hsb.1 (by simp only [ne_eq, Option.some.injEq]; omega)
        obtain ⟨p0, p1, _⟩ := hfs
        obtain ⟨X1, hX1⟩ : ∃ X, (World.setCell (World.setCell WA ⟨WS.heap.size, 0, none⟩ (.int .i64 K2)) ⟨WS.heap.size, 1, none⟩ (.slice (some ⟨wq.heap.size, 0, none⟩) 1 1)) = X := ⟨_, rfl⟩
        rw [hX1] at p0 p1 hsc hEND ⊢
        obtain ⟨gB, hgB⟩ : ∃ gB, WS.heap.size = gB := ⟨_, rfl⟩
        obtain ⟨gS, hgS⟩ : ∃ gB, wq.heap.size = gB := ⟨_, rfl⟩
        rw [hgB, hgS] at p1
        rw [hgB] at p0 ⊢
        rw [hgS] at hsc
        have HONE := Lib.hid (OneB.mk p0 p1 (row_of_sl1 hsc))
        clear hne hsc p0 p1 hX1 hgs hsb hkc hzA hzG hzT hHeld HS hgB hgS
        try clear hzB
        replace HB := Lib.hid (HB.out.grown hEND)
        replace HMA := Lib.hid (HMA.out.grown hEND)
        replace HPR := Lib.hid (HPR.out.grown hEND)
        replace HG := Lib.hid (HG.out.trans hEND)
        have HWX := Lib.hid hEND
        have y0 := hEND.cell x0 (by simp)
        have y1 := hEND.cell x1 (by simp)
        have y2 := hEND.cell x2 (by simp)
        have y3 := hEND.cell x3 (by simp)
        have hob := HONE.out
        obtain ⟨t0, t1, _⟩ := hob
        clear hEND x0 x1 x2 x3 l0 l1
        go_wp2_with fail
        have HS := Lib.hid (fun (Wh : World) (hWh : X1.grownBy Wh none) => (⟨hWh, hWh.cell t0 (by simp), hWh.cell t1 (by simp), hWh.cell y0 (by simp), hWh.cell y1 (by simp), hWh.cell y2 (by simp), hWh.cell y3 (by simp)⟩ : (fun Wh : World => X1.grownBy Wh none ∧ Wh.cell? ⟨gB, 0, none⟩ = some (.int .i64 K2) ∧ Wh.cell? ⟨gB, 1, none⟩ = some (.slice (some ⟨gS, 0, none⟩) 1 1) ∧ Wh.cell? ⟨b, o + i * 4, none⟩ = some (.int .i64 K1) ∧ Wh.cell? ⟨b, o + i * 4 + 1, none⟩ = some (.slice a1 n1 k1) ∧ Wh.cell? ⟨b, o + i * 4 + 2, none⟩ = some (.int .i64 K2) ∧ Wh.cell? ⟨b, o + i * 4 + 3, none⟩ = some (.slice a2 n2 k2)) Wh))
        have hdr : X1.grownBy X1.drew none := ⟨rfl, rfl, rfl, Nat.le_refl _, fun _ _ _ => rfl⟩
        refine wp_region_held_drew (S := (fun Wh : World => X1.grownBy Wh none ∧ Wh.cell? ⟨gB, 0, none⟩ = some (.int .i64 K2) ∧ Wh.cell? ⟨gB, 1, none⟩ = some (.slice (some ⟨gS, 0, none⟩) 1 1) ∧ Wh.cell? ⟨b, o + i * 4, none⟩ = some (.int .i64 K1) ∧ Wh.cell? ⟨b, o + i * 4 + 1, none⟩ = some (.slice a1 n1 k1) ∧ Wh.cell? ⟨b, o + i * 4 + 2, none⟩ = some (.int .i64 K2) ∧ Wh.cell? ⟨b, o + i * 4 + 3, none⟩ = some (.slice a2 n2 k2))) (by kernel_rfl) (HS.out _ hdr) (fun hHeld => ?_)
        refine wpAnyH_take (i := 0) (oi := { dst := some 71, op := Op.load 53 (Operand.tmp 16), type := 53, pos := "law.go:228", after := #[], guard := none }) (v := ?_) rfl (by kernel_rfl) (by kernel_rfl) (by kernel_rfl) (fun _ _ _ h => h) (Or.inl ⟨by rfl, ?_⟩) (by assumption) ?_
        rotate_left 1
        · (intro W hSW; (try dsimp only at hSW); first | (go_simp; done) | (go_simp; with_reducible rfl))
        try simp only [Act.put, List.setIfInBounds_toArray, List.set_cons_zero, List.set_cons_succ]
        refine wpAnyH_take (i := 1) (oi := { dst := some 72, op := Op.move (Operand.tmp 12), type := 57, pos := "law.go:228", after := #[], guard := none }) (v := ?_) rfl (by kernel_rfl) (by kernel_rfl) (by kernel_rfl) (fun _ _ _ h => h) (Or.inl ⟨by rfl, ?_⟩) (by assumption) ?_
        rotate_left 1
        · (intro W hSW; (try dsimp only at hSW); first | (go_simp; done) | (go_simp; with_reducible rfl))
        try simp only [Act.put, List.setIfInBounds_toArray, List.set_cons_zero, List.set_cons_succ]
        refine wpAnyH_take (i := 2) (oi := { dst := some 73, op := Op.move (Operand.tmp 15), type := 3, pos := "law.go:228", after := #[], guard := none }) (v := ?_) rfl (by kernel_rfl) (by kernel_rfl) (by kernel_rfl) (fun _ _ _ h => h) (Or.inl ⟨by rfl, ?_⟩) (by assumption) ?_
        rotate_left 1
        · (intro W hSW; (try dsimp only at hSW); first | (go_simp; done) | (go_simp; with_reducible rfl))
        try simp only [Act.put, List.setIfInBounds_toArray, List.set_cons_zero, List.set_cons_succ]
        refine wpAnyH_take (i := 3) (oi := { dst := some 74, op := Op.indexAddr 57 (Operand.tmp 72) (Operand.tmp 73), type := 0, pos := "law.go:228", after := #[{ on := 1, ground := Ground.data }, { on := 2, ground := Ground.data }], guard := none }) (v := ?_) rfl (by kernel_rfl) (by kernel_rfl) (by kernel_rfl) (fun _ _ _ h => h) (Or.inl ⟨by rfl, ?_⟩) (by assumption) ?_
        rotate_left 1
        · (intro W hSW; (try dsimp only at hSW); first | (go_simp; done) | (go_simp; with_reducible rfl))
        try simp only [Act.put, List.setIfInBounds_toArray, List.set_cons_zero, List.set_cons_succ]
        refine wpAnyH_take (i := 4) (oi := { dst := some 75, op := Op.fieldAddr 74 (Operand.tmp 74) 1, type := 0, pos := "law.go:228", after := #[{ on := 3, ground := Ground.data }], guard := none }) (v := ?_) rfl (by kernel_rfl) (by kernel_rfl) (by kernel_rfl) (fun _ _ _ h => h) (Or.inl ⟨by rfl, ?_⟩) (by assumption) ?_
        rotate_left 1
        · (intro W hSW; (try dsimp only at hSW); first | (go_simp; done) | (go_simp; with_reducible rfl))
        try simp only [Act.put, List.setIfInBounds_toArray, List.set_cons_zero, List.set_cons_succ]
        refine wpAnyH_take (i := 5) (oi := { dst := some 76, op := Op.load 53 (Operand.tmp 75), type := 53, pos := "law.go:228", after := #[{ on := 4, ground := Ground.data }], guard := none }) (v := ?_) rfl (by kernel_rfl) (by kernel_rfl) (by kernel_rfl) (fun _ _ _ h => h) (Or.inl ⟨by rfl, ?_⟩) (by assumption) ?_
        rotate_left 1
        · (intro W hSW; (try dsimp only at hSW); first | (go_simp; done) | (go_simp; with_reducible rfl))
        try simp only [Act.put, List.setIfInBounds_toArray, List.set_cons_zero, List.set_cons_succ]
        refine wpAnyH_ready (rs := [6]) (by kernel_rfl) (by simp) ?_
        refine (AllReadyH.cons (o := { dst := some 77, op := Op.call { callee := Callee.value (Operand.func 58), args := #[Operand.tmp 71, Operand.tmp 76], argTypes := #[53, 53] }, type := 4, pos := "law.go:228", after := #[{ on := 0, ground := Ground.data }, { on := 5, ground := Ground.data }], guard := none }) rfl (fun K hK => ?_) AllReadyH.nil)
        rw [if_pos (by rfl)]
        go_simp
        go_at_call 58
        refine (tinG (HONE.out.row.grown (hdr)) (HX.out.2.2.2.1.grown (HWX.out.trans (hdr))) HX.out.2.1.2 HX.out.1.u2 HX.out.2.2.2.2.2.1 (decide_eq_true HX.out.2.2.2.2.2.2.1)).mono ?_
        rintro e wc1 ⟨rfl, gc1⟩
        have hgr1 := World.grownBy.trans hdr gc1
        go_wp2_with fail
        refine hK.out _ _ (HS.out _ hgr1) (fun hHeld => ?_)
        clear hK K
        try simp only [Act.put, List.setIfInBounds_toArray, List.set_cons_zero, List.set_cons_succ]
        refine wpAnyH_take (i := 7) (oi := { dst := some 78, op := Op.unOp UnOp.not 4 (Operand.tmp 77), type := 4, pos := "law.go:228", after := #[{ on := 6, ground := Ground.data }], guard := none }) (v := ?_) rfl (by kernel_rfl) (by kernel_rfl) (by kernel_rfl) (fun _ _ _ h => h) (Or.inl ⟨by rfl, ?_⟩) (by assumption) ?_
        rotate_left 1
        · (intro W hSW; (try dsimp only at hSW); first | (go_simp; done) | (go_simp; with_reducible rfl))
        try simp only [Act.put, List.setIfInBounds_toArray, List.set_cons_zero, List.set_cons_succ]
        refine wpAnyH_take (i := 8) (oi := { dst := some 79, op := Op.move (Operand.tmp 78), type := 4, pos := "law.go:228", after := #[{ on := 7, ground := Ground.data }, { on := 6, ground := Ground.chain }], guard := none }) (v := ?_) rfl (by kernel_rfl) (by kernel_rfl) (by kernel_rfl) (fun _ _ _ h => h) (Or.inl ⟨by rfl, ?_⟩) (by assumption) ?_
        rotate_left 1
        · (intro W hSW; (try dsimp only at hSW); first | (go_simp; done) | (go_simp; with_reducible rfl))
        try simp only [Act.put, List.setIfInBounds_toArray, List.set_cons_zero, List.set_cons_succ]
        refine wpAnyH_take (i := 9) (oi := { dst := some 80, op := Op.load 53 (Operand.tmp 16), type := 53, pos := "law.go:228", after := #[{ on := 8, ground := Ground.guard }], guard := some (8, false) }) (v := ?_) rfl (by kernel_rfl) (by kernel_rfl) (by kernel_rfl) (fun _ _ _ h => h) (Or.inl ⟨by rfl, ?_⟩) (by assumption) ?_
        rotate_left 1
        · (intro W hSW; (try dsimp only at hSW); first | (go_simp; done) | (go_simp; with_reducible rfl))
        try simp only [Act.put, List.setIfInBounds_toArray, List.set_cons_zero, List.set_cons_succ]
        refine wpAnyH_take (i := 10) (oi := { dst := some 81, op := Op.move (Operand.tmp 12), type := 57, pos := "law.go:228", after := #[{ on := 8, ground := Ground.guard }], guard := some (8, false) }) (v := ?_) rfl (by kernel_rfl) (by kernel_rfl) (by kernel_rfl) (fun _ _ _ h => h) (Or.inl ⟨by rfl, ?_⟩) (by assumption) ?_
        rotate_left 1
        · (intro W hSW; (try dsimp only at hSW); first | (go_simp; done) | (go_simp; with_reducible rfl))
        try simp only [Act.put, List.setIfInBounds_toArray, List.set_cons_zero, List.set_cons_succ]
        refine wpAnyH_take (i := 11) (oi := { dst := some 82, op := Op.move (Operand.tmp 15), type := 3, pos := "law.go:228", after := #[{ on := 8, ground := Ground.guard }], guard := some (8, false) }) (v := ?_) rfl (by kernel_rfl) (by kernel_rfl) (by kernel_rfl) (fun _ _ _ h => h) (Or.inl ⟨by rfl, ?_⟩) (by assumption) ?_
        rotate_left 1
        · (intro W hSW; (try dsimp only at hSW); first | (go_simp; done) | (go_simp; with_reducible rfl))
        try simp only [Act.put, List.setIfInBounds_toArray, List.set_cons_zero, List.set_cons_succ]
        refine wpAnyH_take (i := 12) (oi := { dst := some 83, op := Op.indexAddr 57 (Operand.tmp 81) (Operand.tmp 82), type := 0, pos := "law.go:228", after := #[{ on := 10, ground := Ground.data }, { on := 11, ground := Ground.data }, { on := 8, ground := Ground.guard }], guard := some (8, false) }) (v := ?_) rfl (by kernel_rfl) (by kernel_rfl) (by kernel_rfl) (fun _ _ _ h => h) (Or.inl ⟨by rfl, ?_⟩) (by assumption) ?_
        rotate_left 1
        · (intro W hSW; (try dsimp only at hSW); first | (go_simp; done) | (go_simp; with_reducible rfl))
        try simp only [Act.put, List.setIfInBounds_toArray, List.set_cons_zero, List.set_cons_succ]
        refine wpAnyH_take (i := 13) (oi := { dst := some 84, op := Op.fieldAddr 74 (Operand.tmp 83) 0, type := 0, pos := "law.go:228", after := #[{ on := 12, ground := Ground.data }, { on := 8, ground := Ground.guard }], guard := some (8, false) }) (v := ?_) rfl (by kernel_rfl) (by kernel_rfl) (by kernel_rfl) (fun _ _ _ h => h) (Or.inl ⟨by rfl, ?_⟩) (by assumption) ?_
        rotate_left 1
        · (intro W hSW; (try dsimp only at hSW); first | (go_simp; done) | (go_simp; with_reducible rfl))
        try simp only [Act.put, List.setIfInBounds_toArray, List.set_cons_zero, List.set_cons_succ]
        refine wpAnyH_take (i := 14) (oi := { dst := some 85, op := Op.load 53 (Operand.tmp 84), type := 53, pos := "law.go:228", after := #[{ on := 13, ground := Ground.data }, { on := 8, ground := Ground.guard }], guard := some (8, false) }) (v := ?_) rfl (by kernel_rfl) (by kernel_rfl) (by kernel_rfl) (fun _ _ _ h => h) (Or.inl ⟨by rfl, ?_⟩) (by assumption) ?_
        rotate_left 1
        · (intro W hSW; (try dsimp only at hSW); first | (go_simp; done) | (go_simp; with_reducible rfl))
        try simp only [Act.put, List.setIfInBounds_toArray, List.set_cons_zero, List.set_cons_succ]
        refine wpAnyH_ready (rs := [15]) (by kernel_rfl) (by simp) ?_
        refine (AllReadyH.cons (o := { dst := some 86, op := Op.call { callee := Callee.value (Operand.func 58), args := #[Operand.tmp 80, Operand.tmp 85], argTypes := #[53, 53] }, type := 4, pos := "law.go:228", after := #[{ on := 9, ground := Ground.data }, { on := 14, ground := Ground.data }, { on := 8, ground := Ground.chain }, { on := 8, ground := Ground.guard }], guard := some (8, false) }) rfl (fun K hK => ?_) AllReadyH.nil)
        rw [if_pos (by rfl)]
        go_simp
        go_at_call 58
        refine (tinG (HONE.out.row.grown (hgr1)) (HX.out.2.2.1.grown (HWX.out.trans (hgr1))) HX.out.2.1.1 HX.out.1.u1 HX.out.2.2.2.2.1 (decide_eq_false HX.out.2.2.2.2.2.2.2)).mono ?_
        rintro e wc2 ⟨rfl, gc2⟩
        have hgr2 := World.grownBy.trans hgr1 gc2
        go_wp2_with fail
        refine hK.out _ _ (HS.out _ hgr2) (fun hHeld => ?_)
        clear hK K
        try simp only [Act.put, List.setIfInBounds_toArray, List.set_cons_zero, List.set_cons_succ]
        refine wpAnyH_take (i := 16) (oi := { dst := some 87, op := Op.pick (Operand.tmp 79) (Operand.const (Value.bool true)) (Operand.tmp 86), type := 4, pos := "law.go:228", after := #[{ on := 8, ground := Ground.data }, { on := 15, ground := Ground.data }], guard := none }) (v := ?_) rfl (by kernel_rfl) (by kernel_rfl) (by kernel_rfl) (fun _ _ _ h => h) (Or.inl ⟨by rfl, ?_⟩) (by assumption) ?_
        rotate_left 1
        · (intro W hSW; (try dsimp only at hSW); first | (go_simp; done) | (go_simp; with_reducible rfl))
        try simp only [Act.put, List.setIfInBounds_toArray, List.set_cons_zero, List.set_cons_succ]
        refine wpAnyH_done (by kernel_rfl) ?_ _
        have hEND := hgr2
        clear hHeld
        replace HB := Lib.hid (HB.out.grown hEND)
        replace HMA := Lib.hid (HMA.out.grown hEND)
        replace HPR := Lib.hid (HPR.out.grown hEND)
        replace HG := Lib.hid (HG.out.trans hEND)
        replace HWX := Lib.hid (HWX.out.trans hEND)
        have hwx : wq.grownBy wc2 none := HWX.out
        obtain ⟨Y, hY⟩ : ∃ Y, wc2 = Y := ⟨_, rfl⟩
        clear hEND y0 y1 y2 y3 t0 t1 HS HONE hHeld
        subst hY
        go_wp2_with fail
        rcases Nat.eq_zero_or_pos k with hk0 | hkp
        · have e0 := HPR.out.2 k _ HP.out.1
          obtain ⟨_, _, ee, m0, m1⟩ := e0
          cases ee
          subst hk0
          have HS := Lib.hid (fun (Wh : World) (hWh : wc2.grownBy Wh none) => (⟨hWh, hWh.cell m1 (by simp)⟩ : (fun Wh : World => wc2.grownBy Wh none ∧ Wh.cell? ⟨lb, lo + 0 * 2 + 1, none⟩ = some (.int .i64 p.2)) Wh))
          have hdr : wc2.grownBy wc2.drew none := ⟨rfl, rfl, rfl, Nat.le_refl _, fun _ _ _ => rfl⟩
          refine wp_region_held_drew (S := (fun Wh : World => wc2.grownBy Wh none ∧ Wh.cell? ⟨lb, lo + 0 * 2 + 1, none⟩ = some (.int .i64 p.2))) (by kernel_rfl) (HS.out _ hdr) (fun hHeld => ?_)
          refine wpAnyH_take (i := 0) (oi := { dst := some 88, op := Op.move (Operand.tmp 14), type := 3, pos := "law.go:231", after := #[], guard := none }) (v := ?_) rfl (by kernel_rfl) (by kernel_rfl) (by kernel_rfl) (fun _ _ _ h => h) (Or.inl ⟨by rfl, ?_⟩) (by assumption) ?_
          rotate_left 1
          · (intro W hSW; (try dsimp only at hSW); first | (go_simp; done) | (go_simp; with_reducible rfl))
          try simp only [Act.put, List.setIfInBounds_toArray, List.set_cons_zero, List.set_cons_succ]
          refine wpAnyH_take (i := 1) (oi := { dst := some 89, op := Op.binOp BinOp.gtr 3 (Operand.tmp 88) (Operand.const (Value.int IntKind.i64 0)) 3, type := 4, pos := "law.go:231", after := #[{ on := 0, ground := Ground.data }], guard := none }) (v := ?_) rfl (by kernel_rfl) (by kernel_rfl) (by kernel_rfl) (fun _ _ _ h => h) (Or.inl ⟨by rfl, ?_⟩) (by assumption) ?_
          rotate_left 1
          · (intro W hSW; (try dsimp only at hSW); first | (go_simp; done) | (go_simp; with_reducible rfl))
          try simp only [Act.put, List.setIfInBounds_toArray, List.set_cons_zero, List.set_cons_succ]
          refine wpAnyH_take (i := 2) (oi := { dst := some 90, op := Op.move (Operand.tmp 89), type := 4, pos := "law.go:231", after := #[{ on := 1, ground := Ground.data }], guard := none }) (v := ?_) rfl (by kernel_rfl) (by kernel_rfl) (by kernel_rfl) (fun _ _ _ h => h) (Or.inl ⟨by rfl, ?_⟩) (by assumption) ?_
          rotate_left 1
          · (intro W hSW; (try dsimp only at hSW); first | (go_simp; done) | (go_simp; with_reducible rfl))
          try simp only [Act.put, List.setIfInBounds_toArray, List.set_cons_zero, List.set_cons_succ]
          refine wpAnyH_take (i := 3) (oi := { dst := some 91, op := Op.move (Operand.tmp 13), type := 67, pos := "law.go:231", after := #[{ on := 2, ground := Ground.guard }], guard := some (2, true) }) (v := undef) rfl (by kernel_rfl) (by kernel_rfl) (by kernel_rfl) (fun _ _ _ h => h) (Or.inr ⟨by rfl, rfl⟩) (by assumption) ?_
          try simp only [Act.put, List.setIfInBounds_toArray, List.set_cons_zero, List.set_cons_succ]
          refine wpAnyH_take (i := 4) (oi := { dst := some 92, op := Op.move (Operand.tmp 14), type := 3, pos := "law.go:231", after := #[{ on := 2, ground := Ground.guard }], guard := some (2, true) }) (v := undef) rfl (by kernel_rfl) (by kernel_rfl) (by kernel_rfl) (fun _ _ _ h => h) (Or.inr ⟨by rfl, rfl⟩) (by assumption) ?_
          try simp only [Act.put, List.setIfInBounds_toArray, List.set_cons_zero, List.set_cons_succ]
          refine wpAnyH_take (i := 5) (oi := { dst := some 93, op := Op.binOp BinOp.sub 3 (Operand.tmp 92) (Operand.const (Value.int IntKind.i64 1)) 3, type := 3, pos := "law.go:231", after := #[{ on := 4, ground := Ground.data }, { on := 2, ground := Ground.guard }], guard := some (2, true) }) (v := undef) rfl (by kernel_rfl) (by kernel_rfl) (by kernel_rfl) (fun _ _ _ h => h) (Or.inr ⟨by rfl, rfl⟩) (by assumption) ?_
          try simp only [Act.put, List.setIfInBounds_toArray, List.set_cons_zero, List.set_cons_succ]
          refine wpAnyH_take (i := 6) (oi := { dst := some 94, op := Op.indexAddr 67 (Operand.tmp 91) (Operand.tmp 93), type := 0, pos := "law.go:231", after := #[{ on := 3, ground := Ground.data }, { on := 5, ground := Ground.data }, { on := 2, ground := Ground.guard }], guard := some (2, true) }) (v := undef) rfl (by kernel_rfl) (by kernel_rfl) (by kernel_rfl) (fun _ _ _ h => h) (Or.inr ⟨by rfl, rfl⟩) (by assumption) ?_
          try simp only [Act.put, List.setIfInBounds_toArray, List.set_cons_zero, List.set_cons_succ]
          refine wpAnyH_take (i := 7) (oi := { dst := some 95, op := Op.indexAddr 79 (Operand.tmp 94) (Operand.const (Value.int IntKind.i64 0)), type := 0, pos := "law.go:231", after := #[{ on := 6, ground := Ground.data }, { on := 2, ground := Ground.guard }], guard := some (2, true) }) (v := undef) rfl (by kernel_rfl) (by kernel_rfl) (by kernel_rfl) (fun _ _ _ h => h) (Or.inr ⟨by rfl, rfl⟩) (by assumption) ?_
          try simp only [Act.put, List.setIfInBounds_toArray, List.set_cons_zero, List.set_cons_succ]
          refine wpAnyH_take (i := 8) (oi := { dst := some 96, op := Op.load 3 (Operand.tmp 95), type := 3, pos := "law.go:231", after := #[{ on := 7, ground := Ground.data }, { on := 2, ground := Ground.guard }], guard := some (2, true) }) (v := undef) rfl (by kernel_rfl) (by kernel_rfl) (by kernel_rfl) (fun _ _ _ h => h) (Or.inr ⟨by rfl, rfl⟩) (by assumption) ?_
          try simp only [Act.put, List.setIfInBounds_toArray, List.set_cons_zero, List.set_cons_succ]
          refine wpAnyH_take (i := 9) (oi := { dst := some 97, op := Op.move (Operand.tmp 15), type := 3, pos := "law.go:231", after := #[{ on := 2, ground := Ground.guard }], guard := some (2, true) }) (v := undef) rfl (by kernel_rfl) (by kernel_rfl) (by kernel_rfl) (fun _ _ _ h => h) (Or.inr ⟨by rfl, rfl⟩) (by assumption) ?_
          try simp only [Act.put, List.setIfInBounds_toArray, List.set_cons_zero, List.set_cons_succ]
          refine wpAnyH_take (i := 10) (oi := { dst := some 98, op := Op.binOp BinOp.gtr 3 (Operand.tmp 96) (Operand.tmp 97) 3, type := 4, pos := "law.go:231", after := #[{ on := 8, ground := Ground.data }, { on := 9, ground := Ground.data }, { on := 2, ground := Ground.guard }], guard := some (2, true) }) (v := undef) rfl (by kernel_rfl) (by kernel_rfl) (by kernel_rfl) (fun _ _ _ h => h) (Or.inr ⟨by rfl, rfl⟩) (by assumption) ?_
          try simp only [Act.put, List.setIfInBounds_toArray, List.set_cons_zero, List.set_cons_succ]
          refine wpAnyH_take (i := 11) (oi := { dst := some 99, op := Op.move (Operand.tmp 98), type := 4, pos := "law.go:231", after := #[{ on := 10, ground := Ground.data }, { on := 2, ground := Ground.chain }, { on := 2, ground := Ground.guard }], guard := some (2, true) }) (v := undef) rfl (by kernel_rfl) (by kernel_rfl) (by kernel_rfl) (fun _ _ _ h => h) (Or.inr ⟨by rfl, rfl⟩) (by assumption) ?_
          try simp only [Act.put, List.setIfInBounds_toArray, List.set_cons_zero, List.set_cons_succ]
          refine wpAnyH_take (i := 12) (oi := { dst := some 100, op := Op.move (Operand.tmp 13), type := 67, pos := "law.go:231", after := #[{ on := 11, ground := Ground.guard }], guard := some (11, false) }) (v := undef) rfl (by kernel_rfl) (by kernel_rfl) (by kernel_rfl) (fun _ _ _ h => h) (Or.inr ⟨by rfl, rfl⟩) (by assumption) ?_
          try simp only [Act.put, List.setIfInBounds_toArray, List.set_cons_zero, List.set_cons_succ]
          refine wpAnyH_take (i := 13) (oi := { dst := some 101, op := Op.move (Operand.tmp 14), type := 3, pos := "law.go:231", after := #[{ on := 11, ground := Ground.guard }], guard := some (11, false) }) (v := undef) rfl (by kernel_rfl) (by kernel_rfl) (by kernel_rfl) (fun _ _ _ h => h) (Or.inr ⟨by rfl, rfl⟩) (by assumption) ?_
          try simp only [Act.put, List.setIfInBounds_toArray, List.set_cons_zero, List.set_cons_succ]
          refine wpAnyH_take (i := 14) (oi := { dst := some 102, op := Op.binOp BinOp.sub 3 (Operand.tmp 101) (Operand.const (Value.int IntKind.i64 1)) 3, type := 3, pos := "law.go:231", after := #[{ on := 13, ground := Ground.data }, { on := 11, ground := Ground.guard }], guard := some (11, false) }) (v := undef) rfl (by kernel_rfl) (by kernel_rfl) (by kernel_rfl) (fun _ _ _ h => h) (Or.inr ⟨by rfl, rfl⟩) (by assumption) ?_
          try simp only [Act.put, List.setIfInBounds_toArray, List.set_cons_zero, List.set_cons_succ]
          refine wpAnyH_take (i := 15) (oi := { dst := some 103, op := Op.indexAddr 67 (Operand.tmp 100) (Operand.tmp 102), type := 0, pos := "law.go:231", after := #[{ on := 12, ground := Ground.data }, { on := 14, ground := Ground.data }, { on := 11, ground := Ground.guard }], guard := some (11, false) }) (v := undef) rfl (by kernel_rfl) (by kernel_rfl) (by kernel_rfl) (fun _ _ _ h => h) (Or.inr ⟨by rfl, rfl⟩) (by assumption) ?_
          try simp only [Act.put, List.setIfInBounds_toArray, List.set_cons_zero, List.set_cons_succ]
          refine wpAnyH_take (i := 16) (oi := { dst := some 104, op := Op.indexAddr 79 (Operand.tmp 103) (Operand.const (Value.int IntKind.i64 0)), type := 0, pos := "law.go:231", after := #[{ on := 15, ground := Ground.data }, { on := 11, ground := Ground.guard }], guard := some (11, false) }) (v := undef) rfl (by kernel_rfl) (by kernel_rfl) (by kernel_rfl) (fun _ _ _ h => h) (Or.inr ⟨by rfl, rfl⟩) (by assumption) ?_
          try simp only [Act.put, List.setIfInBounds_toArray, List.set_cons_zero, List.set_cons_succ]
          refine wpAnyH_take (i := 17) (oi := { dst := some 105, op := Op.load 3 (Operand.tmp 104), type := 3, pos := "law.go:231", after := #[{ on := 16, ground := Ground.data }, { on := 11, ground := Ground.guard }], guard := some (11, false) }) (v := undef) rfl (by kernel_rfl) (by kernel_rfl) (by kernel_rfl) (fun _ _ _ h => h) (Or.inr ⟨by rfl, rfl⟩) (by assumption) ?_
          try simp only [Act.put, List.setIfInBounds_toArray, List.set_cons_zero, List.set_cons_succ]
          refine wpAnyH_take (i := 18) (oi := { dst := some 106, op := Op.move (Operand.tmp 15), type := 3, pos := "law.go:231", after := #[{ on := 11, ground := Ground.guard }], guard := some (11, false) }) (v := undef) rfl (by kernel_rfl) (by kernel_rfl) (by kernel_rfl) (fun _ _ _ h => h) (Or.inr ⟨by rfl, rfl⟩) (by assumption) ?_
          try simp only [Act.put, List.setIfInBounds_toArray, List.set_cons_zero, List.set_cons_succ]
          refine wpAnyH_take (i := 19) (oi := { dst := some 107, op := Op.binOp BinOp.eql 3 (Operand.tmp 105) (Operand.tmp 106) 3, type := 4, pos := "law.go:231", after := #[{ on := 17, ground := Ground.data }, { on := 18, ground := Ground.data }, { on := 11, ground := Ground.guard }], guard := some (11, false) }) (v := undef) rfl (by kernel_rfl) (by kernel_rfl) (by kernel_rfl) (fun _ _ _ h => h) (Or.inr ⟨by rfl, rfl⟩) (by assumption) ?_
          try simp only [Act.put, List.setIfInBounds_toArray, List.set_cons_zero, List.set_cons_succ]
          refine wpAnyH_take (i := 20) (oi := { dst := some 108, op := Op.move (Operand.tmp 107), type := 4, pos := "law.go:231", after := #[{ on := 19, ground := Ground.data }, { on := 11, ground := Ground.chain }, { on := 11, ground := Ground.guard }], guard := some (11, false) }) (v := undef) rfl (by kernel_rfl) (by kernel_rfl) (by kernel_rfl) (fun _ _ _ h => h) (Or.inr ⟨by rfl, rfl⟩) (by assumption) ?_
          try simp only [Act.put, List.setIfInBounds_toArray, List.set_cons_zero, List.set_cons_succ]
          refine wpAnyH_take (i := 21) (oi := { dst := some 109, op := Op.move (Operand.tmp 13), type := 67, pos := "law.go:231", after := #[{ on := 20, ground := Ground.guard }], guard := some (20, true) }) (v := undef) rfl (by kernel_rfl) (by kernel_rfl) (by kernel_rfl) (fun _ _ _ h => h) (Or.inr ⟨by rfl, rfl⟩) (by assumption) ?_
          try simp only [Act.put, List.setIfInBounds_toArray, List.set_cons_zero, List.set_cons_succ]
          refine wpAnyH_take (i := 22) (oi := { dst := some 110, op := Op.move (Operand.tmp 14), type := 3, pos := "law.go:231", after := #[{ on := 20, ground := Ground.guard }], guard := some (20, true) }) (v := undef) rfl (by kernel_rfl) (by kernel_rfl) (by kernel_rfl) (fun _ _ _ h => h) (Or.inr ⟨by rfl, rfl⟩) (by assumption) ?_
          try simp only [Act.put, List.setIfInBounds_toArray, List.set_cons_zero, List.set_cons_succ]
          refine wpAnyH_take (i := 23) (oi := { dst := some 111, op := Op.binOp BinOp.sub 3 (Operand.tmp 110) (Operand.const (Value.int IntKind.i64 1)) 3, type := 3, pos := "law.go:231", after := #[{ on := 22, ground := Ground.data }, { on := 20, ground := Ground.guard }], guard := some (20, true) }) (v := undef) rfl (by kernel_rfl) (by kernel_rfl) (by kernel_rfl) (fun _ _ _ h => h) (Or.inr ⟨by rfl, rfl⟩) (by assumption) ?_
          try simp only [Act.put, List.setIfInBounds_toArray, List.set_cons_zero, List.set_cons_succ]
          refine wpAnyH_take (i := 24) (oi := { dst := some 112, op := Op.indexAddr 67 (Operand.tmp 109) (Operand.tmp 111), type := 0, pos := "law.go:231", after := #[{ on := 21, ground := Ground.data }, { on := 23, ground := Ground.data }, { on := 20, ground := Ground.guard }], guard := some (20, true) }) (v := undef) rfl (by kernel_rfl) (by kernel_rfl) (by kernel_rfl) (fun _ _ _ h => h) (Or.inr ⟨by rfl, rfl⟩) (by assumption) ?_
          try simp only [Act.put, List.setIfInBounds_toArray, List.set_cons_zero, List.set_cons_succ]
          refine wpAnyH_take (i := 25) (oi := { dst := some 113, op := Op.indexAddr 79 (Operand.tmp 112) (Operand.const (Value.int IntKind.i64 1)), type := 0, pos := "law.go:231", after := #[{ on := 24, ground := Ground.data }, { on := 20, ground := Ground.guard }], guard := some (20, true) }) (v := undef) rfl (by kernel_rfl) (by kernel_rfl) (by kernel_rfl) (fun _ _ _ h => h) (Or.inr ⟨by rfl, rfl⟩) (by assumption) ?_
          try simp only [Act.put, List.setIfInBounds_toArray, List.set_cons_zero, List.set_cons_succ]
          refine wpAnyH_take (i := 26) (oi := { dst := some 114, op := Op.load 3 (Operand.tmp 113), type := 3, pos := "law.go:231", after := #[{ on := 25, ground := Ground.data }, { on := 20, ground := Ground.guard }], guard := some (20, true) }) (v := undef) rfl (by kernel_rfl) (by kernel_rfl) (by kernel_rfl) (fun _ _ _ h => h) (Or.inr ⟨by rfl, rfl⟩) (by assumption) ?_
          try simp only [Act.put, List.setIfInBounds_toArray, List.set_cons_zero, List.set_cons_succ]
          refine wpAnyH_take (i := 27) (oi := { dst := some 115, op := Op.move (Operand.tmp 13), type := 67, pos := "law.go:231", after := #[{ on := 20, ground := Ground.guard }], guard := some (20, true) }) (v := undef) rfl (by kernel_rfl) (by kernel_rfl) (by kernel_rfl) (fun _ _ _ h => h) (Or.inr ⟨by rfl, rfl⟩) (by assumption) ?_
          try simp only [Act.put, List.setIfInBounds_toArray, List.set_cons_zero, List.set_cons_succ]
          refine wpAnyH_take (i := 28) (oi := { dst := some 116, op := Op.move (Operand.tmp 14), type := 3, pos := "law.go:231", after := #[{ on := 20, ground := Ground.guard }], guard := some (20, true) }) (v := undef) rfl (by kernel_rfl) (by kernel_rfl) (by kernel_rfl) (fun _ _ _ h => h) (Or.inr ⟨by rfl, rfl⟩) (by assumption) ?_
          try simp only [Act.put, List.setIfInBounds_toArray, List.set_cons_zero, List.set_cons_succ]
          refine wpAnyH_take (i := 29) (oi := { dst := some 117, op := Op.indexAddr 67 (Operand.tmp 115) (Operand.tmp 116), type := 0, pos := "law.go:231", after := #[{ on := 27, ground := Ground.data }, { on := 28, ground := Ground.data }, { on := 20, ground := Ground.guard }], guard := some (20, true) }) (v := undef) rfl (by kernel_rfl) (by kernel_rfl) (by kernel_rfl) (fun _ _ _ h => h) (Or.inr ⟨by rfl, rfl⟩) (by assumption) ?_
          try simp only [Act.put, List.setIfInBounds_toArray, List.set_cons_zero, List.set_cons_succ]
          refine wpAnyH_take (i := 30) (oi := { dst := some 118, op := Op.indexAddr 79 (Operand.tmp 117) (Operand.const (Value.int IntKind.i64 1)), type := 0, pos := "law.go:231", after := #[{ on := 29, ground := Ground.data }, { on := 20, ground := Ground.guard }], guard := some (20, true) }) (v := undef) rfl (by kernel_rfl) (by kernel_rfl) (by kernel_rfl) (fun _ _ _ h => h) (Or.inr ⟨by rfl, rfl⟩) (by assumption) ?_
          try simp only [Act.put, List.setIfInBounds_toArray, List.set_cons_zero, List.set_cons_succ]
          refine wpAnyH_take (i := 31) (oi := { dst := some 119, op := Op.load 3 (Operand.tmp 118), type := 3, pos := "law.go:231", after := #[{ on := 30, ground := Ground.data }, { on := 20, ground := Ground.guard }], guard := some (20, true) }) (v := undef) rfl (by kernel_rfl) (by kernel_rfl) (by kernel_rfl) (fun _ _ _ h => h) (Or.inr ⟨by rfl, rfl⟩) (by assumption) ?_
          try simp only [Act.put, List.setIfInBounds_toArray, List.set_cons_zero, List.set_cons_succ]
          refine wpAnyH_take (i := 32) (oi := { dst := some 120, op := Op.binOp BinOp.geq 3 (Operand.tmp 114) (Operand.tmp 119) 3, type := 4, pos := "law.go:231", after := #[{ on := 26, ground := Ground.data }, { on := 31, ground := Ground.data }, { on := 20, ground := Ground.guard }], guard := some (20, true) }) (v := undef) rfl (by kernel_rfl) (by kernel_rfl) (by kernel_rfl) (fun _ _ _ h => h) (Or.inr ⟨by rfl, rfl⟩) (by assumption) ?_
          try simp only [Act.put, List.setIfInBounds_toArray, List.set_cons_zero, List.set_cons_succ]
          refine wpAnyH_take (i := 33) (oi := { dst := some 121, op := Op.pick (Operand.tmp 108) (Operand.tmp 120) (Operand.const (Value.bool false)), type := 4, pos := "law.go:231", after := #[{ on := 20, ground := Ground.data }, { on := 32, ground := Ground.data }, { on := 11, ground := Ground.guard }], guard := some (11, false) }) (v := undef) rfl (by kernel_rfl) (by kernel_rfl) (by kernel_rfl) (fun _ _ _ h => h) (Or.inr ⟨by rfl, rfl⟩) (by assumption) ?_
          try simp only [Act.put, List.setIfInBounds_toArray, List.set_cons_zero, List.set_cons_succ]
          refine wpAnyH_take (i := 34) (oi := { dst := some 122, op := Op.pick (Operand.tmp 99) (Operand.const (Value.bool true)) (Operand.tmp 121), type := 4, pos := "law.go:231", after := #[{ on := 11, ground := Ground.data }, { on := 33, ground := Ground.data }, { on := 2, ground := Ground.guard }], guard := some (2, true) }) (v := undef) rfl (by kernel_rfl) (by kernel_rfl) (by kernel_rfl) (fun _ _ _ h => h) (Or.inr ⟨by rfl, rfl⟩) (by assumption) ?_
          try simp only [Act.put, List.setIfInBounds_toArray, List.set_cons_zero, List.set_cons_succ]
          refine wpAnyH_take (i := 35) (oi := { dst := some 123, op := Op.pick (Operand.tmp 90) (Operand.tmp 122) (Operand.const (Value.bool false)), type := 4, pos := "law.go:231", after := #[{ on := 2, ground := Ground.data }, { on := 34, ground := Ground.data }], guard := none }) (v := ?_) rfl (by kernel_rfl) (by kernel_rfl) (by kernel_rfl) (fun _ _ _ h => h) (Or.inl ⟨by rfl, ?_⟩) (by assumption) ?_
          rotate_left 1
          · (intro W hSW; (try dsimp only at hSW); first | (go_simp; done) | (go_simp; with_reducible rfl))
          try simp only [Act.put, List.setIfInBounds_toArray, List.set_cons_zero, List.set_cons_succ]
          refine wpAnyH_done (by kernel_rfl) ?_ _
          have hEND := hdr
          clear hHeld
          go_wp2_with fail
          go_roundg (m - (0 + 1))
          case measure => rw [HI.out.1]; omega
          case rel => exact ⟨0 + 1, rfl, rfl, by omega, HI.out.2.trans (HWX.out.trans hEND)⟩
        · obtain ⟨j, hj⟩ : ∃ j, k = j + 1 := ⟨k - 1, by omega⟩
          subst hj
          obtain ⟨q, hq⟩ : ∃ q, (freeTo A f)[j]? = some q := ⟨_, List.getElem?_eq_getElem (by rw [HM.out]; omega)⟩
          have hlex := free_next HA.out.1 hq HP.out.1
          obtain ⟨_, _, ee, m0, m1⟩ := HPR.out.2 j _ hq
          cases ee
          obtain ⟨_, _, ee, l0, l1⟩ := HPR.out.2 (j + 1) _ HP.out.1
          cases ee
          rw [HP.out.2.1] at l0
          rw [HP.out.2.2] at l1
          unfold LexLt at hlex
          rw [HP.out.2.1, HP.out.2.2] at hlex
          obtain ⟨q1, hq1⟩ : ∃ z, q.1 = z := ⟨_, rfl⟩
          obtain ⟨q2, hq2⟩ : ∃ z, q.2 = z := ⟨_, rfl⟩
          rw [hq1] at hlex m0
          rw [hq2] at hlex m1
          clear hq hq1 hq2
          have hjB : decide (j < m) = true := by simp; omega
          have hjI : (j : Int) < (m : Int) := by omega
          have hj0 : (0 : Int) ≤ (j : Int) := by omega
          have hj2 : (0 : Int) ≤ (j : Int) + 1 := by omega
          have hj3 : (j : Int) + 1 < (m : Int) := by omega
          have hwj : IntKind.i64.wrap (j : Int) = (j : Int) := IntWalk.i64_in _ (by omega)
          rcases hlex with hlt | ⟨heq, hlt⟩
          · have hA1 : decide ((i : Int) < q1) = false := by simp; omega
            have hA2 : decide (q1 = (i : Int)) = false := by simp; omega
            have hA3 : (q1 == (i : Int)) = false := by simp; omega
            have HS := Lib.hid (fun (Wh : World) (hWh : wc2.grownBy Wh none) => (⟨hWh, hWh.cell m0 (by simp), hWh.cell m1 (by simp), hWh.cell l0 (by simp), hWh.cell l1 (by simp)⟩ : (fun Wh : World => wc2.grownBy Wh none ∧ Wh.cell? ⟨lb, lo + j * 2, none⟩ = some (.int .i64 q1) ∧ Wh.cell? ⟨lb, lo + j * 2 + 1, none⟩ = some (.int .i64 q2) ∧ Wh.cell? ⟨lb, lo + (j + 1) * 2, none⟩ = some (.int .i64 (i : Int)) ∧ Wh.cell? ⟨lb, lo + (j + 1) * 2 + 1, none⟩ = some (.int .i64 r)) Wh))
            have hdr : wc2.grownBy wc2.drew none := ⟨rfl, rfl, rfl, Nat.le_refl _, fun _ _ _ => rfl⟩
            refine wp_region_held_drew (S := (fun Wh : World => wc2.grownBy Wh none ∧ Wh.cell? ⟨lb, lo + j * 2, none⟩ = some (.int .i64 q1) ∧ Wh.cell? ⟨lb, lo + j * 2 + 1, none⟩ = some (.int .i64 q2) ∧ Wh.cell? ⟨lb, lo + (j + 1) * 2, none⟩ = some (.int .i64 (i : Int)) ∧ Wh.cell? ⟨lb, lo + (j + 1) * 2 + 1, none⟩ = some (.int .i64 r))) (by kernel_rfl) (HS.out _ hdr) (fun hHeld => ?_)
            refine wpAnyH_take (i := 0) (oi := { dst := some 88, op := Op.move (Operand.tmp 14), type := 3, pos := "law.go:231", after := #[], guard := none }) (v := ?_) rfl (by kernel_rfl) (by kernel_rfl) (by kernel_rfl) (fun _ _ _ h => h) (Or.inl ⟨by rfl, ?_⟩) (by assumption) ?_
            rotate_left 1
            · (intro W hSW; (try dsimp only at hSW); first | (go_simp; done) | (go_simp; with_reducible rfl))
            try simp only [Act.put, List.setIfInBounds_toArray, List.set_cons_zero, List.set_cons_succ]
            refine wpAnyH_take (i := 1) (oi := { dst := some 89, op := Op.binOp BinOp.gtr 3 (Operand.tmp 88) (Operand.const (Value.int IntKind.i64 0)) 3, type := 4, pos := "law.go:231", after := #[{ on := 0, ground := Ground.data }], guard := none }) (v := ?_) rfl (by kernel_rfl) (by kernel_rfl) (by kernel_rfl) (fun _ _ _ h => h) (Or.inl ⟨by rfl, ?_⟩) (by assumption) ?_
            rotate_left 1
            · (intro W hSW; (try dsimp only at hSW); first | (go_simp; done) | (go_simp; with_reducible rfl))
            try simp only [Act.put, List.setIfInBounds_toArray, List.set_cons_zero, List.set_cons_succ]
            refine wpAnyH_take (i := 2) (oi := { dst := some 90, op := Op.move (Operand.tmp 89), type := 4, pos := "law.go:231", after := #[{ on := 1, ground := Ground.data }], guard := none }) (v := ?_) rfl (by kernel_rfl) (by kernel_rfl) (by kernel_rfl) (fun _ _ _ h => h) (Or.inl ⟨by rfl, ?_⟩) (by assumption) ?_
            rotate_left 1
            · (intro W hSW; (try dsimp only at hSW); first | (go_simp; done) | (go_simp; with_reducible rfl))
            try simp only [Act.put, List.setIfInBounds_toArray, List.set_cons_zero, List.set_cons_succ]
            refine wpAnyH_take (i := 3) (oi := { dst := some 91, op := Op.move (Operand.tmp 13), type := 67, pos := "law.go:231", after := #[{ on := 2, ground := Ground.guard }], guard := some (2, true) }) (v := ?_) rfl (by kernel_rfl) (by kernel_rfl) (by kernel_rfl) (fun _ _ _ h => h) (Or.inl ⟨by rfl, ?_⟩) (by assumption) ?_
            rotate_left 1
            · (intro W hSW; (try dsimp only at hSW); first | (go_simp; done) | (go_simp; with_reducible rfl))
            try simp only [Act.put, List.setIfInBounds_toArray, List.set_cons_zero, List.set_cons_succ]
            refine wpAnyH_take (i := 4) (oi := { dst := some 92, op := Op.move (Operand.tmp 14), type := 3, pos := "law.go:231", after := #[{ on := 2, ground := Ground.guard }], guard := some (2, true) }) (v := ?_) rfl (by kernel_rfl) (by kernel_rfl) (by kernel_rfl) (fun _ _ _ h => h) (Or.inl ⟨by rfl, ?_⟩) (by assumption) ?_
            rotate_left 1
            · (intro W hSW; (try dsimp only at hSW); first | (go_simp; done) | (go_simp; with_reducible rfl))
            try simp only [Act.put, List.setIfInBounds_toArray, List.set_cons_zero, List.set_cons_succ]
            refine wpAnyH_take (i := 5) (oi := { dst := some 93, op := Op.binOp BinOp.sub 3 (Operand.tmp 92) (Operand.const (Value.int IntKind.i64 1)) 3, type := 3, pos := "law.go:231", after := #[{ on := 4, ground := Ground.data }, { on := 2, ground := Ground.guard }], guard := some (2, true) }) (v := ?_) rfl (by kernel_rfl) (by kernel_rfl) (by kernel_rfl) (fun _ _ _ h => h) (Or.inl ⟨by rfl, ?_⟩) (by assumption) ?_
            rotate_left 1
            · (intro W hSW; (try dsimp only at hSW); first | (go_simp; done) | (go_simp; with_reducible rfl))
            try simp only [Act.put, List.setIfInBounds_toArray, List.set_cons_zero, List.set_cons_succ]
            refine wpAnyH_take (i := 6) (oi := { dst := some 94, op := Op.indexAddr 67 (Operand.tmp 91) (Operand.tmp 93), type := 0, pos := "law.go:231", after := #[{ on := 3, ground := Ground.data }, { on := 5, ground := Ground.data }, { on := 2, ground := Ground.guard }], guard := some (2, true) }) (v := ?_) rfl (by kernel_rfl) (by kernel_rfl) (by kernel_rfl) (fun _ _ _ h => h) (Or.inl ⟨by rfl, ?_⟩) (by assumption) ?_
            rotate_left 1
            · (intro W hSW; (try dsimp only at hSW); first | (go_simp; done) | (go_simp; with_reducible rfl))
            try simp only [Act.put, List.setIfInBounds_toArray, List.set_cons_zero, List.set_cons_succ]
            refine wpAnyH_take (i := 7) (oi := { dst := some 95, op := Op.indexAddr 79 (Operand.tmp 94) (Operand.const (Value.int IntKind.i64 0)), type := 0, pos := "law.go:231", after := #[{ on := 6, ground := Ground.data }, { on := 2, ground := Ground.guard }], guard := some (2, true) }) (v := ?_) rfl (by kernel_rfl) (by kernel_rfl) (by kernel_rfl) (fun _ _ _ h => h) (Or.inl ⟨by rfl, ?_⟩) (by assumption) ?_
            rotate_left 1
            · (intro W hSW; (try dsimp only at hSW); first | (go_simp; done) | (go_simp; with_reducible rfl))
            try simp only [Act.put, List.setIfInBounds_toArray, List.set_cons_zero, List.set_cons_succ]
            refine wpAnyH_take (i := 8) (oi := { dst := some 96, op := Op.load 3 (Operand.tmp 95), type := 3, pos := "law.go:231", after := #[{ on := 7, ground := Ground.data }, { on := 2, ground := Ground.guard }], guard := some (2, true) }) (v := ?_) rfl (by kernel_rfl) (by kernel_rfl) (by kernel_rfl) (fun _ _ _ h => h) (Or.inl ⟨by rfl, ?_⟩) (by assumption) ?_
            rotate_left 1
            · (intro W hSW; (try dsimp only at hSW); first | (go_simp; done) | (go_simp; with_reducible rfl))
            try simp only [Act.put, List.setIfInBounds_toArray, List.set_cons_zero, List.set_cons_succ]
            refine wpAnyH_take (i := 9) (oi := { dst := some 97, op := Op.move (Operand.tmp 15), type := 3, pos := "law.go:231", after := #[{ on := 2, ground := Ground.guard }], guard := some (2, true) }) (v := ?_) rfl (by kernel_rfl) (by kernel_rfl) (by kernel_rfl) (fun _ _ _ h => h) (Or.inl ⟨by rfl, ?_⟩) (by assumption) ?_
            rotate_left 1
            · (intro W hSW; (try dsimp only at hSW); first | (go_simp; done) | (go_simp; with_reducible rfl))
            try simp only [Act.put, List.setIfInBounds_toArray, List.set_cons_zero, List.set_cons_succ]
            refine wpAnyH_take (i := 10) (oi := { dst := some 98, op := Op.binOp BinOp.gtr 3 (Operand.tmp 96) (Operand.tmp 97) 3, type := 4, pos := "law.go:231", after := #[{ on := 8, ground := Ground.data }, { on := 9, ground := Ground.data }, { on := 2, ground := Ground.guard }], guard := some (2, true) }) (v := ?_) rfl (by kernel_rfl) (by kernel_rfl) (by kernel_rfl) (fun _ _ _ h => h) (Or.inl ⟨by rfl, ?_⟩) (by assumption) ?_
            rotate_left 1
            · (intro W hSW; (try dsimp only at hSW); first | (go_simp; done) | (go_simp; with_reducible rfl))
            try simp only [Act.put, List.setIfInBounds_toArray, List.set_cons_zero, List.set_cons_succ]
            refine wpAnyH_take (i := 11) (oi := { dst := some 99, op := Op.move (Operand.tmp 98), type := 4, pos := "law.go:231", after := #[{ on := 10, ground := Ground.data }, { on := 2, ground := Ground.chain }, { on := 2, ground := Ground.guard }], guard := some (2, true) }) (v := ?_) rfl (by kernel_rfl) (by kernel_rfl) (by kernel_rfl) (fun _ _ _ h => h) (Or.inl ⟨by rfl, ?_⟩) (by assumption) ?_
            rotate_left 1
            · (intro W hSW; (try dsimp only at hSW); first | (go_simp; done) | (go_simp; with_reducible rfl))
            try simp only [Act.put, List.setIfInBounds_toArray, List.set_cons_zero, List.set_cons_succ]
            refine wpAnyH_take (i := 12) (oi := { dst := some 100, op := Op.move (Operand.tmp 13), type := 67, pos := "law.go:231", after := #[{ on := 11, ground := Ground.guard }], guard := some (11, false) }) (v := ?_) rfl (by kernel_rfl) (by kernel_rfl) (by kernel_rfl) (fun _ _ _ h => h) (Or.inl ⟨by rfl, ?_⟩) (by assumption) ?_
            rotate_left 1
            · (intro W hSW; (try dsimp only at hSW); first | (go_simp; done) | (go_simp; with_reducible rfl))
            try simp only [Act.put, List.setIfInBounds_toArray, List.set_cons_zero, List.set_cons_succ]
            refine wpAnyH_take (i := 13) (oi := { dst := some 101, op := Op.move (Operand.tmp 14), type := 3, pos := "law.go:231", after := #[{ on := 11, ground := Ground.guard }], guard := some (11, false) }) (v := ?_) rfl (by kernel_rfl) (by kernel_rfl) (by kernel_rfl) (fun _ _ _ h => h) (Or.inl ⟨by rfl, ?_⟩) (by assumption) ?_
            rotate_left 1
            · (intro W hSW; (try dsimp only at hSW); first | (go_simp; done) | (go_simp; with_reducible rfl))
            try simp only [Act.put, List.setIfInBounds_toArray, List.set_cons_zero, List.set_cons_succ]
            refine wpAnyH_take (i := 14) (oi := { dst := some 102, op := Op.binOp BinOp.sub 3 (Operand.tmp 101) (Operand.const (Value.int IntKind.i64 1)) 3, type := 3, pos := "law.go:231", after := #[{ on := 13, ground := Ground.data }, { on := 11, ground := Ground.guard }], guard := some (11, false) }) (v := ?_) rfl (by kernel_rfl) (by kernel_rfl) (by kernel_rfl) (fun _ _ _ h => h) (Or.inl ⟨by rfl, ?_⟩) (by assumption) ?_
            rotate_left 1
            · (intro W hSW; (try dsimp only at hSW); first | (go_simp; done) | (go_simp; with_reducible rfl))
            try simp only [Act.put, List.setIfInBounds_toArray, List.set_cons_zero, List.set_cons_succ]
            refine wpAnyH_take (i := 15) (oi := { dst := some 103, op := Op.indexAddr 67 (Operand.tmp 100) (Operand.tmp 102), type := 0, pos := "law.go:231", after := #[{ on := 12, ground := Ground.data }, { on := 14, ground := Ground.data }, { on := 11, ground := Ground.guard }], guard := some (11, false) }) (v := ?_) rfl (by kernel_rfl) (by kernel_rfl) (by kernel_rfl) (fun _ _ _ h => h) (Or.inl ⟨by rfl, ?_⟩) (by assumption) ?_
            rotate_left 1
            · (intro W hSW; (try dsimp only at hSW); first | (go_simp; done) | (go_simp; with_reducible rfl))
            try simp only [Act.put, List.setIfInBounds_toArray, List.set_cons_zero, List.set_cons_succ]
            refine wpAnyH_take (i := 16) (oi := { dst := some 104, op := Op.indexAddr 79 (Operand.tmp 103) (Operand.const (Value.int IntKind.i64 0)), type := 0, pos := "law.go:231", after := #[{ on := 15, ground := Ground.data }, { on := 11, ground := Ground.guard }], guard := some (11, false) }) (v := ?_) rfl (by kernel_rfl) (by kernel_rfl) (by kernel_rfl) (fun _ _ _ h => h) (Or.inl ⟨by rfl, ?_⟩) (by assumption) ?_
            rotate_left 1
            · (intro W hSW; (try dsimp only at hSW); first | (go_simp; done) | (go_simp; with_reducible rfl))
            try simp only [Act.put, List.setIfInBounds_toArray, List.set_cons_zero, List.set_cons_succ]
            refine wpAnyH_take (i := 17) (oi := { dst := some 105, op := Op.load 3 (Operand.tmp 104), type := 3, pos := "law.go:231", after := #[{ on := 16, ground := Ground.data }, { on := 11, ground := Ground.guard }], guard := some (11, false) }) (v := ?_) rfl (by kernel_rfl) (by kernel_rfl) (by kernel_rfl) (fun _ _ _ h => h) (Or.inl ⟨by rfl, ?_⟩) (by assumption) ?_
            rotate_left 1
            · (intro W hSW; (try dsimp only at hSW); first | (go_simp; done) | (go_simp; with_reducible rfl))
            try simp only [Act.put, List.setIfInBounds_toArray, List.set_cons_zero, List.set_cons_succ]
            refine wpAnyH_take (i := 18) (oi := { dst := some 106, op := Op.move (Operand.tmp 15), type := 3, pos := "law.go:231", after := #[{ on := 11, ground := Ground.guard }], guard := some (11, false) }) (v := ?_) rfl (by kernel_rfl) (by kernel_rfl) (by kernel_rfl) (fun _ _ _ h => h) (Or.inl ⟨by rfl, ?_⟩) (by assumption) ?_
            rotate_left 1
            · (intro W hSW; (try dsimp only at hSW); first | (go_simp; done) | (go_simp; with_reducible rfl))
            try simp only [Act.put, List.setIfInBounds_toArray, List.set_cons_zero, List.set_cons_succ]
            refine wpAnyH_take (i := 19) (oi := { dst := some 107, op := Op.binOp BinOp.eql 3 (Operand.tmp 105) (Operand.tmp 106) 3, type := 4, pos := "law.go:231", after := #[{ on := 17, ground := Ground.data }, { on := 18, ground := Ground.data }, { on := 11, ground := Ground.guard }], guard := some (11, false) }) (v := ?_) rfl (by kernel_rfl) (by kernel_rfl) (by kernel_rfl) (fun _ _ _ h => h) (Or.inl ⟨by rfl, ?_⟩) (by assumption) ?_
            rotate_left 1
            · (intro W hSW; (try dsimp only at hSW); first | (go_simp; done) | (go_simp; with_reducible rfl))
            try simp only [Act.put, List.setIfInBounds_toArray, List.set_cons_zero, List.set_cons_succ]
            refine wpAnyH_take (i := 20) (oi := { dst := some 108, op := Op.move (Operand.tmp 107), type := 4, pos := "law.go:231", after := #[{ on := 19, ground := Ground.data }, { on := 11, ground := Ground.chain }, { on := 11, ground := Ground.guard }], guard := some (11, false) }) (v := ?_) rfl (by kernel_rfl) (by kernel_rfl) (by kernel_rfl) (fun _ _ _ h => h) (Or.inl ⟨by rfl, ?_⟩) (by assumption) ?_
            rotate_left 1
            · (intro W hSW; (try dsimp only at hSW); first | (go_simp; done) | (go_simp; with_reducible rfl))
            try simp only [Act.put, List.setIfInBounds_toArray, List.set_cons_zero, List.set_cons_succ]
            refine wpAnyH_take (i := 21) (oi := { dst := some 109, op := Op.move (Operand.tmp 13), type := 67, pos := "law.go:231", after := #[{ on := 20, ground := Ground.guard }], guard := some (20, true) }) (v := undef) rfl (by kernel_rfl) (by kernel_rfl) (by kernel_rfl) (fun _ _ _ h => h) (Or.inr ⟨by rfl, rfl⟩) (by assumption) ?_
            try simp only [Act.put, List.setIfInBounds_toArray, List.set_cons_zero, List.set_cons_succ]
            refine wpAnyH_take (i := 22) (oi := { dst := some 110, op := Op.move (Operand.tmp 14), type := 3, pos := "law.go:231", after := #[{ on := 20, ground := Ground.guard }], guard := some (20, true) }) (v := undef) rfl (by kernel_rfl) (by kernel_rfl) (by kernel_rfl) (fun _ _ _ h => h) (Or.inr ⟨by rfl, rfl⟩) (by assumption) ?_
            try simp only [Act.put, List.setIfInBounds_toArray, List.set_cons_zero, List.set_cons_succ]
            refine wpAnyH_take (i := 23) (oi := { dst := some 111, op := Op.binOp BinOp.sub 3 (Operand.tmp 110) (Operand.const (Value.int IntKind.i64 1)) 3, type := 3, pos := "law.go:231", after := #[{ on := 22, ground := Ground.data }, { on := 20, ground := Ground.guard }], guard := some (20, true) }) (v := undef) rfl (by kernel_rfl) (by kernel_rfl) (by kernel_rfl) (fun _ _ _ h => h) (Or.inr ⟨by rfl, rfl⟩) (by assumption) ?_
            try simp only [Act.put, List.setIfInBounds_toArray, List.set_cons_zero, List.set_cons_succ]
            refine wpAnyH_take (i := 24) (oi := { dst := some 112, op := Op.indexAddr 67 (Operand.tmp 109) (Operand.tmp 111), type := 0, pos := "law.go:231", after := #[{ on := 21, ground := Ground.data }, { on := 23, ground := Ground.data }, { on := 20, ground := Ground.guard }], guard := some (20, true) }) (v := undef) rfl (by kernel_rfl) (by kernel_rfl) (by kernel_rfl) (fun _ _ _ h => h) (Or.inr ⟨by rfl, rfl⟩) (by assumption) ?_
            try simp only [Act.put, List.setIfInBounds_toArray, List.set_cons_zero, List.set_cons_succ]
            refine wpAnyH_take (i := 25) (oi := { dst := some 113, op := Op.indexAddr 79 (Operand.tmp 112) (Operand.const (Value.int IntKind.i64 1)), type := 0, pos := "law.go:231", after := #[{ on := 24, ground := Ground.data }, { on := 20, ground := Ground.guard }], guard := some (20, true) }) (v := undef) rfl (by kernel_rfl) (by kernel_rfl) (by kernel_rfl) (fun _ _ _ h => h) (Or.inr ⟨by rfl, rfl⟩) (by assumption) ?_
            try simp only [Act.put, List.setIfInBounds_toArray, List.set_cons_zero, List.set_cons_succ]
            refine wpAnyH_take (i := 26) (oi := { dst := some 114, op := Op.load 3 (Operand.tmp 113), type := 3, pos := "law.go:231", after := #[{ on := 25, ground := Ground.data }, { on := 20, ground := Ground.guard }], guard := some (20, true) }) (v := undef) rfl (by kernel_rfl) (by kernel_rfl) (by kernel_rfl) (fun _ _ _ h => h) (Or.inr ⟨by rfl, rfl⟩) (by assumption) ?_
            try simp only [Act.put, List.setIfInBounds_toArray, List.set_cons_zero, List.set_cons_succ]
            refine wpAnyH_take (i := 27) (oi := { dst := some 115, op := Op.move (Operand.tmp 13), type := 67, pos := "law.go:231", after := #[{ on := 20, ground := Ground.guard }], guard := some (20, true) }) (v := undef) rfl (by kernel_rfl) (by kernel_rfl) (by kernel_rfl) (fun _ _ _ h => h) (Or.inr ⟨by rfl, rfl⟩) (by assumption) ?_
            try simp only [Act.put, List.setIfInBounds_toArray, List.set_cons_zero, List.set_cons_succ]
            refine wpAnyH_take (i := 28) (oi := { dst := some 116, op := Op.move (Operand.tmp 14), type := 3, pos := "law.go:231", after := #[{ on := 20, ground := Ground.guard }], guard := some (20, true) }) (v := undef) rfl (by kernel_rfl) (by kernel_rfl) (by kernel_rfl) (fun _ _ _ h => h) (Or.inr ⟨by rfl, rfl⟩) (by assumption) ?_
            try simp only [Act.put, List.setIfInBounds_toArray, List.set_cons_zero, List.set_cons_succ]
            refine wpAnyH_take (i := 29) (oi := { dst := some 117, op := Op.indexAddr 67 (Operand.tmp 115) (Operand.tmp 116), type := 0, pos := "law.go:231", after := #[{ on := 27, ground := Ground.data }, { on := 28, ground := Ground.data }, { on := 20, ground := Ground.guard }], guard := some (20, true) }) (v := undef) rfl (by kernel_rfl) (by kernel_rfl) (by kernel_rfl) (fun _ _ _ h => h) (Or.inr ⟨by rfl, rfl⟩) (by assumption) ?_
            try simp only [Act.put, List.setIfInBounds_toArray, List.set_cons_zero, List.set_cons_succ]
            refine wpAnyH_take (i := 30) (oi := { dst := some 118, op := Op.indexAddr 79 (Operand.tmp 117) (Operand.const (Value.int IntKind.i64 1)), type := 0, pos := "law.go:231", after := #[{ on := 29, ground := Ground.data }, { on := 20, ground := Ground.guard }], guard := some (20, true) }) (v := undef) rfl (by kernel_rfl) (by kernel_rfl) (by kernel_rfl) (fun _ _ _ h => h) (Or.inr ⟨by rfl, rfl⟩) (by assumption) ?_
            try simp only [Act.put, List.setIfInBounds_toArray, List.set_cons_zero, List.set_cons_succ]
            refine wpAnyH_take (i := 31) (oi := { dst := some 119, op := Op.load 3 (Operand.tmp 118), type := 3, pos := "law.go:231", after := #[{ on := 30, ground := Ground.data }, { on := 20, ground := Ground.guard }], guard := some (20, true) }) (v := undef) rfl (by kernel_rfl) (by kernel_rfl) (by kernel_rfl) (fun _ _ _ h => h) (Or.inr ⟨by rfl, rfl⟩) (by assumption) ?_
            try simp only [Act.put, List.setIfInBounds_toArray, List.set_cons_zero, List.set_cons_succ]
            refine wpAnyH_take (i := 32) (oi := { dst := some 120, op := Op.binOp BinOp.geq 3 (Operand.tmp 114) (Operand.tmp 119) 3, type := 4, pos := "law.go:231", after := #[{ on := 26, ground := Ground.data }, { on := 31, ground := Ground.data }, { on := 20, ground := Ground.guard }], guard := some (20, true) }) (v := undef) rfl (by kernel_rfl) (by kernel_rfl) (by kernel_rfl) (fun _ _ _ h => h) (Or.inr ⟨by rfl, rfl⟩) (by assumption) ?_
            try simp only [Act.put, List.setIfInBounds_toArray, List.set_cons_zero, List.set_cons_succ]
            refine wpAnyH_take (i := 33) (oi := { dst := some 121, op := Op.pick (Operand.tmp 108) (Operand.tmp 120) (Operand.const (Value.bool false)), type := 4, pos := "law.go:231", after := #[{ on := 20, ground := Ground.data }, { on := 32, ground := Ground.data }, { on := 11, ground := Ground.guard }], guard := some (11, false) }) (v := ?_) rfl (by kernel_rfl) (by kernel_rfl) (by kernel_rfl) (fun _ _ _ h => h) (Or.inl ⟨by rfl, ?_⟩) (by assumption) ?_
            rotate_left 1
            · (intro W hSW; (try dsimp only at hSW); first | (go_simp; done) | (go_simp; with_reducible rfl))
            try simp only [Act.put, List.setIfInBounds_toArray, List.set_cons_zero, List.set_cons_succ]
            refine wpAnyH_take (i := 34) (oi := { dst := some 122, op := Op.pick (Operand.tmp 99) (Operand.const (Value.bool true)) (Operand.tmp 121), type := 4, pos := "law.go:231", after := #[{ on := 11, ground := Ground.data }, { on := 33, ground := Ground.data }, { on := 2, ground := Ground.guard }], guard := some (2, true) }) (v := ?_) rfl (by kernel_rfl) (by kernel_rfl) (by kernel_rfl) (fun _ _ _ h => h) (Or.inl ⟨by rfl, ?_⟩) (by assumption) ?_
            rotate_left 1
            · (intro W hSW; (try dsimp only at hSW); first | (go_simp; done) | (go_simp; with_reducible rfl))
            try simp only [Act.put, List.setIfInBounds_toArray, List.set_cons_zero, List.set_cons_succ]
            refine wpAnyH_take (i := 35) (oi := { dst := some 123, op := Op.pick (Operand.tmp 90) (Operand.tmp 122) (Operand.const (Value.bool false)), type := 4, pos := "law.go:231", after := #[{ on := 2, ground := Ground.data }, { on := 34, ground := Ground.data }], guard := none }) (v := ?_) rfl (by kernel_rfl) (by kernel_rfl) (by kernel_rfl) (fun _ _ _ h => h) (Or.inl ⟨by rfl, ?_⟩) (by assumption) ?_
            rotate_left 1
            · (intro W hSW; (try dsimp only at hSW); first | (go_simp; done) | (go_simp; with_reducible rfl))
            try simp only [Act.put, List.setIfInBounds_toArray, List.set_cons_zero, List.set_cons_succ]
            refine wpAnyH_done (by kernel_rfl) ?_ _
            have hEND := hdr
            clear hHeld
            go_wp2_with fail
            go_roundg (m - (j + 1 + 1))
            case measure => rw [HI.out.1]; omega
            case rel => exact ⟨j + 1 + 1, rfl, rfl, by omega, HI.out.2.trans (HWX.out.trans hEND)⟩
          · rw [heq] at m0
            have hB1 : decide (r ≤ q2) = false := by simp; omega
            have HS := Lib.hid (fun (Wh : World) (hWh : wc2.grownBy Wh none) => (⟨hWh, hWh.cell m0 (by simp), hWh.cell m1 (by simp), hWh.cell l0 (by simp), hWh.cell l1 (by simp)⟩ : (fun Wh : World => wc2.grownBy Wh none ∧ Wh.cell? ⟨lb, lo + j * 2, none⟩ = some (.int .i64 (i : Int)) ∧ Wh.cell? ⟨lb, lo + j * 2 + 1, none⟩ = some (.int .i64 q2) ∧ Wh.cell? ⟨lb, lo + (j + 1) * 2, none⟩ = some (.int .i64 (i : Int)) ∧ Wh.cell? ⟨lb, lo + (j + 1) * 2 + 1, none⟩ = some (.int .i64 r)) Wh))
            have hdr : wc2.grownBy wc2.drew none := ⟨rfl, rfl, rfl, Nat.le_refl _, fun _ _ _ => rfl⟩
            refine wp_region_held_drew (S := (fun Wh : World => wc2.grownBy Wh none ∧ Wh.cell? ⟨lb, lo + j * 2, none⟩ = some (.int .i64 (i : Int)) ∧ Wh.cell? ⟨lb, lo + j * 2 + 1, none⟩ = some (.int .i64 q2) ∧ Wh.cell? ⟨lb, lo + (j + 1) * 2, none⟩ = some (.int .i64 (i : Int)) ∧ Wh.cell? ⟨lb, lo + (j + 1) * 2 + 1, none⟩ = some (.int .i64 r))) (by kernel_rfl) (HS.out _ hdr) (fun hHeld => ?_)
            refine wpAnyH_take (i := 0) (oi := { dst := some 88, op := Op.move (Operand.tmp 14), type := 3, pos := "law.go:231", after := #[], guard := none }) (v := ?_) rfl (by kernel_rfl) (by kernel_rfl) (by kernel_rfl) (fun _ _ _ h => h) (Or.inl ⟨by rfl, ?_⟩) (by assumption) ?_
            rotate_left 1
            · (intro W hSW; (try dsimp only at hSW); first | (go_simp; done) | (go_simp; with_reducible rfl))
            try simp only [Act.put, List.setIfInBounds_toArray, List.set_cons_zero, List.set_cons_succ]
            refine wpAnyH_take (i := 1) (oi := { dst := some 89, op := Op.binOp BinOp.gtr 3 (Operand.tmp 88) (Operand.const (Value.int IntKind.i64 0)) 3, type := 4, pos := "law.go:231", after := #[{ on := 0, ground := Ground.data }], guard := none }) (v := ?_) rfl (by kernel_rfl) (by kernel_rfl) (by kernel_rfl) (fun _ _ _ h => h) (Or.inl ⟨by rfl, ?_⟩) (by assumption) ?_
            rotate_left 1
            · (intro W hSW; (try dsimp only at hSW); first | (go_simp; done) | (go_simp; with_reducible rfl))
            try simp only [Act.put, List.setIfInBounds_toArray, List.set_cons_zero, List.set_cons_succ]
            refine wpAnyH_take (i := 2) (oi := { dst := some 90, op := Op.move (Operand.tmp 89), type := 4, pos := "law.go:231", after := #[{ on := 1, ground := Ground.data }], guard := none }) (v := ?_) rfl (by kernel_rfl) (by kernel_rfl) (by kernel_rfl) (fun _ _ _ h => h) (Or.inl ⟨by rfl, ?_⟩) (by assumption) ?_
            rotate_left 1
            · (intro W hSW; (try dsimp only at hSW); first | (go_simp; done) | (go_simp; with_reducible rfl))
            try simp only [Act.put, List.setIfInBounds_toArray, List.set_cons_zero, List.set_cons_succ]
            refine wpAnyH_take (i := 3) (oi := { dst := some 91, op := Op.move (Operand.tmp 13), type := 67, pos := "law.go:231", after := #[{ on := 2, ground := Ground.guard }], guard := some (2, true) }) (v := ?_) rfl (by kernel_rfl) (by kernel_rfl) (by kernel_rfl) (fun _ _ _ h => h) (Or.inl ⟨by rfl, ?_⟩) (by assumption) ?_
            rotate_left 1
            · (intro W hSW; (try dsimp only at hSW); first | (go_simp; done) | (go_simp; with_reducible rfl))
            try simp only [Act.put, List.setIfInBounds_toArray, List.set_cons_zero, List.set_cons_succ]
            refine wpAnyH_take (i := 4) (oi := { dst := some 92, op := Op.move (Operand.tmp 14), type := 3, pos := "law.go:231", after := #[{ on := 2, ground := Ground.guard }], guard := some (2, true) }) (v := ?_) rfl (by kernel_rfl) (by kernel_rfl) (by kernel_rfl) (fun _ _ _ h => h) (Or.inl ⟨by rfl, ?_⟩) (by assumption) ?_
            rotate_left 1
            · (intro W hSW; (try dsimp only at hSW); first | (go_simp; done) | (go_simp; with_reducible rfl))
            try simp only [Act.put, List.setIfInBounds_toArray, List.set_cons_zero, List.set_cons_succ]
            refine wpAnyH_take (i := 5) (oi := { dst := some 93, op := Op.binOp BinOp.sub 3 (Operand.tmp 92) (Operand.const (Value.int IntKind.i64 1)) 3, type := 3, pos := "law.go:231", after := #[{ on := 4, ground := Ground.data }, { on := 2, ground := Ground.guard }], guard := some (2, true) }) (v := ?_) rfl (by kernel_rfl) (by kernel_rfl) (by kernel_rfl) (fun _ _ _ h => h) (Or.inl ⟨by rfl, ?_⟩) (by assumption) ?_
            rotate_left 1
            · (intro W hSW; (try dsimp only at hSW); first | (go_simp; done) | (go_simp; with_reducible rfl))
            try simp only [Act.put, List.setIfInBounds_toArray, List.set_cons_zero, List.set_cons_succ]
            refine wpAnyH_take (i := 6) (oi := { dst := some 94, op := Op.indexAddr 67 (Operand.tmp 91) (Operand.tmp 93), type := 0, pos := "law.go:231", after := #[{ on := 3, ground := Ground.data }, { on := 5, ground := Ground.data }, { on := 2, ground := Ground.guard }], guard := some (2, true) }) (v := ?_) rfl (by kernel_rfl) (by kernel_rfl) (by kernel_rfl) (fun _ _ _ h => h) (Or.inl ⟨by rfl, ?_⟩) (by assumption) ?_
            rotate_left 1
            · (intro W hSW; (try dsimp only at hSW); first | (go_simp; done) | (go_simp; with_reducible rfl))
            try simp only [Act.put, List.setIfInBounds_toArray, List.set_cons_zero, List.set_cons_succ]
            refine wpAnyH_take (i := 7) (oi := { dst := some 95, op := Op.indexAddr 79 (Operand.tmp 94) (Operand.const (Value.int IntKind.i64 0)), type := 0, pos := "law.go:231", after := #[{ on := 6, ground := Ground.data }, { on := 2, ground := Ground.guard }], guard := some (2, true) }) (v := ?_) rfl (by kernel_rfl) (by kernel_rfl) (by kernel_rfl) (fun _ _ _ h => h) (Or.inl ⟨by rfl, ?_⟩) (by assumption) ?_
            rotate_left 1
            · (intro W hSW; (try dsimp only at hSW); first | (go_simp; done) | (go_simp; with_reducible rfl))
            try simp only [Act.put, List.setIfInBounds_toArray, List.set_cons_zero, List.set_cons_succ]
            refine wpAnyH_take (i := 8) (oi := { dst := some 96, op := Op.load 3 (Operand.tmp 95), type := 3, pos := "law.go:231", after := #[{ on := 7, ground := Ground.data }, { on := 2, ground := Ground.guard }], guard := some (2, true) }) (v := ?_) rfl (by kernel_rfl) (by kernel_rfl) (by kernel_rfl) (fun _ _ _ h => h) (Or.inl ⟨by rfl, ?_⟩) (by assumption) ?_
            rotate_left 1
            · (intro W hSW; (try dsimp only at hSW); first | (go_simp; done) | (go_simp; with_reducible rfl))
            try simp only [Act.put, List.setIfInBounds_toArray, List.set_cons_zero, List.set_cons_succ]
            refine wpAnyH_take (i := 9) (oi := { dst := some 97, op := Op.move (Operand.tmp 15), type := 3, pos := "law.go:231", after := #[{ on := 2, ground := Ground.guard }], guard := some (2, true) }) (v := ?_) rfl (by kernel_rfl) (by kernel_rfl) (by kernel_rfl) (fun _ _ _ h => h) (Or.inl ⟨by rfl, ?_⟩) (by assumption) ?_
            rotate_left 1
            · (intro W hSW; (try dsimp only at hSW); first | (go_simp; done) | (go_simp; with_reducible rfl))
            try simp only [Act.put, List.setIfInBounds_toArray, List.set_cons_zero, List.set_cons_succ]
            refine wpAnyH_take (i := 10) (oi := { dst := some 98, op := Op.binOp BinOp.gtr 3 (Operand.tmp 96) (Operand.tmp 97) 3, type := 4, pos := "law.go:231", after := #[{ on := 8, ground := Ground.data }, { on := 9, ground := Ground.data }, { on := 2, ground := Ground.guard }], guard := some (2, true) }) (v := ?_) rfl (by kernel_rfl) (by kernel_rfl) (by kernel_rfl) (fun _ _ _ h => h) (Or.inl ⟨by rfl, ?_⟩) (by assumption) ?_
            rotate_left 1
            · (intro W hSW; (try dsimp only at hSW); first | (go_simp; done) | (go_simp; with_reducible rfl))
            try simp only [Act.put, List.setIfInBounds_toArray, List.set_cons_zero, List.set_cons_succ]
            refine wpAnyH_take (i := 11) (oi := { dst := some 99, op := Op.move (Operand.tmp 98), type := 4, pos := "law.go:231", after := #[{ on := 10, ground := Ground.data }, { on := 2, ground := Ground.chain }, { on := 2, ground := Ground.guard }], guard := some (2, true) }) (v := ?_) rfl (by kernel_rfl) (by kernel_rfl) (by kernel_rfl) (fun _ _ _ h => h) (Or.inl ⟨by rfl, ?_⟩) (by assumption) ?_
            rotate_left 1
            · (intro W hSW; (try dsimp only at hSW); first | (go_simp; done) | (go_simp; with_reducible rfl))
            try simp only [Act.put, List.setIfInBounds_toArray, List.set_cons_zero, List.set_cons_succ]
            refine wpAnyH_take (i := 12) (oi := { dst := some 100, op := Op.move (Operand.tmp 13), type := 67, pos := "law.go:231", after := #[{ on := 11, ground := Ground.guard }], guard := some (11, false) }) (v := ?_) rfl (by kernel_rfl) (by kernel_rfl) (by kernel_rfl) (fun _ _ _ h => h) (Or.inl ⟨by rfl, ?_⟩) (by assumption) ?_
            rotate_left 1
            · (intro W hSW; (try dsimp only at hSW); first | (go_simp; done) | (go_simp; with_reducible rfl))
            try simp only [Act.put, List.setIfInBounds_toArray, List.set_cons_zero, List.set_cons_succ]
            refine wpAnyH_take (i := 13) (oi := { dst := some 101, op := Op.move (Operand.tmp 14), type := 3, pos := "law.go:231", after := #[{ on := 11, ground := Ground.guard }], guard := some (11, false) }) (v := ?_) rfl (by kernel_rfl) (by kernel_rfl) (by kernel_rfl) (fun _ _ _ h => h) (Or.inl ⟨by rfl, ?_⟩) (by assumption) ?_
            rotate_left 1
            · (intro W hSW; (try dsimp only at hSW); first | (go_simp; done) | (go_simp; with_reducible rfl))
            try simp only [Act.put, List.setIfInBounds_toArray, List.set_cons_zero, List.set_cons_succ]
            refine wpAnyH_take (i := 14) (oi := { dst := some 102, op := Op.binOp BinOp.sub 3 (Operand.tmp 101) (Operand.const (Value.int IntKind.i64 1)) 3, type := 3, pos := "law.go:231", after := #[{ on := 13, ground := Ground.data }, { on := 11, ground := Ground.guard }], guard := some (11, false) }) (v := ?_) rfl (by kernel_rfl) (by kernel_rfl) (by kernel_rfl) (fun _ _ _ h => h) (Or.inl ⟨by rfl, ?_⟩) (by assumption) ?_
            rotate_left 1
            · (intro W hSW; (try dsimp only at hSW); first | (go_simp; done) | (go_simp; with_reducible rfl))
            try simp only [Act.put, List.setIfInBounds_toArray, List.set_cons_zero, List.set_cons_succ]
            refine wpAnyH_take (i := 15) (oi := { dst := some 103, op := Op.indexAddr 67 (Operand.tmp 100) (Operand.tmp 102), type := 0, pos := "law.go:231", after := #[{ on := 12, ground := Ground.data }, { on := 14, ground := Ground.data }, { on := 11, ground := Ground.guard }], guard := some (11, false) }) (v := ?_) rfl (by kernel_rfl) (by kernel_rfl) (by kernel_rfl) (fun _ _ _ h => h) (Or.inl ⟨by rfl, ?_⟩) (by assumption) ?_
            rotate_left 1
            · (intro W hSW; (try dsimp only at hSW); first | (go_simp; done) | (go_simp; with_reducible rfl))
            try simp only [Act.put, List.setIfInBounds_toArray, List.set_cons_zero, List.set_cons_succ]
            refine wpAnyH_take (i := 16) (oi := { dst := some 104, op := Op.indexAddr 79 (Operand.tmp 103) (Operand.const (Value.int IntKind.i64 0)), type := 0, pos := "law.go:231", after := #[{ on := 15, ground := Ground.data }, { on := 11, ground := Ground.guard }], guard := some (11, false) }) (v := ?_) rfl (by kernel_rfl) (by kernel_rfl) (by kernel_rfl) (fun _ _ _ h => h) (Or.inl ⟨by rfl, ?_⟩) (by assumption) ?_
            rotate_left 1
            · (intro W hSW; (try dsimp only at hSW); first | (go_simp; done) | (go_simp; with_reducible rfl))
            try simp only [Act.put, List.setIfInBounds_toArray, List.set_cons_zero, List.set_cons_succ]
            refine wpAnyH_take (i := 17) (oi := { dst := some 105, op := Op.load 3 (Operand.tmp 104), type := 3, pos := "law.go:231", after := #[{ on := 16, ground := Ground.data }, { on := 11, ground := Ground.guard }], guard := some (11, false) }) (v := ?_) rfl (by kernel_rfl) (by kernel_rfl) (by kernel_rfl) (fun _ _ _ h => h) (Or.inl ⟨by rfl, ?_⟩) (by assumption) ?_
            rotate_left 1
            · (intro W hSW; (try dsimp only at hSW); first | (go_simp; done) | (go_simp; with_reducible rfl))
            try simp only [Act.put, List.setIfInBounds_toArray, List.set_cons_zero, List.set_cons_succ]
            refine wpAnyH_take (i := 18) (oi := { dst := some 106, op := Op.move (Operand.tmp 15), type := 3, pos := "law.go:231", after := #[{ on := 11, ground := Ground.guard }], guard := some (11, false) }) (v := ?_) rfl (by kernel_rfl) (by kernel_rfl) (by kernel_rfl) (fun _ _ _ h => h) (Or.inl ⟨by rfl, ?_⟩) (by assumption) ?_
            rotate_left 1
            · (intro W hSW; (try dsimp only at hSW); first | (go_simp; done) | (go_simp; with_reducible rfl))
            try simp only [Act.put, List.setIfInBounds_toArray, List.set_cons_zero, List.set_cons_succ]
            refine wpAnyH_take (i := 19) (oi := { dst := some 107, op := Op.binOp BinOp.eql 3 (Operand.tmp 105) (Operand.tmp 106) 3, type := 4, pos := "law.go:231", after := #[{ on := 17, ground := Ground.data }, { on := 18, ground := Ground.data }, { on := 11, ground := Ground.guard }], guard := some (11, false) }) (v := ?_) rfl (by kernel_rfl) (by kernel_rfl) (by kernel_rfl) (fun _ _ _ h => h) (Or.inl ⟨by rfl, ?_⟩) (by assumption) ?_
            rotate_left 1
            · (intro W hSW; (try dsimp only at hSW); first | (go_simp; done) | (go_simp; with_reducible rfl))
            try simp only [Act.put, List.setIfInBounds_toArray, List.set_cons_zero, List.set_cons_succ]
            refine wpAnyH_take (i := 20) (oi := { dst := some 108, op := Op.move (Operand.tmp 107), type := 4, pos := "law.go:231", after := #[{ on := 19, ground := Ground.data }, { on := 11, ground := Ground.chain }, { on := 11, ground := Ground.guard }], guard := some (11, false) }) (v := ?_) rfl (by kernel_rfl) (by kernel_rfl) (by kernel_rfl) (fun _ _ _ h => h) (Or.inl ⟨by rfl, ?_⟩) (by assumption) ?_
            rotate_left 1
            · (intro W hSW; (try dsimp only at hSW); first | (go_simp; done) | (go_simp; with_reducible rfl))
            try simp only [Act.put, List.setIfInBounds_toArray, List.set_cons_zero, List.set_cons_succ]
            refine wpAnyH_take (i := 21) (oi := { dst := some 109, op := Op.move (Operand.tmp 13), type := 67, pos := "law.go:231", after := #[{ on := 20, ground := Ground.guard }], guard := some (20, true) }) (v := ?_) rfl (by kernel_rfl) (by kernel_rfl) (by kernel_rfl) (fun _ _ _ h => h) (Or.inl ⟨by rfl, ?_⟩) (by assumption) ?_
            rotate_left 1
            · (intro W hSW; (try dsimp only at hSW); first | (go_simp; done) | (go_simp; with_reducible rfl))
            try simp only [Act.put, List.setIfInBounds_toArray, List.set_cons_zero, List.set_cons_succ]
            refine wpAnyH_take (i := 22) (oi := { dst := some 110, op := Op.move (Operand.tmp 14), type := 3, pos := "law.go:231", after := #[{ on := 20, ground := Ground.guard }], guard := some (20, true) }) (v := ?_) rfl (by kernel_rfl) (by kernel_rfl) (by kernel_rfl) (fun _ _ _ h => h) (Or.inl ⟨by rfl, ?_⟩) (by assumption) ?_
            rotate_left 1
            · (intro W hSW; (try dsimp only at hSW); first | (go_simp; done) | (go_simp; with_reducible rfl))
            try simp only [Act.put, List.setIfInBounds_toArray, List.set_cons_zero, List.set_cons_succ]
            refine wpAnyH_take (i := 23) (oi := { dst := some 111, op := Op.binOp BinOp.sub 3 (Operand.tmp 110) (Operand.const (Value.int IntKind.i64 1)) 3, type := 3, pos := "law.go:231", after := #[{ on := 22, ground := Ground.data }, { on := 20, ground := Ground.guard }], guard := some (20, true) }) (v := ?_) rfl (by kernel_rfl) (by kernel_rfl) (by kernel_rfl) (fun _ _ _ h => h) (Or.inl ⟨by rfl, ?_⟩) (by assumption) ?_
            rotate_left 1
            · (intro W hSW; (try dsimp only at hSW); first | (go_simp; done) | (go_simp; with_reducible rfl))
            try simp only [Act.put, List.setIfInBounds_toArray, List.set_cons_zero, List.set_cons_succ]
            refine wpAnyH_take (i := 24) (oi := { dst := some 112, op := Op.indexAddr 67 (Operand.tmp 109) (Operand.tmp 111), type := 0, pos := "law.go:231", after := #[{ on := 21, ground := Ground.data }, { on := 23, ground := Ground.data }, { on := 20, ground := Ground.guard }], guard := some (20, true) }) (v := ?_) rfl (by kernel_rfl) (by kernel_rfl) (by kernel_rfl) (fun _ _ _ h => h) (Or.inl ⟨by rfl, ?_⟩) (by assumption) ?_
            rotate_left 1
            · (intro W hSW; (try dsimp only at hSW); first | (go_simp; done) | (go_simp; with_reducible rfl))
            try simp only [Act.put, List.setIfInBounds_toArray, List.set_cons_zero, List.set_cons_succ]
            refine wpAnyH_take (i := 25) (oi := { dst := some 113, op := Op.indexAddr 79 (Operand.tmp 112) (Operand.const (Value.int IntKind.i64 1)), type := 0, pos := "law.go:231", after := #[{ on := 24, ground := Ground.data }, { on := 20, ground := Ground.guard }], guard := some (20, true) }) (v := ?_) rfl (by kernel_rfl) (by kernel_rfl) (by kernel_rfl) (fun _ _ _ h => h) (Or.inl ⟨by rfl, ?_⟩) (by assumption) ?_
            rotate_left 1
            · (intro W hSW; (try dsimp only at hSW); first | (go_simp; done) | (go_simp; with_reducible rfl))
            try simp only [Act.put, List.setIfInBounds_toArray, List.set_cons_zero, List.set_cons_succ]
            refine wpAnyH_take (i := 26) (oi := { dst := some 114, op := Op.load 3 (Operand.tmp 113), type := 3, pos := "law.go:231", after := #[{ on := 25, ground := Ground.data }, { on := 20, ground := Ground.guard }], guard := some (20, true) }) (v := ?_) rfl (by kernel_rfl) (by kernel_rfl) (by kernel_rfl) (fun _ _ _ h => h) (Or.inl ⟨by rfl, ?_⟩) (by assumption) ?_
            rotate_left 1
            · (intro W hSW; (try dsimp only at hSW); first | (go_simp; done) | (go_simp; with_reducible rfl))
            try simp only [Act.put, List.setIfInBounds_toArray, List.set_cons_zero, List.set_cons_succ]
            refine wpAnyH_take (i := 27) (oi := { dst := some 115, op := Op.move (Operand.tmp 13), type := 67, pos := "law.go:231", after := #[{ on := 20, ground := Ground.guard }], guard := some (20, true) }) (v := ?_) rfl (by kernel_rfl) (by kernel_rfl) (by kernel_rfl) (fun _ _ _ h => h) (Or.inl ⟨by rfl, ?_⟩) (by assumption) ?_
            rotate_left 1
            · (intro W hSW; (try dsimp only at hSW); first | (go_simp; done) | (go_simp; with_reducible rfl))
            try simp only [Act.put, List.setIfInBounds_toArray, List.set_cons_zero, List.set_cons_succ]
            refine wpAnyH_take (i := 28) (oi := { dst := some 116, op := Op.move (Operand.tmp 14), type := 3, pos := "law.go:231", after := #[{ on := 20, ground := Ground.guard }], guard := some (20, true) }) (v := ?_) rfl (by kernel_rfl) (by kernel_rfl) (by kernel_rfl) (fun _ _ _ h => h) (Or.inl ⟨by rfl, ?_⟩) (by assumption) ?_
            rotate_left 1
            · (intro W hSW; (try dsimp only at hSW); first | (go_simp; done) | (go_simp; with_reducible rfl))
            try simp only [Act.put, List.setIfInBounds_toArray, List.set_cons_zero, List.set_cons_succ]
            refine wpAnyH_take (i := 29) (oi := { dst := some 117, op := Op.indexAddr 67 (Operand.tmp 115) (Operand.tmp 116), type := 0, pos := "law.go:231", after := #[{ on := 27, ground := Ground.data }, { on := 28, ground := Ground.data }, { on := 20, ground := Ground.guard }], guard := some (20, true) }) (v := ?_) rfl (by kernel_rfl) (by kernel_rfl) (by kernel_rfl) (fun _ _ _ h => h) (Or.inl ⟨by rfl, ?_⟩) (by assumption) ?_
            rotate_left 1
            · (intro W hSW; (try dsimp only at hSW); first | (go_simp; done) | (go_simp; with_reducible rfl))
            try simp only [Act.put, List.setIfInBounds_toArray, List.set_cons_zero, List.set_cons_succ]
            refine wpAnyH_take (i := 30) (oi := { dst := some 118, op := Op.indexAddr 79 (Operand.tmp 117) (Operand.const (Value.int IntKind.i64 1)), type := 0, pos := "law.go:231", after := #[{ on := 29, ground := Ground.data }, { on := 20, ground := Ground.guard }], guard := some (20, true) }) (v := ?_) rfl (by kernel_rfl) (by kernel_rfl) (by kernel_rfl) (fun _ _ _ h => h) (Or.inl ⟨by rfl, ?_⟩) (by assumption) ?_
            rotate_left 1
            · (intro W hSW; (try dsimp only at hSW); first | (go_simp; done) | (go_simp; with_reducible rfl))
            try simp only [Act.put, List.setIfInBounds_toArray, List.set_cons_zero, List.set_cons_succ]
            refine wpAnyH_take (i := 31) (oi := { dst := some 119, op := Op.load 3 (Operand.tmp 118), type := 3, pos := "law.go:231", after := #[{ on := 30, ground := Ground.data }, { on := 20, ground := Ground.guard }], guard := some (20, true) }) (v := ?_) rfl (by kernel_rfl) (by kernel_rfl) (by kernel_rfl) (fun _ _ _ h => h) (Or.inl ⟨by rfl, ?_⟩) (by assumption) ?_
            rotate_left 1
            · (intro W hSW; (try dsimp only at hSW); first | (go_simp; done) | (go_simp; with_reducible rfl))
            try simp only [Act.put, List.setIfInBounds_toArray, List.set_cons_zero, List.set_cons_succ]
            refine wpAnyH_take (i := 32) (oi := { dst := some 120, op := Op.binOp BinOp.geq 3 (Operand.tmp 114) (Operand.tmp 119) 3, type := 4, pos := "law.go:231", after := #[{ on := 26, ground := Ground.data }, { on := 31, ground := Ground.data }, { on := 20, ground := Ground.guard }], guard := some (20, true) }) (v := ?_) rfl (by kernel_rfl) (by kernel_rfl) (by kernel_rfl) (fun _ _ _ h => h) (Or.inl ⟨by rfl, ?_⟩) (by assumption) ?_
            rotate_left 1
            · (intro W hSW; (try dsimp only at hSW); first | (go_simp; done) | (go_simp; with_reducible rfl))
            try simp only [Act.put, List.setIfInBounds_toArray, List.set_cons_zero, List.set_cons_succ]
            refine wpAnyH_take (i := 33) (oi := { dst := some 121, op := Op.pick (Operand.tmp 108) (Operand.tmp 120) (Operand.const (Value.bool false)), type := 4, pos := "law.go:231", after := #[{ on := 20, ground := Ground.data }, { on := 32, ground := Ground.data }, { on := 11, ground := Ground.guard }], guard := some (11, false) }) (v := ?_) rfl (by kernel_rfl) (by kernel_rfl) (by kernel_rfl) (fun _ _ _ h => h) (Or.inl ⟨by rfl, ?_⟩) (by assumption) ?_
            rotate_left 1
            · (intro W hSW; (try dsimp only at hSW); first | (go_simp; done) | (go_simp; with_reducible rfl))
            try simp only [Act.put, List.setIfInBounds_toArray, List.set_cons_zero, List.set_cons_succ]
            refine wpAnyH_take (i := 34) (oi := { dst := some 122, op := Op.pick (Operand.tmp 99) (Operand.const (Value.bool true)) (Operand.tmp 121), type := 4, pos := "law.go:231", after := #[{ on := 11, ground := Ground.data }, { on := 33, ground := Ground.data }, { on := 2, ground := Ground.guard }], guard := some (2, true) }) (v := ?_) rfl (by kernel_rfl) (by kernel_rfl) (by kernel_rfl) (fun _ _ _ h => h) (Or.inl ⟨by rfl, ?_⟩) (by assumption) ?_
            rotate_left 1
            · (intro W hSW; (try dsimp only at hSW); first | (go_simp; done) | (go_simp; with_reducible rfl))
            try simp only [Act.put, List.setIfInBounds_toArray, List.set_cons_zero, List.set_cons_succ]
            refine wpAnyH_take (i := 35) (oi := { dst := some 123, op := Op.pick (Operand.tmp 90) (Operand.tmp 122) (Operand.const (Value.bool false)), type := 4, pos := "law.go:231", after := #[{ on := 2, ground := Ground.data }, { on := 34, ground := Ground.data }], guard := none }) (v := ?_) rfl (by kernel_rfl) (by kernel_rfl) (by kernel_rfl) (fun _ _ _ h => h) (Or.inl ⟨by rfl, ?_⟩) (by assumption) ?_
            rotate_left 1
            · (intro W hSW; (try dsimp only at hSW); first | (go_simp; done) | (go_simp; with_reducible rfl))
            try simp only [Act.put, List.setIfInBounds_toArray, List.set_cons_zero, List.set_cons_succ]
            refine wpAnyH_done (by kernel_rfl) ?_ _
            have hEND := hdr
            clear hHeld
            go_wp2_with fail
            go_roundg (m - (j + 1 + 1))
            case measure => rw [HI.out.1]; omega
            case rel => exact ⟨j + 1 + 1, rfl, rfl, by omega, HI.out.2.trans (HWX.out.trans hEND)⟩
      · rw [if_pos (by rfl)]
        go_simp
        have hga := World.grownBy.trans (World.grownBy_alloc wq (.cells #[.int .i64 0, .slice none 0 0] 53) none) (⟨rfl, rfl, rfl, Nat.le_refl _, fun _ _ _ => rfl⟩ : (World.alloc wq (.cells #[.int .i64 0, .slice none 0 0] 53)).grownBy (World.alloc wq (.cells #[.int .i64 0, .slice none 0 0] 53)).drew none)
        have hkc := (Zero2.new (lo := wq.heap.size) wq (Nat.le_refl _)).grown (⟨rfl, rfl, rfl, Nat.le_refl _, fun _ _ _ => rfl⟩ : (World.alloc wq (.cells #[.int .i64 0, .slice none 0 0] 53)).grownBy (World.alloc wq (.cells #[.int .i64 0, .slice none 0 0] 53)).drew none)
        obtain ⟨WA, hWA⟩ : ∃ WA, (World.alloc wq (.cells #[.int .i64 0, .slice none 0 0] 53)).drew = WA := ⟨_, rfl⟩
        rw [hWA] at hga hkc ⊢
        try (rw [hWA] at hsb)
        clear hWA
        have hzA := hkc.lt
        have hzG := World.grownBy.size hga
        refine hK.out _ _ (HS.out _ hga) (fun hHeld => ?_)
        clear hK K
        try simp only [Act.put, List.setIfInBounds_toArray, List.set_cons_zero, List.set_cons_succ]
        refine wpAnyH_ready (rs := [11]) (by kernel_rfl) (by simp) ?_
        refine (AllReadyH.cons (o := { dst := some 69, op := Op.buildSlice 28 1 #[(0, Operand.tmp 68)], type := 28, pos := "law.go:227", after := #[{ on := 10, ground := Ground.data }], guard := none }) rfl (fun K hK => ?_) AllReadyH.nil)
        rw [if_pos (by rfl)]
        go_simp
        have hgc := World.grownBy.trans hga (World.grownBy_alloc WA (.cells #[.int .i64 r] 3) none)
        have hsb := Sl1.new WA (.int .i64 r)
        have hzB := hkc.lt
        replace hkc := hkc.grown (World.grownBy_alloc WA (.cells #[.int .i64 r] 3) none)
        obtain ⟨WS, hWS⟩ : ∃ WS, World.alloc WA (.cells #[.int .i64 r] 3) = WS := ⟨_, rfl⟩
        rw [hWS] at hgc hsb ⊢
        rw [hWS] at hkc
        clear hWS
        have hzT := hsb.2
        refine hK.out _ _ (HS.out _ hgc) (fun hHeld => ?_)
        clear hK K
        try simp only [Act.put, List.setIfInBounds_toArray, List.set_cons_zero, List.set_cons_succ]
        refine wpAnyH_take (i := 12) (oi := { dst := some 70, op := Op.build 53 #[(0, Operand.tmp 63), (1, Operand.tmp 69)], type := 53, pos := "law.go:227", after := #[{ on := 5, ground := Ground.data }, { on := 11, ground := Ground.data }], guard := none }) (v := ?_) rfl (by kernel_rfl) (by kernel_rfl) (by kernel_rfl) (fun _ _ _ h => h) (Or.inl ⟨by rfl, ?_⟩) (by assumption) ?_
        rotate_left 1
        · (intro W hSW; (try dsimp only at hSW); first | (go_simp; done) | (go_simp; with_reducible rfl))
        try simp only [Act.put, List.setIfInBounds_toArray, List.set_cons_zero, List.set_cons_succ]
        refine wpAnyH_ready (rs := [14]) (by kernel_rfl) (by simp) ?_
        refine (AllReadyH.cons (o := { dst := none, op := Op.store 53 (Operand.tmp 16) (Operand.tmp 70), type := 0, pos := "law.go:227", after := #[{ on := 13, ground := Ground.data }, { on := 12, ground := Ground.data }, { on := 0, ground := Ground.phase }, { on := 1, ground := Ground.phase }, { on := 2, ground := Ground.phase }, { on := 3, ground := Ground.phase }, { on := 4, ground := Ground.phase }, { on := 5, ground := Ground.phase }, { on := 6, ground := Ground.phase }, { on := 7, ground := Ground.phase }, { on := 8, ground := Ground.phase }, { on := 9, ground := Ground.phase }, { on := 10, ground := Ground.phase }, { on := 11, ground := Ground.phase }, { on := 12, ground := Ground.phase }, { on := 13, ground := Ground.phase }], guard := none }) rfl (fun K hK => ?_) AllReadyH.nil)
        rw [if_pos (by rfl)]
        have q0 := hkc.c0
        have q1 := hkc.c1
        have q4 := hkc.f0
        have q5 := hkc.f1
        go_simp
        clear q4 q5
        have hfs := two_set9 (.int .i64 K2) (.slice (some ⟨WA.heap.size, 0, none⟩) 1 1) q0 q1
        clear q0 q1
        have hgs := grown_own hgc hfs.2.2 (fun k hk => by cases hk; exact hkc.ge)
        refine hK.out _ _ (HS.out _ hgs) (fun hHeld => ?_)
        clear hK K
        try simp only [Act.put, List.setIfInBounds_toArray, List.set_cons_zero, List.set_cons_succ]
        refine wpAnyH_done (by kernel_rfl) ?_ _
        have hEND := hgs
        clear hHeld
        have hne : WA.heap.size ≠ wq.heap.size := by omega
        have hsc := hfs.2.2.cell hsb.1 (by simp only [ne_eq, Option.some.injEq]; omega)
        obtain ⟨p0, p1, _⟩ := hfs
        obtain ⟨X1, hX1⟩ : ∃ X, (World.setCell (World.setCell WS ⟨wq.heap.size, 0, none⟩ (.int .i64 K2)) ⟨wq.heap.size, 1, none⟩ (.slice (some ⟨WA.heap.size, 0, none⟩) 1 1)) = X := ⟨_, rfl⟩
        rw [hX1] at p0 p1 hsc hEND ⊢
        obtain ⟨gB, hgB⟩ : ∃ gB, wq.heap.size = gB := ⟨_, rfl⟩
        obtain ⟨gS, hgS⟩ : ∃ gB, WA.heap.size = gB := ⟨_, rfl⟩
        rw [hgB, hgS] at p1
        rw [hgB] at p0 ⊢
        rw [hgS] at hsc
        have HONE := Lib.hid (OneB.mk p0 p1 (row_of_sl1 hsc))
        clear hne hsc p0 p1 hX1 hgs hsb hkc hzA hzG hzT hHeld HS hgB hgS
        try clear hzB
        replace HB := Lib.hid (HB.out.grown hEND)
        replace HMA := Lib.hid (HMA.out.grown hEND)
        replace HPR := Lib.hid (HPR.out.grown hEND)
        replace HG := Lib.hid (HG.out.trans hEND)
        have HWX := Lib.hid hEND
        have y0 := hEND.cell x0 (by simp)
        have y1 := hEND.cell x1 (by simp)
        have y2 := hEND.cell x2 (by simp)
        have y3 := hEND.cell x3 (by simp)
        have hob := HONE.out
        obtain ⟨t0, t1, _⟩ := hob
        clear hEND x0 x1 x2 x3 l0 l1
        go_wp2_with fail
        have HS := Lib.hid (fun (Wh : World) (hWh : X1.grownBy Wh none) => (⟨hWh, hWh.cell t0 (by simp), hWh.cell t1 (by simp), hWh.cell y0 (by simp), hWh.cell y1 (by simp), hWh.cell y2 (by simp), hWh.cell y3 (by simp)⟩ : (fun Wh : World => X1.grownBy Wh none ∧ Wh.cell? ⟨gB, 0, none⟩ = some (.int .i64 K2) ∧ Wh.cell? ⟨gB, 1, none⟩ = some (.slice (some ⟨gS, 0, none⟩) 1 1) ∧ Wh.cell? ⟨b, o + i * 4, none⟩ = some (.int .i64 K1) ∧ Wh.cell? ⟨b, o + i * 4 + 1, none⟩ = some (.slice a1 n1 k1) ∧ Wh.cell? ⟨b, o + i * 4 + 2, none⟩ = some (.int .i64 K2) ∧ Wh.cell? ⟨b, o + i * 4 + 3, none⟩ = some (.slice a2 n2 k2)) Wh))
        have hdr : X1.grownBy X1.drew none := ⟨rfl, rfl, rfl, Nat.le_refl _, fun _ _ _ => rfl⟩
        refine wp_region_held_drew (S := (fun Wh : World => X1.grownBy Wh none ∧ Wh.cell? ⟨gB, 0, none⟩ = some (.int .i64 K2) ∧ Wh.cell? ⟨gB, 1, none⟩ = some (.slice (some ⟨gS, 0, none⟩) 1 1) ∧ Wh.cell? ⟨b, o + i * 4, none⟩ = some (.int .i64 K1) ∧ Wh.cell? ⟨b, o + i * 4 + 1, none⟩ = some (.slice a1 n1 k1) ∧ Wh.cell? ⟨b, o + i * 4 + 2, none⟩ = some (.int .i64 K2) ∧ Wh.cell? ⟨b, o + i * 4 + 3, none⟩ = some (.slice a2 n2 k2))) (by kernel_rfl) (HS.out _ hdr) (fun hHeld => ?_)
        refine wpAnyH_take (i := 0) (oi := { dst := some 71, op := Op.load 53 (Operand.tmp 16), type := 53, pos := "law.go:228", after := #[], guard := none }) (v := ?_) rfl (by kernel_rfl) (by kernel_rfl) (by kernel_rfl) (fun _ _ _ h => h) (Or.inl ⟨by rfl, ?_⟩) (by assumption) ?_
        rotate_left 1
        · (intro W hSW; (try dsimp only at hSW); first | (go_simp; done) | (go_simp; with_reducible rfl))
        try simp only [Act.put, List.setIfInBounds_toArray, List.set_cons_zero, List.set_cons_succ]
        refine wpAnyH_take (i := 1) (oi := { dst := some 72, op := Op.move (Operand.tmp 12), type := 57, pos := "law.go:228", after := #[], guard := none }) (v := ?_) rfl (by kernel_rfl) (by kernel_rfl) (by kernel_rfl) (fun _ _ _ h => h) (Or.inl ⟨by rfl, ?_⟩) (by assumption) ?_
        rotate_left 1
        · (intro W hSW; (try dsimp only at hSW); first | (go_simp; done) | (go_simp; with_reducible rfl))
        try simp only [Act.put, List.setIfInBounds_toArray, List.set_cons_zero, List.set_cons_succ]
        refine wpAnyH_take (i := 2) (oi := { dst := some 73, op := Op.move (Operand.tmp 15), type := 3, pos := "law.go:228", after := #[], guard := none }) (v := ?_) rfl (by kernel_rfl) (by kernel_rfl) (by kernel_rfl) (fun _ _ _ h => h) (Or.inl ⟨by rfl, ?_⟩) (by assumption) ?_
        rotate_left 1
        · (intro W hSW; (try dsimp only at hSW); first | (go_simp; done) | (go_simp; with_reducible rfl))
        try simp only [Act.put, List.setIfInBounds_toArray, List.set_cons_zero, List.set_cons_succ]
        refine wpAnyH_take (i := 3) (oi := { dst := some 74, op := Op.indexAddr 57 (Operand.tmp 72) (Operand.tmp 73), type := 0, pos := "law.go:228", after := #[{ on := 1, ground := Ground.data }, { on := 2, ground := Ground.data }], guard := none }) (v := ?_) rfl (by kernel_rfl) (by kernel_rfl) (by kernel_rfl) (fun _ _ _ h => h) (Or.inl ⟨by rfl, ?_⟩) (by assumption) ?_
        rotate_left 1
        · (intro W hSW; (try dsimp only at hSW); first | (go_simp; done) | (go_simp; with_reducible rfl))
        try simp only [Act.put, List.setIfInBounds_toArray, List.set_cons_zero, List.set_cons_succ]
        refine wpAnyH_take (i := 4) (oi := { dst := some 75, op := Op.fieldAddr 74 (Operand.tmp 74) 1, type := 0, pos := "law.go:228", after := #[{ on := 3, ground := Ground.data }], guard := none }) (v := ?_) rfl (by kernel_rfl) (by kernel_rfl) (by kernel_rfl) (fun _ _ _ h => h) (Or.inl ⟨by rfl, ?_⟩) (by assumption) ?_
        rotate_left 1
        · (intro W hSW; (try dsimp only at hSW); first | (go_simp; done) | (go_simp; with_reducible rfl))
        try simp only [Act.put, List.setIfInBounds_toArray, List.set_cons_zero, List.set_cons_succ]
        refine wpAnyH_take (i := 5) (oi := { dst := some 76, op := Op.load 53 (Operand.tmp 75), type := 53, pos := "law.go:228", after := #[{ on := 4, ground := Ground.data }], guard := none }) (v := ?_) rfl (by kernel_rfl) (by kernel_rfl) (by kernel_rfl) (fun _ _ _ h => h) (Or.inl ⟨by rfl, ?_⟩) (by assumption) ?_
        rotate_left 1
        · (intro W hSW; (try dsimp only at hSW); first | (go_simp; done) | (go_simp; with_reducible rfl))
        try simp only [Act.put, List.setIfInBounds_toArray, List.set_cons_zero, List.set_cons_succ]
        refine wpAnyH_ready (rs := [6]) (by kernel_rfl) (by simp) ?_
        refine (AllReadyH.cons (o := { dst := some 77, op := Op.call { callee := Callee.value (Operand.func 58), args := #[Operand.tmp 71, Operand.tmp 76], argTypes := #[53, 53] }, type := 4, pos := "law.go:228", after := #[{ on := 0, ground := Ground.data }, { on := 5, ground := Ground.data }], guard := none }) rfl (fun K hK => ?_) AllReadyH.nil)
        rw [if_pos (by rfl)]
        go_simp
        go_at_call 58
        refine (tinG (HONE.out.row.grown (hdr)) (HX.out.2.2.2.1.grown (HWX.out.trans (hdr))) HX.out.2.1.2 HX.out.1.u2 HX.out.2.2.2.2.2.1 (decide_eq_true HX.out.2.2.2.2.2.2.1)).mono ?_
        rintro e wc1 ⟨rfl, gc1⟩
        have hgr1 := World.grownBy.trans hdr gc1
        go_wp2_with fail
        refine hK.out _ _ (HS.out _ hgr1) (fun hHeld => ?_)
        clear hK K
        try simp only [Act.put, List.setIfInBounds_toArray, List.set_cons_zero, List.set_cons_succ]
        refine wpAnyH_take (i := 7) (oi := { dst := some 78, op := Op.unOp UnOp.not 4 (Operand.tmp 77), type := 4, pos := "law.go:228", after := #[{ on := 6, ground := Ground.data }], guard := none }) (v := ?_) rfl (by kernel_rfl) (by kernel_rfl) (by kernel_rfl) (fun _ _ _ h => h) (Or.inl ⟨by rfl, ?_⟩) (by assumption) ?_
        rotate_left 1
        · (intro W hSW; (try dsimp only at hSW); first | (go_simp; done) | (go_simp; with_reducible rfl))
        try simp only [Act.put, List.setIfInBounds_toArray, List.set_cons_zero, List.set_cons_succ]
        refine wpAnyH_take (i := 8) (oi := { dst := some 79, op := Op.move (Operand.tmp 78), type := 4, pos := "law.go:228", after := #[{ on := 7, ground := Ground.data }, { on := 6, ground := Ground.chain }], guard := none }) (v := ?_) rfl (by kernel_rfl) (by kernel_rfl) (by kernel_rfl) (fun _ _ _ h => h) (Or.inl ⟨by rfl, ?_⟩) (by assumption) ?_
        rotate_left 1
        · (intro W hSW; (try dsimp only at hSW); first | (go_simp; done) | (go_simp; with_reducible rfl))
        try simp only [Act.put, List.setIfInBounds_toArray, List.set_cons_zero, List.set_cons_succ]
        refine wpAnyH_take (i := 9) (oi := { dst := some 80, op := Op.load 53 (Operand.tmp 16), type := 53, pos := "law.go:228", after := #[{ on := 8, ground := Ground.guard }], guard := some (8, false) }) (v := ?_) rfl (by kernel_rfl) (by kernel_rfl) (by kernel_rfl) (fun _ _ _ h => h) (Or.inl ⟨by rfl, ?_⟩) (by assumption) ?_
        rotate_left 1
        · (intro W hSW; (try dsimp only at hSW); first | (go_simp; done) | (go_simp; with_reducible rfl))
        try simp only [Act.put, List.setIfInBounds_toArray, List.set_cons_zero, List.set_cons_succ]
        refine wpAnyH_take (i := 10) (oi := { dst := some 81, op := Op.move (Operand.tmp 12), type := 57, pos := "law.go:228", after := #[{ on := 8, ground := Ground.guard }], guard := some (8, false) }) (v := ?_) rfl (by kernel_rfl) (by kernel_rfl) (by kernel_rfl) (fun _ _ _ h => h) (Or.inl ⟨by rfl, ?_⟩) (by assumption) ?_
        rotate_left 1
        · (intro W hSW; (try dsimp only at hSW); first | (go_simp; done) | (go_simp; with_reducible rfl))
        try simp only [Act.put, List.setIfInBounds_toArray, List.set_cons_zero, List.set_cons_succ]
        refine wpAnyH_take (i := 11) (oi := { dst := some 82, op := Op.move (Operand.tmp 15), type := 3, pos := "law.go:228", after := #[{ on := 8, ground := Ground.guard }], guard := some (8, false) }) (v := ?_) rfl (by kernel_rfl) (by kernel_rfl) (by kernel_rfl) (fun _ _ _ h => h) (Or.inl ⟨by rfl, ?_⟩) (by assumption) ?_
        rotate_left 1
        · (intro W hSW; (try dsimp only at hSW); first | (go_simp; done) | (go_simp; with_reducible rfl))
        try simp only [Act.put, List.setIfInBounds_toArray, List.set_cons_zero, List.set_cons_succ]
        refine wpAnyH_take (i := 12) (oi := { dst := some 83, op := Op.indexAddr 57 (Operand.tmp 81) (Operand.tmp 82), type := 0, pos := "law.go:228", after := #[{ on := 10, ground := Ground.data }, { on := 11, ground := Ground.data }, { on := 8, ground := Ground.guard }], guard := some (8, false) }) (v := ?_) rfl (by kernel_rfl) (by kernel_rfl) (by kernel_rfl) (fun _ _ _ h => h) (Or.inl ⟨by rfl, ?_⟩) (by assumption) ?_
        rotate_left 1
        · (intro W hSW; (try dsimp only at hSW); first | (go_simp; done) | (go_simp; with_reducible rfl))
        try simp only [Act.put, List.setIfInBounds_toArray, List.set_cons_zero, List.set_cons_succ]
        refine wpAnyH_take (i := 13) (oi := { dst := some 84, op := Op.fieldAddr 74 (Operand.tmp 83) 0, type := 0, pos := "law.go:228", after := #[{ on := 12, ground := Ground.data }, { on := 8, ground := Ground.guard }], guard := some (8, false) }) (v := ?_) rfl (by kernel_rfl) (by kernel_rfl) (by kernel_rfl) (fun _ _ _ h => h) (Or.inl ⟨by rfl, ?_⟩) (by assumption) ?_
        rotate_left 1
        · (intro W hSW; (try dsimp only at hSW); first | (go_simp; done) | (go_simp; with_reducible rfl))
        try simp only [Act.put, List.setIfInBounds_toArray, List.set_cons_zero, List.set_cons_succ]
        refine wpAnyH_take (i := 14) (oi := { dst := some 85, op := Op.load 53 (Operand.tmp 84), type := 53, pos := "law.go:228", after := #[{ on := 13, ground := Ground.data }, { on := 8, ground := Ground.guard }], guard := some (8, false) }) (v := ?_) rfl (by kernel_rfl) (by kernel_rfl) (by kernel_rfl) (fun _ _ _ h => h) (Or.inl ⟨by rfl, ?_⟩) (by assumption) ?_
        rotate_left 1
        · (intro W hSW; (try dsimp only at hSW); first | (go_simp; done) | (go_simp; with_reducible rfl))
        try simp only [Act.put, List.setIfInBounds_toArray, List.set_cons_zero, List.set_cons_succ]
        refine wpAnyH_ready (rs := [15]) (by kernel_rfl) (by simp) ?_
        refine (AllReadyH.cons (o := { dst := some 86, op := Op.call { callee := Callee.value (Operand.func 58), args := #[Operand.tmp 80, Operand.tmp 85], argTypes := #[53, 53] }, type := 4, pos := "law.go:228", after := #[{ on := 9, ground := Ground.data }, { on := 14, ground := Ground.data }, { on := 8, ground := Ground.chain }, { on := 8, ground := Ground.guard }], guard := some (8, false) }) rfl (fun K hK => ?_) AllReadyH.nil)
        rw [if_pos (by rfl)]
        go_simp
        go_at_call 58
        refine (tinG (HONE.out.row.grown (hgr1)) (HX.out.2.2.1.grown (HWX.out.trans (hgr1))) HX.out.2.1.1 HX.out.1.u1 HX.out.2.2.2.2.1 (decide_eq_false HX.out.2.2.2.2.2.2.2)).mono ?_
        rintro e wc2 ⟨rfl, gc2⟩
        have hgr2 := World.grownBy.trans hgr1 gc2
        go_wp2_with fail
        refine hK.out _ _ (HS.out _ hgr2) (fun hHeld => ?_)
        clear hK K
        try simp only [Act.put, List.setIfInBounds_toArray, List.set_cons_zero, List.set_cons_succ]
        refine wpAnyH_take (i := 16) (oi := { dst := some 87, op := Op.pick (Operand.tmp 79) (Operand.const (Value.bool true)) (Operand.tmp 86), type := 4, pos := "law.go:228", after := #[{ on := 8, ground := Ground.data }, { on := 15, ground := Ground.data }], guard := none }) (v := ?_) rfl (by kernel_rfl) (by kernel_rfl) (by kernel_rfl) (fun _ _ _ h => h) (Or.inl ⟨by rfl, ?_⟩) (by assumption) ?_
        rotate_left 1
        · (intro W hSW; (try dsimp only at hSW); first | (go_simp; done) | (go_simp; with_reducible rfl))
        try simp only [Act.put, List.setIfInBounds_toArray, List.set_cons_zero, List.set_cons_succ]
        refine wpAnyH_done (by kernel_rfl) ?_ _
        have hEND := hgr2
        clear hHeld
        replace HB := Lib.hid (HB.out.grown hEND)
        replace HMA := Lib.hid (HMA.out.grown hEND)
        replace HPR := Lib.hid (HPR.out.grown hEND)
        replace HG := Lib.hid (HG.out.trans hEND)
        replace HWX := Lib.hid (HWX.out.trans hEND)
        have hwx : wq.grownBy wc2 none := HWX.out
        obtain ⟨Y, hY⟩ : ∃ Y, wc2 = Y := ⟨_, rfl⟩
        clear hEND y0 y1 y2 y3 t0 t1 HS HONE hHeld
        subst hY
        go_wp2_with fail
        rcases Nat.eq_zero_or_pos k with hk0 | hkp
        · have e0 := HPR.out.2 k _ HP.out.1
          obtain ⟨_, _, ee, m0, m1⟩ := e0
          cases ee
          subst hk0
          have HS := Lib.hid (fun (Wh : World) (hWh : wc2.grownBy Wh none) => (⟨hWh, hWh.cell m1 (by simp)⟩ : (fun Wh : World => wc2.grownBy Wh none ∧ Wh.cell? ⟨lb, lo + 0 * 2 + 1, none⟩ = some (.int .i64 p.2)) Wh))
          have hdr : wc2.grownBy wc2.drew none := ⟨rfl, rfl, rfl, Nat.le_refl _, fun _ _ _ => rfl⟩
          refine wp_region_held_drew (S := (fun Wh : World => wc2.grownBy Wh none ∧ Wh.cell? ⟨lb, lo + 0 * 2 + 1, none⟩ = some (.int .i64 p.2))) (by kernel_rfl) (HS.out _ hdr) (fun hHeld => ?_)
          refine wpAnyH_take (i := 0) (oi := { dst := some 88, op := Op.move (Operand.tmp 14), type := 3, pos := "law.go:231", after := #[], guard := none }) (v := ?_) rfl (by kernel_rfl) (by kernel_rfl) (by kernel_rfl) (fun _ _ _ h => h) (Or.inl ⟨by rfl, ?_⟩) (by assumption) ?_
          rotate_left 1
          · (intro W hSW; (try dsimp only at hSW); first | (go_simp; done) | (go_simp; with_reducible rfl))
          try simp only [Act.put, List.setIfInBounds_toArray, List.set_cons_zero, List.set_cons_succ]
          refine wpAnyH_take (i := 1) (oi := { dst := some 89, op := Op.binOp BinOp.gtr 3 (Operand.tmp 88) (Operand.const (Value.int IntKind.i64 0)) 3, type := 4, pos := "law.go:231", after := #[{ on := 0, ground := Ground.data }], guard := none }) (v := ?_) rfl (by kernel_rfl) (by kernel_rfl) (by kernel_rfl) (fun _ _ _ h => h) (Or.inl ⟨by rfl, ?_⟩) (by assumption) ?_
          rotate_left 1
          · (intro W hSW; (try dsimp only at hSW); first | (go_simp; done) | (go_simp; with_reducible rfl))
          try simp only [Act.put, List.setIfInBounds_toArray, List.set_cons_zero, List.set_cons_succ]
          refine wpAnyH_take (i := 2) (oi := { dst := some 90, op := Op.move (Operand.tmp 89), type := 4, pos := "law.go:231", after := #[{ on := 1, ground := Ground.data }], guard := none }) (v := ?_) rfl (by kernel_rfl) (by kernel_rfl) (by kernel_rfl) (fun _ _ _ h => h) (Or.inl ⟨by rfl, ?_⟩) (by assumption) ?_
          rotate_left 1
          · (intro W hSW; (try dsimp only at hSW); first | (go_simp; done) | (go_simp; with_reducible rfl))
          try simp only [Act.put, List.setIfInBounds_toArray, List.set_cons_zero, List.set_cons_succ]
          refine wpAnyH_take (i := 3) (oi := { dst := some 91, op := Op.move (Operand.tmp 13), type := 67, pos := "law.go:231", after := #[{ on := 2, ground := Ground.guard }], guard := some (2, true) }) (v := undef) rfl (by kernel_rfl) (by kernel_rfl) (by kernel_rfl) (fun _ _ _ h => h) (Or.inr ⟨by rfl, rfl⟩) (by assumption) ?_
          try simp only [Act.put, List.setIfInBounds_toArray, List.set_cons_zero, List.set_cons_succ]
          refine wpAnyH_take (i := 4) (oi := { dst := some 92, op := Op.move (Operand.tmp 14), type := 3, pos := "law.go:231", after := #[{ on := 2, ground := Ground.guard }], guard := some (2, true) }) (v := undef) rfl (by kernel_rfl) (by kernel_rfl) (by kernel_rfl) (fun _ _ _ h => h) (Or.inr ⟨by rfl, rfl⟩) (by assumption) ?_
          try simp only [Act.put, List.setIfInBounds_toArray, List.set_cons_zero, List.set_cons_succ]
          refine wpAnyH_take (i := 5) (oi := { dst := some 93, op := Op.binOp BinOp.sub 3 (Operand.tmp 92) (Operand.const (Value.int IntKind.i64 1)) 3, type := 3, pos := "law.go:231", after := #[{ on := 4, ground := Ground.data }, { on := 2, ground := Ground.guard }], guard := some (2, true) }) (v := undef) rfl (by kernel_rfl) (by kernel_rfl) (by kernel_rfl) (fun _ _ _ h => h) (Or.inr ⟨by rfl, rfl⟩) (by assumption) ?_
          try simp only [Act.put, List.setIfInBounds_toArray, List.set_cons_zero, List.set_cons_succ]
          refine wpAnyH_take (i := 6) (oi := { dst := some 94, op := Op.indexAddr 67 (Operand.tmp 91) (Operand.tmp 93), type := 0, pos := "law.go:231", after := #[{ on := 3, ground := Ground.data }, { on := 5, ground := Ground.data }, { on := 2, ground := Ground.guard }], guard := some (2, true) }) (v := undef) rfl (by kernel_rfl) (by kernel_rfl) (by kernel_rfl) (fun _ _ _ h => h) (Or.inr ⟨by rfl, rfl⟩) (by assumption) ?_
          try simp only [Act.put, List.setIfInBounds_toArray, List.set_cons_zero, List.set_cons_succ]
          refine wpAnyH_take (i := 7) (oi := { dst := some 95, op := Op.indexAddr 79 (Operand.tmp 94) (Operand.const (Value.int IntKind.i64 0)), type := 0, pos := "law.go:231", after := #[{ on := 6, ground := Ground.data }, { on := 2, ground := Ground.guard }], guard := some (2, true) }) (v := undef) rfl (by kernel_rfl) (by kernel_rfl) (by kernel_rfl) (fun _ _ _ h => h) (Or.inr ⟨by rfl, rfl⟩) (by assumption) ?_
          try simp only [Act.put, List.setIfInBounds_toArray, List.set_cons_zero, List.set_cons_succ]
          refine wpAnyH_take (i := 8) (oi := { dst := some 96, op := Op.load 3 (Operand.tmp 95), type := 3, pos := "law.go:231", after := #[{ on := 7, ground := Ground.data }, { on := 2, ground := Ground.guard }], guard := some (2, true) }) (v := undef) rfl (by kernel_rfl) (by kernel_rfl) (by kernel_rfl) (fun _ _ _ h => h) (Or.inr ⟨by rfl, rfl⟩) (by assumption) ?_
          try simp only [Act.put, List.setIfInBounds_toArray, List.set_cons_zero, List.set_cons_succ]
          refine wpAnyH_take (i := 9) (oi := { dst := some 97, op := Op.move (Operand.tmp 15), type := 3, pos := "law.go:231", after := #[{ on := 2, ground := Ground.guard }], guard := some (2, true) }) (v := undef) rfl (by kernel_rfl) (by kernel_rfl) (by kernel_rfl) (fun _ _ _ h => h) (Or.inr ⟨by rfl, rfl⟩) (by assumption) ?_
          try simp only [Act.put, List.setIfInBounds_toArray, List.set_cons_zero, List.set_cons_succ]
          refine wpAnyH_take (i := 10) (oi := { dst := some 98, op := Op.binOp BinOp.gtr 3 (Operand.tmp 96) (Operand.tmp 97) 3, type := 4, pos := "law.go:231", after := #[{ on := 8, ground := Ground.data }, { on := 9, ground := Ground.data }, { on := 2, ground := Ground.guard }], guard := some (2, true) }) (v := undef) rfl (by kernel_rfl) (by kernel_rfl) (by kernel_rfl) (fun _ _ _ h => h) (Or.inr ⟨by rfl, rfl⟩) (by assumption) ?_
          try simp only [Act.put, List.setIfInBounds_toArray, List.set_cons_zero, List.set_cons_succ]
          refine wpAnyH_take (i := 11) (oi := { dst := some 99, op := Op.move (Operand.tmp 98), type := 4, pos := "law.go:231", after := #[{ on := 10, ground := Ground.data }, { on := 2, ground := Ground.chain }, { on := 2, ground := Ground.guard }], guard := some (2, true) }) (v := undef) rfl (by kernel_rfl) (by kernel_rfl) (by kernel_rfl) (fun _ _ _ h => h) (Or.inr ⟨by rfl, rfl⟩) (by assumption) ?_
          try simp only [Act.put, List.setIfInBounds_toArray, List.set_cons_zero, List.set_cons_succ]
          refine wpAnyH_take (i := 12) (oi := { dst := some 100, op := Op.move (Operand.tmp 13), type := 67, pos := "law.go:231", after := #[{ on := 11, ground := Ground.guard }], guard := some (11, false) }) (v := undef) rfl (by kernel_rfl) (by kernel_rfl) (by kernel_rfl) (fun _ _ _ h => h) (Or.inr ⟨by rfl, rfl⟩) (by assumption) ?_
          try simp only [Act.put, List.setIfInBounds_toArray, List.set_cons_zero, List.set_cons_succ]
          refine wpAnyH_take (i := 13) (oi := { dst := some 101, op := Op.move (Operand.tmp 14), type := 3, pos := "law.go:231", after := #[{ on := 11, ground := Ground.guard }], guard := some (11, false) }) (v := undef) rfl (by kernel_rfl) (by kernel_rfl) (by kernel_rfl) (fun _ _ _ h => h) (Or.inr ⟨by rfl, rfl⟩) (by assumption) ?_
          try simp only [Act.put, List.setIfInBounds_toArray, List.set_cons_zero, List.set_cons_succ]
          refine wpAnyH_take (i := 14) (oi := { dst := some 102, op := Op.binOp BinOp.sub 3 (Operand.tmp 101) (Operand.const (Value.int IntKind.i64 1)) 3, type := 3, pos := "law.go:231", after := #[{ on := 13, ground := Ground.data }, { on := 11, ground := Ground.guard }], guard := some (11, false) }) (v := undef) rfl (by kernel_rfl) (by kernel_rfl) (by kernel_rfl) (fun _ _ _ h => h) (Or.inr ⟨by rfl, rfl⟩) (by assumption) ?_
          try simp only [Act.put, List.setIfInBounds_toArray, List.set_cons_zero, List.set_cons_succ]
          refine wpAnyH_take (i := 15) (oi := { dst := some 103, op := Op.indexAddr 67 (Operand.tmp 100) (Operand.tmp 102), type := 0, pos := "law.go:231", after := #[{ on := 12, ground := Ground.data }, { on := 14, ground := Ground.data }, { on := 11, ground := Ground.guard }], guard := some (11, false) }) (v := undef) rfl (by kernel_rfl) (by kernel_rfl) (by kernel_rfl) (fun _ _ _ h => h) (Or.inr ⟨by rfl, rfl⟩) (by assumption) ?_
          try simp only [Act.put, List.setIfInBounds_toArray, List.set_cons_zero, List.set_cons_succ]
          refine wpAnyH_take (i := 16) (oi := { dst := some 104, op := Op.indexAddr 79 (Operand.tmp 103) (Operand.const (Value.int IntKind.i64 0)), type := 0, pos := "law.go:231", after := #[{ on := 15, ground := Ground.data }, { on := 11, ground := Ground.guard }], guard := some (11, false) }) (v := undef) rfl (by kernel_rfl) (by kernel_rfl) (by kernel_rfl) (fun _ _ _ h => h) (Or.inr ⟨by rfl, rfl⟩) (by assumption) ?_
          try simp only [Act.put, List.setIfInBounds_toArray, List.set_cons_zero, List.set_cons_succ]
          refine wpAnyH_take (i := 17) (oi := { dst := some 105, op := Op.load 3 (Operand.tmp 104), type := 3, pos := "law.go:231", after := #[{ on := 16, ground := Ground.data }, { on := 11, ground := Ground.guard }], guard := some (11, false) }) (v := undef) rfl (by kernel_rfl) (by kernel_rfl) (by kernel_rfl) (fun _ _ _ h => h) (Or.inr ⟨by rfl, rfl⟩) (by assumption) ?_
          try simp only [Act.put, List.setIfInBounds_toArray, List.set_cons_zero, List.set_cons_succ]
          refine wpAnyH_take (i := 18) (oi := { dst := some 106, op := Op.move (Operand.tmp 15), type := 3, pos := "law.go:231", after := #[{ on := 11, ground := Ground.guard }], guard := some (11, false) }) (v := undef) rfl (by kernel_rfl) (by kernel_rfl) (by kernel_rfl) (fun _ _ _ h => h) (Or.inr ⟨by rfl, rfl⟩) (by assumption) ?_
          try simp only [Act.put, List.setIfInBounds_toArray, List.set_cons_zero, List.set_cons_succ]
          refine wpAnyH_take (i := 19) (oi := { dst := some 107, op := Op.binOp BinOp.eql 3 (Operand.tmp 105) (Operand.tmp 106) 3, type := 4, pos := "law.go:231", after := #[{ on := 17, ground := Ground.data }, { on := 18, ground := Ground.data }, { on := 11, ground := Ground.guard }], guard := some (11, false) }) (v := undef) rfl (by kernel_rfl) (by kernel_rfl) (by kernel_rfl) (fun _ _ _ h => h) (Or.inr ⟨by rfl, rfl⟩) (by assumption) ?_
          try simp only [Act.put, List.setIfInBounds_toArray, List.set_cons_zero, List.set_cons_succ]
          refine wpAnyH_take (i := 20) (oi := { dst := some 108, op := Op.move (Operand.tmp 107), type := 4, pos := "law.go:231", after := #[{ on := 19, ground := Ground.data }, { on := 11, ground := Ground.chain }, { on := 11, ground := Ground.guard }], guard := some (11, false) }) (v := undef) rfl (by kernel_rfl) (by kernel_rfl) (by kernel_rfl) (fun _ _ _ h => h) (Or.inr ⟨by rfl, rfl⟩) (by assumption) ?_
          try simp only [Act.put, List.setIfInBounds_toArray, List.set_cons_zero, List.set_cons_succ]
          refine wpAnyH_take (i := 21) (oi := { dst := some 109, op := Op.move (Operand.tmp 13), type := 67, pos := "law.go:231", after := #[{ on := 20, ground := Ground.guard }], guard := some (20, true) }) (v := undef) rfl (by kernel_rfl) (by kernel_rfl) (by kernel_rfl) (fun _ _ _ h => h) (Or.inr ⟨by rfl, rfl⟩) (by assumption) ?_
          try simp only [Act.put, List.setIfInBounds_toArray, List.set_cons_zero, List.set_cons_succ]
          refine wpAnyH_take (i := 22) (oi := { dst := some 110, op := Op.move (Operand.tmp 14), type := 3, pos := "law.go:231", after := #[{ on := 20, ground := Ground.guard }], guard := some (20, true) }) (v := undef) rfl (by kernel_rfl) (by kernel_rfl) (by kernel_rfl) (fun _ _ _ h => h) (Or.inr ⟨by rfl, rfl⟩) (by assumption) ?_
          try simp only [Act.put, List.setIfInBounds_toArray, List.set_cons_zero, List.set_cons_succ]
          refine wpAnyH_take (i := 23) (oi := { dst := some 111, op := Op.binOp BinOp.sub 3 (Operand.tmp 110) (Operand.const (Value.int IntKind.i64 1)) 3, type := 3, pos := "law.go:231", after := #[{ on := 22, ground := Ground.data }, { on := 20, ground := Ground.guard }], guard := some (20, true) }) (v := undef) rfl (by kernel_rfl) (by kernel_rfl) (by kernel_rfl) (fun _ _ _ h => h) (Or.inr ⟨by rfl, rfl⟩) (by assumption) ?_
          try simp only [Act.put, List.setIfInBounds_toArray, List.set_cons_zero, List.set_cons_succ]
          refine wpAnyH_take (i := 24) (oi := { dst := some 112, op := Op.indexAddr 67 (Operand.tmp 109) (Operand.tmp 111), type := 0, pos := "law.go:231", after := #[{ on := 21, ground := Ground.data }, { on := 23, ground := Ground.data }, { on := 20, ground := Ground.guard }], guard := some (20, true) }) (v := undef) rfl (by kernel_rfl) (by kernel_rfl) (by kernel_rfl) (fun _ _ _ h => h) (Or.inr ⟨by rfl, rfl⟩) (by assumption) ?_
          try simp only [Act.put, List.setIfInBounds_toArray, List.set_cons_zero, List.set_cons_succ]
          refine wpAnyH_take (i := 25) (oi := { dst := some 113, op := Op.indexAddr 79 (Operand.tmp 112) (Operand.const (Value.int IntKind.i64 1)), type := 0, pos := "law.go:231", after := #[{ on := 24, ground := Ground.data }, { on := 20, ground := Ground.guard }], guard := some (20, true) }) (v := undef) rfl (by kernel_rfl) (by kernel_rfl) (by kernel_rfl) (fun _ _ _ h => h) (Or.inr ⟨by rfl, rfl⟩) (by assumption) ?_
          try simp only [Act.put, List.setIfInBounds_toArray, List.set_cons_zero, List.set_cons_succ]
          refine wpAnyH_take (i := 26) (oi := { dst := some 114, op := Op.load 3 (Operand.tmp 113), type := 3, pos := "law.go:231", after := #[{ on := 25, ground := Ground.data }, { on := 20, ground := Ground.guard }], guard := some (20, true) }) (v := undef) rfl (by kernel_rfl) (by kernel_rfl) (by kernel_rfl) (fun _ _ _ h => h) (Or.inr ⟨by rfl, rfl⟩) (by assumption) ?_
          try simp only [Act.put, List.setIfInBounds_toArray, List.set_cons_zero, List.set_cons_succ]
          refine wpAnyH_take (i := 27) (oi := { dst := some 115, op := Op.move (Operand.tmp 13), type := 67, pos := "law.go:231", after := #[{ on := 20, ground := Ground.guard }], guard := some (20, true) }) (v := undef) rfl (by kernel_rfl) (by kernel_rfl) (by kernel_rfl) (fun _ _ _ h => h) (Or.inr ⟨by rfl, rfl⟩) (by assumption) ?_
          try simp only [Act.put, List.setIfInBounds_toArray, List.set_cons_zero, List.set_cons_succ]
          refine wpAnyH_take (i := 28) (oi := { dst := some 116, op := Op.move (Operand.tmp 14), type := 3, pos := "law.go:231", after := #[{ on := 20, ground := Ground.guard }], guard := some (20, true) }) (v := undef) rfl (by kernel_rfl) (by kernel_rfl) (by kernel_rfl) (fun _ _ _ h => h) (Or.inr ⟨by rfl, rfl⟩) (by assumption) ?_
          try simp only [Act.put, List.setIfInBounds_toArray, List.set_cons_zero, List.set_cons_succ]
          refine wpAnyH_take (i := 29) (oi := { dst := some 117, op := Op.indexAddr 67 (Operand.tmp 115) (Operand.tmp 116), type := 0, pos := "law.go:231", after := #[{ on := 27, ground := Ground.data }, { on := 28, ground := Ground.data }, { on := 20, ground := Ground.guard }], guard := some (20, true) }) (v := undef) rfl (by kernel_rfl) (by kernel_rfl) (by kernel_rfl) (fun _ _ _ h => h) (Or.inr ⟨by rfl, rfl⟩) (by assumption) ?_
          try simp only [Act.put, List.setIfInBounds_toArray, List.set_cons_zero, List.set_cons_succ]
          refine wpAnyH_take (i := 30) (oi := { dst := some 118, op := Op.indexAddr 79 (Operand.tmp 117) (Operand.const (Value.int IntKind.i64 1)), type := 0, pos := "law.go:231", after := #[{ on := 29, ground := Ground.data }, { on := 20, ground := Ground.guard }], guard := some (20, true) }) (v := undef) rfl (by kernel_rfl) (by kernel_rfl) (by kernel_rfl) (fun _ _ _ h => h) (Or.inr ⟨by rfl, rfl⟩) (by assumption) ?_
          try simp only [Act.put, List.setIfInBounds_toArray, List.set_cons_zero, List.set_cons_succ]
          refine wpAnyH_take (i := 31) (oi := { dst := some 119, op := Op.load 3 (Operand.tmp 118), type := 3, pos := "law.go:231", after := #[{ on := 30, ground := Ground.data }, { on := 20, ground := Ground.guard }], guard := some (20, true) }) (v := undef) rfl (by kernel_rfl) (by kernel_rfl) (by kernel_rfl) (fun _ _ _ h => h) (Or.inr ⟨by rfl, rfl⟩) (by assumption) ?_
          try simp only [Act.put, List.setIfInBounds_toArray, List.set_cons_zero, List.set_cons_succ]
          refine wpAnyH_take (i := 32) (oi := { dst := some 120, op := Op.binOp BinOp.geq 3 (Operand.tmp 114) (Operand.tmp 119) 3, type := 4, pos := "law.go:231", after := #[{ on := 26, ground := Ground.data }, { on := 31, ground := Ground.data }, { on := 20, ground := Ground.guard }], guard := some (20, true) }) (v := undef) rfl (by kernel_rfl) (by kernel_rfl) (by kernel_rfl) (fun _ _ _ h => h) (Or.inr ⟨by rfl, rfl⟩) (by assumption) ?_
          try simp only [Act.put, List.setIfInBounds_toArray, List.set_cons_zero, List.set_cons_succ]
          refine wpAnyH_take (i := 33) (oi := { dst := some 121, op := Op.pick (Operand.tmp 108) (Operand.tmp 120) (Operand.const (Value.bool false)), type := 4, pos := "law.go:231", after := #[{ on := 20, ground := Ground.data }, { on := 32, ground := Ground.data }, { on := 11, ground := Ground.guard }], guard := some (11, false) }) (v := undef) rfl (by kernel_rfl) (by kernel_rfl) (by kernel_rfl) (fun _ _ _ h => h) (Or.inr ⟨by rfl, rfl⟩) (by assumption) ?_
          try simp only [Act.put, List.setIfInBounds_toArray, List.set_cons_zero, List.set_cons_succ]
          refine wpAnyH_take (i := 34) (oi := { dst := some 122, op := Op.pick (Operand.tmp 99) (Operand.const (Value.bool true)) (Operand.tmp 121), type := 4, pos := "law.go:231", after := #[{ on := 11, ground := Ground.data }, { on := 33, ground := Ground.data }, { on := 2, ground := Ground.guard }], guard := some (2, true) }) (v := undef) rfl (by kernel_rfl) (by kernel_rfl) (by kernel_rfl) (fun _ _ _ h => h) (Or.inr ⟨by rfl, rfl⟩) (by assumption) ?_
          try simp only [Act.put, List.setIfInBounds_toArray, List.set_cons_zero, List.set_cons_succ]
          refine wpAnyH_take (i := 35) (oi := { dst := some 123, op := Op.pick (Operand.tmp 90) (Operand.tmp 122) (Operand.const (Value.bool false)), type := 4, pos := "law.go:231", after := #[{ on := 2, ground := Ground.data }, { on := 34, ground := Ground.data }], guard := none }) (v := ?_) rfl (by kernel_rfl) (by kernel_rfl) (by kernel_rfl) (fun _ _ _ h => h) (Or.inl ⟨by rfl, ?_⟩) (by assumption) ?_
          rotate_left 1
          · (intro W hSW; (try dsimp only at hSW); first | (go_simp; done) | (go_simp; with_reducible rfl))
          try simp only [Act.put, List.setIfInBounds_toArray, List.set_cons_zero, List.set_cons_succ]
          refine wpAnyH_done (by kernel_rfl) ?_ _
          have hEND := hdr
          clear hHeld
          go_wp2_with fail
          go_roundg (m - (0 + 1))
          case measure => rw [HI.out.1]; omega
          case rel => exact ⟨0 + 1, rfl, rfl, by omega, HI.out.2.trans (HWX.out.trans hEND)⟩
        · obtain ⟨j, hj⟩ : ∃ j, k = j + 1 := ⟨k - 1, by omega⟩
          subst hj
          obtain ⟨q, hq⟩ : ∃ q, (freeTo A f)[j]? = some q := ⟨_, List.getElem?_eq_getElem (by rw [HM.out]; omega)⟩
          have hlex := free_next HA.out.1 hq HP.out.1
          obtain ⟨_, _, ee, m0, m1⟩ := HPR.out.2 j _ hq
          cases ee
          obtain ⟨_, _, ee, l0, l1⟩ := HPR.out.2 (j + 1) _ HP.out.1
          cases ee
          rw [HP.out.2.1] at l0
          rw [HP.out.2.2] at l1
          unfold LexLt at hlex
          rw [HP.out.2.1, HP.out.2.2] at hlex
          obtain ⟨q1, hq1⟩ : ∃ z, q.1 = z := ⟨_, rfl⟩
          obtain ⟨q2, hq2⟩ : ∃ z, q.2 = z := ⟨_, rfl⟩
          rw [hq1] at hlex m0
          rw [hq2] at hlex m1
          clear hq hq1 hq2
          have hjB : decide (j < m) = true := by simp; omega
          have hjI : (j : Int) < (m : Int) := by omega
          have hj0 : (0 : Int) ≤ (j : Int) := by omega
          have hj2 : (0 : Int) ≤ (j : Int) + 1 := by omega
          have hj3 : (j : Int) + 1 < (m : Int) := by omega
          have hwj : IntKind.i64.wrap (j : Int) = (j : Int) := IntWalk.i64_in _ (by omega)
          rcases hlex with hlt | ⟨heq, hlt⟩
          · have hA1 : decide ((i : Int) < q1) = false := by simp; omega
            have hA2 : decide (q1 = (i : Int)) = false := by simp; omega
            have hA3 : (q1 == (i : Int)) = false := by simp; omega
            have HS := Lib.hid (fun (Wh : World) (hWh : wc2.grownBy Wh none) => (⟨hWh, hWh.cell m0 (by simp), hWh.cell m1 (by simp), hWh.cell l0 (by simp), hWh.cell l1 (by simp)⟩ : (fun Wh : World => wc2.grownBy Wh none ∧ Wh.cell? ⟨lb, lo + j * 2, none⟩ = some (.int .i64 q1) ∧ Wh.cell? ⟨lb, lo + j * 2 + 1, none⟩ = some (.int .i64 q2) ∧ Wh.cell? ⟨lb, lo + (j + 1) * 2, none⟩ = some (.int .i64 (i : Int)) ∧ Wh.cell? ⟨lb, lo + (j + 1) * 2 + 1, none⟩ = some (.int .i64 r)) Wh))
            have hdr : wc2.grownBy wc2.drew none := ⟨rfl, rfl, rfl, Nat.le_refl _, fun _ _ _ => rfl⟩
            refine wp_region_held_drew (S := (fun Wh : World => wc2.grownBy Wh none ∧ Wh.cell? ⟨lb, lo + j * 2, none⟩ = some (.int .i64 q1) ∧ Wh.cell? ⟨lb, lo + j * 2 + 1, none⟩ = some (.int .i64 q2) ∧ Wh.cell? ⟨lb, lo + (j + 1) * 2, none⟩ = some (.int .i64 (i : Int)) ∧ Wh.cell? ⟨lb, lo + (j + 1) * 2 + 1, none⟩ = some (.int .i64 r))) (by kernel_rfl) (HS.out _ hdr) (fun hHeld => ?_)
            refine wpAnyH_take (i := 0) (oi := { dst := some 88, op := Op.move (Operand.tmp 14), type := 3, pos := "law.go:231", after := #[], guard := none }) (v := ?_) rfl (by kernel_rfl) (by kernel_rfl) (by kernel_rfl) (fun _ _ _ h => h) (Or.inl ⟨by rfl, ?_⟩) (by assumption) ?_
            rotate_left 1
            · (intro W hSW; (try dsimp only at hSW); first | (go_simp; done) | (go_simp; with_reducible rfl))
            try simp only [Act.put, List.setIfInBounds_toArray, List.set_cons_zero, List.set_cons_succ]
            refine wpAnyH_take (i := 1) (oi := { dst := some 89, op := Op.binOp BinOp.gtr 3 (Operand.tmp 88) (Operand.const (Value.int IntKind.i64 0)) 3, type := 4, pos := "law.go:231", after := #[{ on := 0, ground := Ground.data }], guard := none }) (v := ?_) rfl (by kernel_rfl) (by kernel_rfl) (by kernel_rfl) (fun _ _ _ h => h) (Or.inl ⟨by rfl, ?_⟩) (by assumption) ?_
            rotate_left 1
            · (intro W hSW; (try dsimp only at hSW); first | (go_simp; done) | (go_simp; with_reducible rfl))
            try simp only [Act.put, List.setIfInBounds_toArray, List.set_cons_zero, List.set_cons_succ]
            refine wpAnyH_take (i := 2) (oi := { dst := some 90, op := Op.move (Operand.tmp 89), type := 4, pos := "law.go:231", after := #[{ on := 1, ground := Ground.data }], guard := none }) (v := ?_) rfl (by kernel_rfl) (by kernel_rfl) (by kernel_rfl) (fun _ _ _ h => h) (Or.inl ⟨by rfl, ?_⟩) (by assumption) ?_
            rotate_left 1
            · (intro W hSW; (try dsimp only at hSW); first | (go_simp; done) | (go_simp; with_reducible rfl))
            try simp only [Act.put, List.setIfInBounds_toArray, List.set_cons_zero, List.set_cons_succ]
            refine wpAnyH_take (i := 3) (oi := { dst := some 91, op := Op.move (Operand.tmp 13), type := 67, pos := "law.go:231", after := #[{ on := 2, ground := Ground.guard }], guard := some (2, true) }) (v := ?_) rfl (by kernel_rfl) (by kernel_rfl) (by kernel_rfl) (fun _ _ _ h => h) (Or.inl ⟨by rfl, ?_⟩) (by assumption) ?_
            rotate_left 1
            · (intro W hSW; (try dsimp only at hSW); first | (go_simp; done) | (go_simp; with_reducible rfl))
            try simp only [Act.put, List.setIfInBounds_toArray, List.set_cons_zero, List.set_cons_succ]
            refine wpAnyH_take (i := 4) (oi := { dst := some 92, op := Op.move (Operand.tmp 14), type := 3, pos := "law.go:231", after := #[{ on := 2, ground := Ground.guard }], guard := some (2, true) }) (v := ?_) rfl (by kernel_rfl) (by kernel_rfl) (by kernel_rfl) (fun _ _ _ h => h) (Or.inl ⟨by rfl, ?_⟩) (by assumption) ?_
            rotate_left 1
            · (intro W hSW; (try dsimp only at hSW); first | (go_simp; done) | (go_simp; with_reducible rfl))
            try simp only [Act.put, List.setIfInBounds_toArray, List.set_cons_zero, List.set_cons_succ]
            refine wpAnyH_take (i := 5) (oi := { dst := some 93, op := Op.binOp BinOp.sub 3 (Operand.tmp 92) (Operand.const (Value.int IntKind.i64 1)) 3, type := 3, pos := "law.go:231", after := #[{ on := 4, ground := Ground.data }, { on := 2, ground := Ground.guard }], guard := some (2, true) }) (v := ?_) rfl (by kernel_rfl) (by kernel_rfl) (by kernel_rfl) (fun _ _ _ h => h) (Or.inl ⟨by rfl, ?_⟩) (by assumption) ?_
            rotate_left 1
            · (intro W hSW; (try dsimp only at hSW); first | (go_simp; done) | (go_simp; with_reducible rfl))
            try simp only [Act.put, List.setIfInBounds_toArray, List.set_cons_zero, List.set_cons_succ]
            refine wpAnyH_take (i := 6) (oi := { dst := some 94, op := Op.indexAddr 67 (Operand.tmp 91) (Operand.tmp 93), type := 0, pos := "law.go:231", after := #[{ on := 3, ground := Ground.data }, { on := 5, ground := Ground.data }, { on := 2, ground := Ground.guard }], guard := some (2, true) }) (v := ?_) rfl (by kernel_rfl) (by kernel_rfl) (by kernel_rfl) (fun _ _ _ h => h) (Or.inl ⟨by rfl, ?_⟩) (by assumption) ?_
            rotate_left 1
            · (intro W hSW; (try dsimp only at hSW); first | (go_simp; done) | (go_simp; with_reducible rfl))
            try simp only [Act.put, List.setIfInBounds_toArray, List.set_cons_zero, List.set_cons_succ]
            refine wpAnyH_take (i := 7) (oi := { dst := some 95, op := Op.indexAddr 79 (Operand.tmp 94) (Operand.const (Value.int IntKind.i64 0)), type := 0, pos := "law.go:231", after := #[{ on := 6, ground := Ground.data }, { on := 2, ground := Ground.guard }], guard := some (2, true) }) (v := ?_) rfl (by kernel_rfl) (by kernel_rfl) (by kernel_rfl) (fun _ _ _ h => h) (Or.inl ⟨by rfl, ?_⟩) (by assumption) ?_
            rotate_left 1
            · (intro W hSW; (try dsimp only at hSW); first | (go_simp; done) | (go_simp; with_reducible rfl))
            try simp only [Act.put, List.setIfInBounds_toArray, List.set_cons_zero, List.set_cons_succ]
            refine wpAnyH_take (i := 8) (oi := { dst := some 96, op := Op.load 3 (Operand.tmp 95), type := 3, pos := "law.go:231", after := #[{ on := 7, ground := Ground.data }, { on := 2, ground := Ground.guard }], guard := some (2, true) }) (v := ?_) rfl (by kernel_rfl) (by kernel_rfl) (by kernel_rfl) (fun _ _ _ h => h) (Or.inl ⟨by rfl, ?_⟩) (by assumption) ?_
            rotate_left 1
            · (intro W hSW; (try dsimp only at hSW); first | (go_simp; done) | (go_simp; with_reducible rfl))
            try simp only [Act.put, List.setIfInBounds_toArray, List.set_cons_zero, List.set_cons_succ]
            refine wpAnyH_take (i := 9) (oi := { dst := some 97, op := Op.move (Operand.tmp 15), type := 3, pos := "law.go:231", after := #[{ on := 2, ground := Ground.guard }], guard := some (2, true) }) (v := ?_) rfl (by kernel_rfl) (by kernel_rfl) (by kernel_rfl) (fun _ _ _ h => h) (Or.inl ⟨by rfl, ?_⟩) (by assumption) ?_
            rotate_left 1
            · (intro W hSW; (try dsimp only at hSW); first | (go_simp; done) | (go_simp; with_reducible rfl))
            try simp only [Act.put, List.setIfInBounds_toArray, List.set_cons_zero, List.set_cons_succ]
            refine wpAnyH_take (i := 10) (oi := { dst := some 98, op := Op.binOp BinOp.gtr 3 (Operand.tmp 96) (Operand.tmp 97) 3, type := 4, pos := "law.go:231", after := #[{ on := 8, ground := Ground.data }, { on := 9, ground := Ground.data }, { on := 2, ground := Ground.guard }], guard := some (2, true) }) (v := ?_) rfl (by kernel_rfl) (by kernel_rfl) (by kernel_rfl) (fun _ _ _ h => h) (Or.inl ⟨by rfl, ?_⟩) (by assumption) ?_
            rotate_left 1
            · (intro W hSW; (try dsimp only at hSW); first | (go_simp; done) | (go_simp; with_reducible rfl))
            try simp only [Act.put, List.setIfInBounds_toArray, List.set_cons_zero, List.set_cons_succ]
            refine wpAnyH_take (i := 11) (oi := { dst := some 99, op := Op.move (Operand.tmp 98), type := 4, pos := "law.go:231", after := #[{ on := 10, ground := Ground.data }, { on := 2, ground := Ground.chain }, { on := 2, ground := Ground.guard }], guard := some (2, true) }) (v := ?_) rfl (by kernel_rfl) (by kernel_rfl) (by kernel_rfl) (fun _ _ _ h => h) (Or.inl ⟨by rfl, ?_⟩) (by assumption) ?_
            rotate_left 1
            · (intro W hSW; (try dsimp only at hSW); first | (go_simp; done) | (go_simp; with_reducible rfl))
            try simp only [Act.put, List.setIfInBounds_toArray, List.set_cons_zero, List.set_cons_succ]
            refine wpAnyH_take (i := 12) (oi := { dst := some 100, op := Op.move (Operand.tmp 13), type := 67, pos := "law.go:231", after := #[{ on := 11, ground := Ground.guard }], guard := some (11, false) }) (v := ?_) rfl (by kernel_rfl) (by kernel_rfl) (by kernel_rfl) (fun _ _ _ h => h) (Or.inl ⟨by rfl, ?_⟩) (by assumption) ?_
            rotate_left 1
            · (intro W hSW; (try dsimp only at hSW); first | (go_simp; done) | (go_simp; with_reducible rfl))
            try simp only [Act.put, List.setIfInBounds_toArray, List.set_cons_zero, List.set_cons_succ]
            refine wpAnyH_take (i := 13) (oi := { dst := some 101, op := Op.move (Operand.tmp 14), type := 3, pos := "law.go:231", after := #[{ on := 11, ground := Ground.guard }], guard := some (11, false) }) (v := ?_) rfl (by kernel_rfl) (by kernel_rfl) (by kernel_rfl) (fun _ _ _ h => h) (Or.inl ⟨by rfl, ?_⟩) (by assumption) ?_
            rotate_left 1
            · (intro W hSW; (try dsimp only at hSW); first | (go_simp; done) | (go_simp; with_reducible rfl))
            try simp only [Act.put, List.setIfInBounds_toArray, List.set_cons_zero, List.set_cons_succ]
            refine wpAnyH_take (i := 14) (oi := { dst := some 102, op := Op.binOp BinOp.sub 3 (Operand.tmp 101) (Operand.const (Value.int IntKind.i64 1)) 3, type := 3, pos := "law.go:231", after := #[{ on := 13, ground := Ground.data }, { on := 11, ground := Ground.guard }], guard := some (11, false) }) (v := ?_) rfl (by kernel_rfl) (by kernel_rfl) (by kernel_rfl) (fun _ _ _ h => h) (Or.inl ⟨by rfl, ?_⟩) (by assumption) ?_
            rotate_left 1
            · (intro W hSW; (try dsimp only at hSW); first | (go_simp; done) | (go_simp; with_reducible rfl))
            try simp only [Act.put, List.setIfInBounds_toArray, List.set_cons_zero, List.set_cons_succ]
            refine wpAnyH_take (i := 15) (oi := { dst := some 103, op := Op.indexAddr 67 (Operand.tmp 100) (Operand.tmp 102), type := 0, pos := "law.go:231", after := #[{ on := 12, ground := Ground.data }, { on := 14, ground := Ground.data }, { on := 11, ground := Ground.guard }], guard := some (11, false) }) (v := ?_) rfl (by kernel_rfl) (by kernel_rfl) (by kernel_rfl) (fun _ _ _ h => h) (Or.inl ⟨by rfl, ?_⟩) (by assumption) ?_
            rotate_left 1
            · (intro W hSW; (try dsimp only at hSW); first | (go_simp; done) | (go_simp; with_reducible rfl))
            try simp only [Act.put, List.setIfInBounds_toArray, List.set_cons_zero, List.set_cons_succ]
            refine wpAnyH_take (i := 16) (oi := { dst := some 104, op := Op.indexAddr 79 (Operand.tmp 103) (Operand.const (Value.int IntKind.i64 0)), type := 0, pos := "law.go:231", after := #[{ on := 15, ground := Ground.data }, { on := 11, ground := Ground.guard }], guard := some (11, false) }) (v := ?_) rfl (by kernel_rfl) (by kernel_rfl) (by kernel_rfl) (fun _ _ _ h => h) (Or.inl ⟨by rfl, ?_⟩) (by assumption) ?_
            rotate_left 1
            · (intro W hSW; (try dsimp only at hSW); first | (go_simp; done) | (go_simp; with_reducible rfl))
            try simp only [Act.put, List.setIfInBounds_toArray, List.set_cons_zero, List.set_cons_succ]
            refine wpAnyH_take (i := 17) (oi := { dst := some 105, op := Op.load 3 (Operand.tmp 104), type := 3, pos := "law.go:231", after := #[{ on := 16, ground := Ground.data }, { on := 11, ground := Ground.guard }], guard := some (11, false) }) (v := ?_) rfl (by kernel_rfl) (by kernel_rfl) (by kernel_rfl) (fun _ _ _ h => h) (Or.inl ⟨by rfl, ?_⟩) (by assumption) ?_
            rotate_left 1
            · (intro W hSW; (try dsimp only at hSW); first | (go_simp; done) | (go_simp; with_reducible rfl))
            try simp only [Act.put, List.setIfInBounds_toArray, List.set_cons_zero, List.set_cons_succ]
            refine wpAnyH_take (i := 18) (oi := { dst := some 106, op := Op.move (Operand.tmp 15), type := 3, pos := "law.go:231", after := #[{ on := 11, ground := Ground.guard }], guard := some (11, false) }) (v := ?_) rfl (by kernel_rfl) (by kernel_rfl) (by kernel_rfl) (fun _ _ _ h => h) (Or.inl ⟨by rfl, ?_⟩) (by assumption) ?_
            rotate_left 1
            · (intro W hSW; (try dsimp only at hSW); first | (go_simp; done) | (go_simp; with_reducible rfl))
            try simp only [Act.put, List.setIfInBounds_toArray, List.set_cons_zero, List.set_cons_succ]
            refine wpAnyH_take (i := 19) (oi := { dst := some 107, op := Op.binOp BinOp.eql 3 (Operand.tmp 105) (Operand.tmp 106) 3, type := 4, pos := "law.go:231", after := #[{ on := 17, ground := Ground.data }, { on := 18, ground := Ground.data }, { on := 11, ground := Ground.guard }], guard := some (11, false) }) (v := ?_) rfl (by kernel_rfl) (by kernel_rfl) (by kernel_rfl) (fun _ _ _ h => h) (Or.inl ⟨by rfl, ?_⟩) (by assumption) ?_
            rotate_left 1
            · (intro W hSW; (try dsimp only at hSW); first | (go_simp; done) | (go_simp; with_reducible rfl))
            try simp only [Act.put, List.setIfInBounds_toArray, List.set_cons_zero, List.set_cons_succ]
            refine wpAnyH_take (i := 20) (oi := { dst := some 108, op := Op.move (Operand.tmp 107), type := 4, pos := "law.go:231", after := #[{ on := 19, ground := Ground.data }, { on := 11, ground := Ground.chain }, { on := 11, ground := Ground.guard }], guard := some (11, false) }) (v := ?_) rfl (by kernel_rfl) (by kernel_rfl) (by kernel_rfl) (fun _ _ _ h => h) (Or.inl ⟨by rfl, ?_⟩) (by assumption) ?_
            rotate_left 1
            · (intro W hSW; (try dsimp only at hSW); first | (go_simp; done) | (go_simp; with_reducible rfl))
            try simp only [Act.put, List.setIfInBounds_toArray, List.set_cons_zero, List.set_cons_succ]
            refine wpAnyH_take (i := 21) (oi := { dst := some 109, op := Op.move (Operand.tmp 13), type := 67, pos := "law.go:231", after := #[{ on := 20, ground := Ground.guard }], guard := some (20, true) }) (v := undef) rfl (by kernel_rfl) (by kernel_rfl) (by kernel_rfl) (fun _ _ _ h => h) (Or.inr ⟨by rfl, rfl⟩) (by assumption) ?_
            try simp only [Act.put, List.setIfInBounds_toArray, List.set_cons_zero, List.set_cons_succ]
            refine wpAnyH_take (i := 22) (oi := { dst := some 110, op := Op.move (Operand.tmp 14), type := 3, pos := "law.go:231", after := #[{ on := 20, ground := Ground.guard }], guard := some (20, true) }) (v := undef) rfl (by kernel_rfl) (by kernel_rfl) (by kernel_rfl) (fun _ _ _ h => h) (Or.inr ⟨by rfl, rfl⟩) (by assumption) ?_
            try simp only [Act.put, List.setIfInBounds_toArray, List.set_cons_zero, List.set_cons_succ]
            refine wpAnyH_take (i := 23) (oi := { dst := some 111, op := Op.binOp BinOp.sub 3 (Operand.tmp 110) (Operand.const (Value.int IntKind.i64 1)) 3, type := 3, pos := "law.go:231", after := #[{ on := 22, ground := Ground.data }, { on := 20, ground := Ground.guard }], guard := some (20, true) }) (v := undef) rfl (by kernel_rfl) (by kernel_rfl) (by kernel_rfl) (fun _ _ _ h => h) (Or.inr ⟨by rfl, rfl⟩) (by assumption) ?_
            try simp only [Act.put, List.setIfInBounds_toArray, List.set_cons_zero, List.set_cons_succ]
            refine wpAnyH_take (i := 24) (oi := { dst := some 112, op := Op.indexAddr 67 (Operand.tmp 109) (Operand.tmp 111), type := 0, pos := "law.go:231", after := #[{ on := 21, ground := Ground.data }, { on := 23, ground := Ground.data }, { on := 20, ground := Ground.guard }], guard := some (20, true) }) (v := undef) rfl (by kernel_rfl) (by kernel_rfl) (by kernel_rfl) (fun _ _ _ h => h) (Or.inr ⟨by rfl, rfl⟩) (by assumption) ?_
            try simp only [Act.put, List.setIfInBounds_toArray, List.set_cons_zero, List.set_cons_succ]
            refine wpAnyH_take (i := 25) (oi := { dst := some 113, op := Op.indexAddr 79 (Operand.tmp 112) (Operand.const (Value.int IntKind.i64 1)), type := 0, pos := "law.go:231", after := #[{ on := 24, ground := Ground.data }, { on := 20, ground := Ground.guard }], guard := some (20, true) }) (v := undef) rfl (by kernel_rfl) (by kernel_rfl) (by kernel_rfl) (fun _ _ _ h => h) (Or.inr ⟨by rfl, rfl⟩) (by assumption) ?_
            try simp only [Act.put, List.setIfInBounds_toArray, List.set_cons_zero, List.set_cons_succ]
            refine wpAnyH_take (i := 26) (oi := { dst := some 114, op := Op.load 3 (Operand.tmp 113), type := 3, pos := "law.go:231", after := #[{ on := 25, ground := Ground.data }, { on := 20, ground := Ground.guard }], guard := some (20, true) }) (v := undef) rfl (by kernel_rfl) (by kernel_rfl) (by kernel_rfl) (fun _ _ _ h => h) (Or.inr ⟨by rfl, rfl⟩) (by assumption) ?_
            try simp only [Act.put, List.setIfInBounds_toArray, List.set_cons_zero, List.set_cons_succ]
            refine wpAnyH_take (i := 27) (oi := { dst := some 115, op := Op.move (Operand.tmp 13), type := 67, pos := "law.go:231", after := #[{ on := 20, ground := Ground.guard }], guard := some (20, true) }) (v := undef) rfl (by kernel_rfl) (by kernel_rfl) (by kernel_rfl) (fun _ _ _ h => h) (Or.inr ⟨by rfl, rfl⟩) (by assumption) ?_
            try simp only [Act.put, List.setIfInBounds_toArray, List.set_cons_zero, List.set_cons_succ]
            refine wpAnyH_take (i := 28) (oi := { dst := some 116, op := Op.move (Operand.tmp 14), type := 3, pos := "law.go:231", after := #[{ on := 20, ground := Ground.guard }], guard := some (20, true) }) (v := undef) rfl (by kernel_rfl) (by kernel_rfl) (by kernel_rfl) (fun _ _ _ h => h) (Or.inr ⟨by rfl, rfl⟩) (by assumption) ?_
            try simp only [Act.put, List.setIfInBounds_toArray, List.set_cons_zero, List.set_cons_succ]
            refine wpAnyH_take (i := 29) (oi := { dst := some 117, op := Op.indexAddr 67 (Operand.tmp 115) (Operand.tmp 116), type := 0, pos := "law.go:231", after := #[{ on := 27, ground := Ground.data }, { on := 28, ground := Ground.data }, { on := 20, ground := Ground.guard }], guard := some (20, true) }) (v := undef) rfl (by kernel_rfl) (by kernel_rfl) (by kernel_rfl) (fun _ _ _ h => h) (Or.inr ⟨by rfl, rfl⟩) (by assumption) ?_
            try simp only [Act.put, List.setIfInBounds_toArray, List.set_cons_zero, List.set_cons_succ]
            refine wpAnyH_take (i := 30) (oi := { dst := some 118, op := Op.indexAddr 79 (Operand.tmp 117) (Operand.const (Value.int IntKind.i64 1)), type := 0, pos := "law.go:231", after := #[{ on := 29, ground := Ground.data }, { on := 20, ground := Ground.guard }], guard := some (20, true) }) (v := undef) rfl (by kernel_rfl) (by kernel_rfl) (by kernel_rfl) (fun _ _ _ h => h) (Or.inr ⟨by rfl, rfl⟩) (by assumption) ?_
            try simp only [Act.put, List.setIfInBounds_toArray, List.set_cons_zero, List.set_cons_succ]
            refine wpAnyH_take (i := 31) (oi := { dst := some 119, op := Op.load 3 (Operand.tmp 118), type := 3, pos := "law.go:231", after := #[{ on := 30, ground := Ground.data }, { on := 20, ground := Ground.guard }], guard := some (20, true) }) (v := undef) rfl (by kernel_rfl) (by kernel_rfl) (by kernel_rfl) (fun _ _ _ h => h) (Or.inr ⟨by rfl, rfl⟩) (by assumption) ?_
            try simp only [Act.put, List.setIfInBounds_toArray, List.set_cons_zero, List.set_cons_succ]
            refine wpAnyH_take (i := 32) (oi := { dst := some 120, op := Op.binOp BinOp.geq 3 (Operand.tmp 114) (Operand.tmp 119) 3, type := 4, pos := "law.go:231", after := #[{ on := 26, ground := Ground.data }, { on := 31, ground := Ground.data }, { on := 20, ground := Ground.guard }], guard := some (20, true) }) (v := undef) rfl (by kernel_rfl) (by kernel_rfl) (by kernel_rfl) (fun _ _ _ h => h) (Or.inr ⟨by rfl, rfl⟩) (by assumption) ?_
            try simp only [Act.put, List.setIfInBounds_toArray, List.set_cons_zero, List.set_cons_succ]
            refine wpAnyH_take (i := 33) (oi := { dst := some 121, op := Op.pick (Operand.tmp 108) (Operand.tmp 120) (Operand.const (Value.bool false)), type := 4, pos := "law.go:231", after := #[{ on := 20, ground := Ground.data }, { on := 32, ground := Ground.data }, { on := 11, ground := Ground.guard }], guard := some (11, false) }) (v := ?_) rfl (by kernel_rfl) (by kernel_rfl) (by kernel_rfl) (fun _ _ _ h => h) (Or.inl ⟨by rfl, ?_⟩) (by assumption) ?_
            rotate_left 1
            · (intro W hSW; (try dsimp only at hSW); first | (go_simp; done) | (go_simp; with_reducible rfl))
            try simp only [Act.put, List.setIfInBounds_toArray, List.set_cons_zero, List.set_cons_succ]
            refine wpAnyH_take (i := 34) (oi := { dst := some 122, op := Op.pick (Operand.tmp 99) (Operand.const (Value.bool true)) (Operand.tmp 121), type := 4, pos := "law.go:231", after := #[{ on := 11, ground := Ground.data }, { on := 33, ground := Ground.data }, { on := 2, ground := Ground.guard }], guard := some (2, true) }) (v := ?_) rfl (by kernel_rfl) (by kernel_rfl) (by kernel_rfl) (fun _ _ _ h => h) (Or.inl ⟨by rfl, ?_⟩) (by assumption) ?_
            rotate_left 1
            · (intro W hSW; (try dsimp only at hSW); first | (go_simp; done) | (go_simp; with_reducible rfl))
            try simp only [Act.put, List.setIfInBounds_toArray, List.set_cons_zero, List.set_cons_succ]
            refine wpAnyH_take (i := 35) (oi := { dst := some 123, op := Op.pick (Operand.tmp 90) (Operand.tmp 122) (Operand.const (Value.bool false)), type := 4, pos := "law.go:231", after := #[{ on := 2, ground := Ground.data }, { on := 34, ground := Ground.data }], guard := none }) (v := ?_) rfl (by kernel_rfl) (by kernel_rfl) (by kernel_rfl) (fun _ _ _ h => h) (Or.inl ⟨by rfl, ?_⟩) (by assumption) ?_
            rotate_left 1
            · (intro W hSW; (try dsimp only at hSW); first | (go_simp; done) | (go_simp; with_reducible rfl))
            try simp only [Act.put, List.setIfInBounds_toArray, List.set_cons_zero, List.set_cons_succ]
            refine wpAnyH_done (by kernel_rfl) ?_ _
            have hEND := hdr
            clear hHeld
            go_wp2_with fail
            go_roundg (m - (j + 1 + 1))
            case measure => rw [HI.out.1]; omega
            case rel => exact ⟨j + 1 + 1, rfl, rfl, by omega, HI.out.2.trans (HWX.out.trans hEND)⟩
          · rw [heq] at m0
            have hB1 : decide (r ≤ q2) = false := by simp; omega
            have HS := Lib.hid (fun (Wh : World) (hWh : wc2.grownBy Wh none) => (⟨hWh, hWh.cell m0 (by simp), hWh.cell m1 (by simp), hWh.cell l0 (by simp), hWh.cell l1 (by simp)⟩ : (fun Wh : World => wc2.grownBy Wh none ∧ Wh.cell? ⟨lb, lo + j * 2, none⟩ = some (.int .i64 (i : Int)) ∧ Wh.cell? ⟨lb, lo + j * 2 + 1, none⟩ = some (.int .i64 q2) ∧ Wh.cell? ⟨lb, lo + (j + 1) * 2, none⟩ = some (.int .i64 (i : Int)) ∧ Wh.cell? ⟨lb, lo + (j + 1) * 2 + 1, none⟩ = some (.int .i64 r)) Wh))
            have hdr : wc2.grownBy wc2.drew none := ⟨rfl, rfl, rfl, Nat.le_refl _, fun _ _ _ => rfl⟩
            refine wp_region_held_drew (S := (fun Wh : World => wc2.grownBy Wh none ∧ Wh.cell? ⟨lb, lo + j * 2, none⟩ = some (.int .i64 (i : Int)) ∧ Wh.cell? ⟨lb, lo + j * 2 + 1, none⟩ = some (.int .i64 q2) ∧ Wh.cell? ⟨lb, lo + (j + 1) * 2, none⟩ = some (.int .i64 (i : Int)) ∧ Wh.cell? ⟨lb, lo + (j + 1) * 2 + 1, none⟩ = some (.int .i64 r))) (by kernel_rfl) (HS.out _ hdr) (fun hHeld => ?_)
            refine wpAnyH_take (i := 0) (oi := { dst := some 88, op := Op.move (Operand.tmp 14), type := 3, pos := "law.go:231", after := #[], guard := none }) (v := ?_) rfl (by kernel_rfl) (by kernel_rfl) (by kernel_rfl) (fun _ _ _ h => h) (Or.inl ⟨by rfl, ?_⟩) (by assumption) ?_
            rotate_left 1
            · (intro W hSW; (try dsimp only at hSW); first | (go_simp; done) | (go_simp; with_reducible rfl))
            try simp only [Act.put, List.setIfInBounds_toArray, List.set_cons_zero, List.set_cons_succ]
            refine wpAnyH_take (i := 1) (oi := { dst := some 89, op := Op.binOp BinOp.gtr 3 (Operand.tmp 88) (Operand.const (Value.int IntKind.i64 0)) 3, type := 4, pos := "law.go:231", after := #[{ on := 0, ground := Ground.data }], guard := none }) (v := ?_) rfl (by kernel_rfl) (by kernel_rfl) (by kernel_rfl) (fun _ _ _ h => h) (Or.inl ⟨by rfl, ?_⟩) (by assumption) ?_
            rotate_left 1
            · (intro W hSW; (try dsimp only at hSW); first | (go_simp; done) | (go_simp; with_reducible rfl))
            try simp only [Act.put, List.setIfInBounds_toArray, List.set_cons_zero, List.set_cons_succ]
            refine wpAnyH_take (i := 2) (oi := { dst := some 90, op := Op.move (Operand.tmp 89), type := 4, pos := "law.go:231", after := #[{ on := 1, ground := Ground.data }], guard := none }) (v := ?_) rfl (by kernel_rfl) (by kernel_rfl) (by kernel_rfl) (fun _ _ _ h => h) (Or.inl ⟨by rfl, ?_⟩) (by assumption) ?_
            rotate_left 1
            · (intro W hSW; (try dsimp only at hSW); first | (go_simp; done) | (go_simp; with_reducible rfl))
            try simp only [Act.put, List.setIfInBounds_toArray, List.set_cons_zero, List.set_cons_succ]
            refine wpAnyH_take (i := 3) (oi := { dst := some 91, op := Op.move (Operand.tmp 13), type := 67, pos := "law.go:231", after := #[{ on := 2, ground := Ground.guard }], guard := some (2, true) }) (v := ?_) rfl (by kernel_rfl) (by kernel_rfl) (by kernel_rfl) (fun _ _ _ h => h) (Or.inl ⟨by rfl, ?_⟩) (by assumption) ?_
            rotate_left 1
            · (intro W hSW; (try dsimp only at hSW); first | (go_simp; done) | (go_simp; with_reducible rfl))
            try simp only [Act.put, List.setIfInBounds_toArray, List.set_cons_zero, List.set_cons_succ]
            refine wpAnyH_take (i := 4) (oi := { dst := some 92, op := Op.move (Operand.tmp 14), type := 3, pos := "law.go:231", after := #[{ on := 2, ground := Ground.guard }], guard := some (2, true) }) (v := ?_) rfl (by kernel_rfl) (by kernel_rfl) (by kernel_rfl) (fun _ _ _ h => h) (Or.inl ⟨by rfl, ?_⟩) (by assumption) ?_
            rotate_left 1
            · (intro W hSW; (try dsimp only at hSW); first | (go_simp; done) | (go_simp; with_reducible rfl))
            try simp only [Act.put, List.setIfInBounds_toArray, List.set_cons_zero, List.set_cons_succ]
            refine wpAnyH_take (i := 5) (oi := { dst := some 93, op := Op.binOp BinOp.sub 3 (Operand.tmp 92) (Operand.const (Value.int IntKind.i64 1)) 3, type := 3, pos := "law.go:231", after := #[{ on := 4, ground := Ground.data }, { on := 2, ground := Ground.guard }], guard := some (2, true) }) (v := ?_) rfl (by kernel_rfl) (by kernel_rfl) (by kernel_rfl) (fun _ _ _ h => h) (Or.inl ⟨by rfl, ?_⟩) (by assumption) ?_
            rotate_left 1
            · (intro W hSW; (try dsimp only at hSW); first | (go_simp; done) | (go_simp; with_reducible rfl))
            try simp only [Act.put, List.setIfInBounds_toArray, List.set_cons_zero, List.set_cons_succ]
            refine wpAnyH_take (i := 6) (oi := { dst := some 94, op := Op.indexAddr 67 (Operand.tmp 91) (Operand.tmp 93), type := 0, pos := "law.go:231", after := #[{ on := 3, ground := Ground.data }, { on := 5, ground := Ground.data }, { on := 2, ground := Ground.guard }], guard := some (2, true) }) (v := ?_) rfl (by kernel_rfl) (by kernel_rfl) (by kernel_rfl) (fun _ _ _ h => h) (Or.inl ⟨by rfl, ?_⟩) (by assumption) ?_
            rotate_left 1
            · (intro W hSW; (try dsimp only at hSW); first | (go_simp; done) | (go_simp; with_reducible rfl))
            try simp only [Act.put, List.setIfInBounds_toArray, List.set_cons_zero, List.set_cons_succ]
            refine wpAnyH_take (i := 7) (oi := { dst := some 95, op := Op.indexAddr 79 (Operand.tmp 94) (Operand.const (Value.int IntKind.i64 0)), type := 0, pos := "law.go:231", after := #[{ on := 6, ground := Ground.data }, { on := 2, ground := Ground.guard }], guard := some (2, true) }) (v := ?_) rfl (by kernel_rfl) (by kernel_rfl) (by kernel_rfl) (fun _ _ _ h => h) (Or.inl ⟨by rfl, ?_⟩) (by assumption) ?_
            rotate_left 1
            · (intro W hSW; (try dsimp only at hSW); first | (go_simp; done) | (go_simp; with_reducible rfl))
            try simp only [Act.put, List.setIfInBounds_toArray, List.set_cons_zero, List.set_cons_succ]
            refine wpAnyH_take (i := 8) (oi := { dst := some 96, op := Op.load 3 (Operand.tmp 95), type := 3, pos := "law.go:231", after := #[{ on := 7, ground := Ground.data }, { on := 2, ground := Ground.guard }], guard := some (2, true) }) (v := ?_) rfl (by kernel_rfl) (by kernel_rfl) (by kernel_rfl) (fun _ _ _ h => h) (Or.inl ⟨by rfl, ?_⟩) (by assumption) ?_
            rotate_left 1
            · (intro W hSW; (try dsimp only at hSW); first | (go_simp; done) | (go_simp; with_reducible rfl))
            try simp only [Act.put, List.setIfInBounds_toArray, List.set_cons_zero, List.set_cons_succ]
            refine wpAnyH_take (i := 9) (oi := { dst := some 97, op := Op.move (Operand.tmp 15), type := 3, pos := "law.go:231", after := #[{ on := 2, ground := Ground.guard }], guard := some (2, true) }) (v := ?_) rfl (by kernel_rfl) (by kernel_rfl) (by kernel_rfl) (fun _ _ _ h => h) (Or.inl ⟨by rfl, ?_⟩) (by assumption) ?_
            rotate_left 1
            · (intro W hSW; (try dsimp only at hSW); first | (go_simp; done) | (go_simp; with_reducible rfl))
            try simp only [Act.put, List.setIfInBounds_toArray, List.set_cons_zero, List.set_cons_succ]
            refine wpAnyH_take (i := 10) (oi := { dst := some 98, op := Op.binOp BinOp.gtr 3 (Operand.tmp 96) (Operand.tmp 97) 3, type := 4, pos := "law.go:231", after := #[{ on := 8, ground := Ground.data }, { on := 9, ground := Ground.data }, { on := 2, ground := Ground.guard }], guard := some (2, true) }) (v := ?_) rfl (by kernel_rfl) (by kernel_rfl) (by kernel_rfl) (fun _ _ _ h => h) (Or.inl ⟨by rfl, ?_⟩) (by assumption) ?_
            rotate_left 1
            · (intro W hSW; (try dsimp only at hSW); first | (go_simp; done) | (go_simp; with_reducible rfl))
            try simp only [Act.put, List.setIfInBounds_toArray, List.set_cons_zero, List.set_cons_succ]
            refine wpAnyH_take (i := 11) (oi := { dst := some 99, op := Op.move (Operand.tmp 98), type := 4, pos := "law.go:231", after := #[{ on := 10, ground := Ground.data }, { on := 2, ground := Ground.chain }, { on := 2, ground := Ground.guard }], guard := some (2, true) }) (v := ?_) rfl (by kernel_rfl) (by kernel_rfl) (by kernel_rfl) (fun _ _ _ h => h) (Or.inl ⟨by rfl, ?_⟩) (by assumption) ?_
            rotate_left 1
            · (intro W hSW; (try dsimp only at hSW); first | (go_simp; done) | (go_simp; with_reducible rfl))
            try simp only [Act.put, List.setIfInBounds_toArray, List.set_cons_zero, List.set_cons_succ]
            refine wpAnyH_take (i := 12) (oi := { dst := some 100, op := Op.move (Operand.tmp 13), type := 67, pos := "law.go:231", after := #[{ on := 11, ground := Ground.guard }], guard := some (11, false) }) (v := ?_) rfl (by kernel_rfl) (by kernel_rfl) (by kernel_rfl) (fun _ _ _ h => h) (Or.inl ⟨by rfl, ?_⟩) (by assumption) ?_
            rotate_left 1
            · (intro W hSW; (try dsimp only at hSW); first | (go_simp; done) | (go_simp; with_reducible rfl))
            try simp only [Act.put, List.setIfInBounds_toArray, List.set_cons_zero, List.set_cons_succ]
            refine wpAnyH_take (i := 13) (oi := { dst := some 101, op := Op.move (Operand.tmp 14), type := 3, pos := "law.go:231", after := #[{ on := 11, ground := Ground.guard }], guard := some (11, false) }) (v := ?_) rfl (by kernel_rfl) (by kernel_rfl) (by kernel_rfl) (fun _ _ _ h => h) (Or.inl ⟨by rfl, ?_⟩) (by assumption) ?_
            rotate_left 1
            · (intro W hSW; (try dsimp only at hSW); first | (go_simp; done) | (go_simp; with_reducible rfl))
            try simp only [Act.put, List.setIfInBounds_toArray, List.set_cons_zero, List.set_cons_succ]
            refine wpAnyH_take (i := 14) (oi := { dst := some 102, op := Op.binOp BinOp.sub 3 (Operand.tmp 101) (Operand.const (Value.int IntKind.i64 1)) 3, type := 3, pos := "law.go:231", after := #[{ on := 13, ground := Ground.data }, { on := 11, ground := Ground.guard }], guard := some (11, false) }) (v := ?_) rfl (by kernel_rfl) (by kernel_rfl) (by kernel_rfl) (fun _ _ _ h => h) (Or.inl ⟨by rfl, ?_⟩) (by assumption) ?_
            rotate_left 1
            · (intro W hSW; (try dsimp only at hSW); first | (go_simp; done) | (go_simp; with_reducible rfl))
            try simp only [Act.put, List.setIfInBounds_toArray, List.set_cons_zero, List.set_cons_succ]
            refine wpAnyH_take (i := 15) (oi := { dst := some 103, op := Op.indexAddr 67 (Operand.tmp 100) (Operand.tmp 102), type := 0, pos := "law.go:231", after := #[{ on := 12, ground := Ground.data }, { on := 14, ground := Ground.data }, { on := 11, ground := Ground.guard }], guard := some (11, false) }) (v := ?_) rfl (by kernel_rfl) (by kernel_rfl) (by kernel_rfl) (fun _ _ _ h => h) (Or.inl ⟨by rfl, ?_⟩) (by assumption) ?_
            rotate_left 1
            · (intro W hSW; (try dsimp only at hSW); first | (go_simp; done) | (go_simp; with_reducible rfl))
            try simp only [Act.put, List.setIfInBounds_toArray, List.set_cons_zero, List.set_cons_succ]
            refine wpAnyH_take (i := 16) (oi := { dst := some 104, op := Op.indexAddr 79 (Operand.tmp 103) (Operand.const (Value.int IntKind.i64 0)), type := 0, pos := "law.go:231", after := #[{ on := 15, ground := Ground.data }, { on := 11, ground := Ground.guard }], guard := some (11, false) }) (v := ?_) rfl (by kernel_rfl) (by kernel_rfl) (by kernel_rfl) (fun _ _ _ h => h) (Or.inl ⟨by rfl, ?_⟩) (by assumption) ?_
            rotate_left 1
            · (intro W hSW; (try dsimp only at hSW); first | (go_simp; done) | (go_simp; with_reducible rfl))
            try simp only [Act.put, List.setIfInBounds_toArray, List.set_cons_zero, List.set_cons_succ]
            refine wpAnyH_take (i := 17) (oi := { dst := some 105, op := Op.load 3 (Operand.tmp 104), type := 3, pos := "law.go:231", after := #[{ on := 16, ground := Ground.data }, { on := 11, ground := Ground.guard }], guard := some (11, false) }) (v := ?_) rfl (by kernel_rfl) (by kernel_rfl) (by kernel_rfl) (fun _ _ _ h => h) (Or.inl ⟨by rfl, ?_⟩) (by assumption) ?_
            rotate_left 1
            · (intro W hSW; (try dsimp only at hSW); first | (go_simp; done) | (go_simp; with_reducible rfl))
            try simp only [Act.put, List.setIfInBounds_toArray, List.set_cons_zero, List.set_cons_succ]
            refine wpAnyH_take (i := 18) (oi := { dst := some 106, op := Op.move (Operand.tmp 15), type := 3, pos := "law.go:231", after := #[{ on := 11, ground := Ground.guard }], guard := some (11, false) }) (v := ?_) rfl (by kernel_rfl) (by kernel_rfl) (by kernel_rfl) (fun _ _ _ h => h) (Or.inl ⟨by rfl, ?_⟩) (by assumption) ?_
            rotate_left 1
            · (intro W hSW; (try dsimp only at hSW); first | (go_simp; done) | (go_simp; with_reducible rfl))
            try simp only [Act.put, List.setIfInBounds_toArray, List.set_cons_zero, List.set_cons_succ]
            refine wpAnyH_take (i := 19) (oi := { dst := some 107, op := Op.binOp BinOp.eql 3 (Operand.tmp 105) (Operand.tmp 106) 3, type := 4, pos := "law.go:231", after := #[{ on := 17, ground := Ground.data }, { on := 18, ground := Ground.data }, { on := 11, ground := Ground.guard }], guard := some (11, false) }) (v := ?_) rfl (by kernel_rfl) (by kernel_rfl) (by kernel_rfl) (fun _ _ _ h => h) (Or.inl ⟨by rfl, ?_⟩) (by assumption) ?_
            rotate_left 1
            · (intro W hSW; (try dsimp only at hSW); first | (go_simp; done) | (go_simp; with_reducible rfl))
            try simp only [Act.put, List.setIfInBounds_toArray, List.set_cons_zero, List.set_cons_succ]
            refine wpAnyH_take (i := 20) (oi := { dst := some 108, op := Op.move (Operand.tmp 107), type := 4, pos := "law.go:231", after := #[{ on := 19, ground := Ground.data }, { on := 11, ground := Ground.chain }, { on := 11, ground := Ground.guard }], guard := some (11, false) }) (v := ?_) rfl (by kernel_rfl) (by kernel_rfl) (by kernel_rfl) (fun _ _ _ h => h) (Or.inl ⟨by rfl, ?_⟩) (by assumption) ?_
            rotate_left 1
            · (intro W hSW; (try dsimp only at hSW); first | (go_simp; done) | (go_simp; with_reducible rfl))
            try simp only [Act.put, List.setIfInBounds_toArray, List.set_cons_zero, List.set_cons_succ]
            refine wpAnyH_take (i := 21) (oi := { dst := some 109, op := Op.move (Operand.tmp 13), type := 67, pos := "law.go:231", after := #[{ on := 20, ground := Ground.guard }], guard := some (20, true) }) (v := ?_) rfl (by kernel_rfl) (by kernel_rfl) (by kernel_rfl) (fun _ _ _ h => h) (Or.inl ⟨by rfl, ?_⟩) (by assumption) ?_
            rotate_left 1
            · (intro W hSW; (try dsimp only at hSW); first | (go_simp; done) | (go_simp; with_reducible rfl))
            try simp only [Act.put, List.setIfInBounds_toArray, List.set_cons_zero, List.set_cons_succ]
            refine wpAnyH_take (i := 22) (oi := { dst := some 110, op := Op.move (Operand.tmp 14), type := 3, pos := "law.go:231", after := #[{ on := 20, ground := Ground.guard }], guard := some (20, true) }) (v := ?_) rfl (by kernel_rfl) (by kernel_rfl) (by kernel_rfl) (fun _ _ _ h => h) (Or.inl ⟨by rfl, ?_⟩) (by assumption) ?_
            rotate_left 1
            · (intro W hSW; (try dsimp only at hSW); first | (go_simp; done) | (go_simp; with_reducible rfl))
            try simp only [Act.put, List.setIfInBounds_toArray, List.set_cons_zero, List.set_cons_succ]
            refine wpAnyH_take (i := 23) (oi := { dst := some 111, op := Op.binOp BinOp.sub 3 (Operand.tmp 110) (Operand.const (Value.int IntKind.i64 1)) 3, type := 3, pos := "law.go:231", after := #[{ on := 22, ground := Ground.data }, { on := 20, ground := Ground.guard }], guard := some (20, true) }) (v := ?_) rfl (by kernel_rfl) (by kernel_rfl) (by kernel_rfl) (fun _ _ _ h => h) (Or.inl ⟨by rfl, ?_⟩) (by assumption) ?_
            rotate_left 1
            · (intro W hSW; (try dsimp only at hSW); first | (go_simp; done) | (go_simp; with_reducible rfl))
            try simp only [Act.put, List.setIfInBounds_toArray, List.set_cons_zero, List.set_cons_succ]
            refine wpAnyH_take (i := 24) (oi := { dst := some 112, op := Op.indexAddr 67 (Operand.tmp 109) (Operand.tmp 111), type := 0, pos := "law.go:231", after := #[{ on := 21, ground := Ground.data }, { on := 23, ground := Ground.data }, { on := 20, ground := Ground.guard }], guard := some (20, true) }) (v := ?_) rfl (by kernel_rfl) (by kernel_rfl) (by kernel_rfl) (fun _ _ _ h => h) (Or.inl ⟨by rfl, ?_⟩) (by assumption) ?_
            rotate_left 1
            · (intro W hSW; (try dsimp only at hSW); first | (go_simp; done) | (go_simp; with_reducible rfl))
            try simp only [Act.put, List.setIfInBounds_toArray, List.set_cons_zero, List.set_cons_succ]
            refine wpAnyH_take (i := 25) (oi := { dst := some 113, op := Op.indexAddr 79 (Operand.tmp 112) (Operand.const (Value.int IntKind.i64 1)), type := 0, pos := "law.go:231", after := #[{ on := 24, ground := Ground.data }, { on := 20, ground := Ground.guard }], guard := some (20, true) }) (v := ?_) rfl (by kernel_rfl) (by kernel_rfl) (by kernel_rfl) (fun _ _ _ h => h) (Or.inl ⟨by rfl, ?_⟩) (by assumption) ?_
            rotate_left 1
            · (intro W hSW; (try dsimp only at hSW); first | (go_simp; done) | (go_simp; with_reducible rfl))
            try simp only [Act.put, List.setIfInBounds_toArray, List.set_cons_zero, List.set_cons_succ]
            refine wpAnyH_take (i := 26) (oi := { dst := some 114, op := Op.load 3 (Operand.tmp 113), type := 3, pos := "law.go:231", after := #[{ on := 25, ground := Ground.data }, { on := 20, ground := Ground.guard }], guard := some (20, true) }) (v := ?_) rfl (by kernel_rfl) (by kernel_rfl) (by kernel_rfl) (fun _ _ _ h => h) (Or.inl ⟨by rfl, ?_⟩) (by assumption) ?_
            rotate_left 1
            · (intro W hSW; (try dsimp only at hSW); first | (go_simp; done) | (go_simp; with_reducible rfl))
            try simp only [Act.put, List.setIfInBounds_toArray, List.set_cons_zero, List.set_cons_succ]
            refine wpAnyH_take (i := 27) (oi := { dst := some 115, op := Op.move (Operand.tmp 13), type := 67, pos := "law.go:231", after := #[{ on := 20, ground := Ground.guard }], guard := some (20, true) }) (v := ?_) rfl (by kernel_rfl) (by kernel_rfl) (by kernel_rfl) (fun _ _ _ h => h) (Or.inl ⟨by rfl, ?_⟩) (by assumption) ?_
            rotate_left 1
            · (intro W hSW; (try dsimp only at hSW); first | (go_simp; done) | (go_simp; with_reducible rfl))
            try simp only [Act.put, List.setIfInBounds_toArray, List.set_cons_zero, List.set_cons_succ]
            refine wpAnyH_take (i := 28) (oi := { dst := some 116, op := Op.move (Operand.tmp 14), type := 3, pos := "law.go:231", after := #[{ on := 20, ground := Ground.guard }], guard := some (20, true) }) (v := ?_) rfl (by kernel_rfl) (by kernel_rfl) (by kernel_rfl) (fun _ _ _ h => h) (Or.inl ⟨by rfl, ?_⟩) (by assumption) ?_
            rotate_left 1
            · (intro W hSW; (try dsimp only at hSW); first | (go_simp; done) | (go_simp; with_reducible rfl))
            try simp only [Act.put, List.setIfInBounds_toArray, List.set_cons_zero, List.set_cons_succ]
            refine wpAnyH_take (i := 29) (oi := { dst := some 117, op := Op.indexAddr 67 (Operand.tmp 115) (Operand.tmp 116), type := 0, pos := "law.go:231", after := #[{ on := 27, ground := Ground.data }, { on := 28, ground := Ground.data }, { on := 20, ground := Ground.guard }], guard := some (20, true) }) (v := ?_) rfl (by kernel_rfl) (by kernel_rfl) (by kernel_rfl) (fun _ _ _ h => h) (Or.inl ⟨by rfl, ?_⟩) (by assumption) ?_
            rotate_left 1
            · (intro W hSW; (try dsimp only at hSW); first | (go_simp; done) | (go_simp; with_reducible rfl))
            try simp only [Act.put, List.setIfInBounds_toArray, List.set_cons_zero, List.set_cons_succ]
            refine wpAnyH_take (i := 30) (oi := { dst := some 118, op := Op.indexAddr 79 (Operand.tmp 117) (Operand.const (Value.int IntKind.i64 1)), type := 0, pos := "law.go:231", after := #[{ on := 29, ground := Ground.data }, { on := 20, ground := Ground.guard }], guard := some (20, true) }) (v := ?_) rfl (by kernel_rfl) (by kernel_rfl) (by kernel_rfl) (fun _ _ _ h => h) (Or.inl ⟨by rfl, ?_⟩) (by assumption) ?_
            rotate_left 1
            · (intro W hSW; (try dsimp only at hSW); first | (go_simp; done) | (go_simp; with_reducible rfl))
            try simp only [Act.put, List.setIfInBounds_toArray, List.set_cons_zero, List.set_cons_succ]
            refine wpAnyH_take (i := 31) (oi := { dst := some 119, op := Op.load 3 (Operand.tmp 118), type := 3, pos := "law.go:231", after := #[{ on := 30, ground := Ground.data }, { on := 20, ground := Ground.guard }], guard := some (20, true) }) (v := ?_) rfl (by kernel_rfl) (by kernel_rfl) (by kernel_rfl) (fun _ _ _ h => h) (Or.inl ⟨by rfl, ?_⟩) (by assumption) ?_
            rotate_left 1
            · (intro W hSW; (try dsimp only at hSW); first | (go_simp; done) | (go_simp; with_reducible rfl))
            try simp only [Act.put, List.setIfInBounds_toArray, List.set_cons_zero, List.set_cons_succ]
            refine wpAnyH_take (i := 32) (oi := { dst := some 120, op := Op.binOp BinOp.geq 3 (Operand.tmp 114) (Operand.tmp 119) 3, type := 4, pos := "law.go:231", after := #[{ on := 26, ground := Ground.data }, { on := 31, ground := Ground.data }, { on := 20, ground := Ground.guard }], guard := some (20, true) }) (v := ?_) rfl (by kernel_rfl) (by kernel_rfl) (by kernel_rfl) (fun _ _ _ h => h) (Or.inl ⟨by rfl, ?_⟩) (by assumption) ?_
            rotate_left 1
            · (intro W hSW; (try dsimp only at hSW); first | (go_simp; done) | (go_simp; with_reducible rfl))
            try simp only [Act.put, List.setIfInBounds_toArray, List.set_cons_zero, List.set_cons_succ]
            refine wpAnyH_take (i := 33) (oi := { dst := some 121, op := Op.pick (Operand.tmp 108) (Operand.tmp 120) (Operand.const (Value.bool false)), type := 4, pos := "law.go:231", after := #[{ on := 20, ground := Ground.data }, { on := 32, ground := Ground.data }, { on := 11, ground := Ground.guard }], guard := some (11, false) }) (v := ?_) rfl (by kernel_rfl) (by kernel_rfl) (by kernel_rfl) (fun _ _ _ h => h) (Or.inl ⟨by rfl, ?_⟩) (by assumption) ?_
            rotate_left 1
            · (intro W hSW; (try dsimp only at hSW); first | (go_simp; done) | (go_simp; with_reducible rfl))
            try simp only [Act.put, List.setIfInBounds_toArray, List.set_cons_zero, List.set_cons_succ]
            refine wpAnyH_take (i := 34) (oi := { dst := some 122, op := Op.pick (Operand.tmp 99) (Operand.const (Value.bool true)) (Operand.tmp 121), type := 4, pos := "law.go:231", after := #[{ on := 11, ground := Ground.data }, { on := 33, ground := Ground.data }, { on := 2, ground := Ground.guard }], guard := some (2, true) }) (v := ?_) rfl (by kernel_rfl) (by kernel_rfl) (by kernel_rfl) (fun _ _ _ h => h) (Or.inl ⟨by rfl, ?_⟩) (by assumption) ?_
            rotate_left 1
            · (intro W hSW; (try dsimp only at hSW); first | (go_simp; done) | (go_simp; with_reducible rfl))
            try simp only [Act.put, List.setIfInBounds_toArray, List.set_cons_zero, List.set_cons_succ]
            refine wpAnyH_take (i := 35) (oi := { dst := some 123, op := Op.pick (Operand.tmp 90) (Operand.tmp 122) (Operand.const (Value.bool false)), type := 4, pos := "law.go:231", after := #[{ on := 2, ground := Ground.data }, { on := 34, ground := Ground.data }], guard := none }) (v := ?_) rfl (by kernel_rfl) (by kernel_rfl) (by kernel_rfl) (fun _ _ _ h => h) (Or.inl ⟨by rfl, ?_⟩) (by assumption) ?_
            rotate_left 1
            · (intro W hSW; (try dsimp only at hSW); first | (go_simp; done) | (go_simp; with_reducible rfl))
            try simp only [Act.put, List.setIfInBounds_toArray, List.set_cons_zero, List.set_cons_succ]
            refine wpAnyH_done (by kernel_rfl) ?_ _
            have hEND := hdr
            clear hHeld
            go_wp2_with fail
            go_roundg (m - (j + 1 + 1))
            case measure => rw [HI.out.1]; omega
            case rel => exact ⟨j + 1 + 1, rfl, rfl, by omega, HI.out.2.trans (HWX.out.trans hEND)⟩
    · have hie : k = m := by omega
      subst hie
      have hinB : decide (k < k) = false := by simp
      replace HB := Lib.hid (HB.out.grown hgr)
      replace HMA := Lib.hid (HMA.out.grown hgr)
      replace HPR := Lib.hid (HPR.out.grown hgr)
      replace HG := Lib.hid (HG.out.trans hgr)
      clear hgr hgi hk
      obtain ⟨w5, rfl⟩ : ∃ z, z = wr := ⟨_, rfl⟩
      go_wp2_with fail
      clear hinB
      go_loopg [17, 18] f (fun g s17 s18 wr => ∃ i : Nat, s17 = .int .i64 ((freeTo A i).length : Nat) ∧ s18 = .int .i64 (i : Int) ∧ g = f - i ∧ i ≤ f ∧ w5.grownBy wr none)
      case atStart => exact ⟨0, rfl, rfl, rfl, Nat.zero_le _, grown_refl _ _⟩
      case round =>
        obtain ⟨i, rfl, rfl, hgi, hi, hgr⟩ := hrel
        replace HB := Lib.hid (HB.out.grown hgr)
        replace HMA := Lib.hid (HMA.out.grown hgr)
        replace HPR := Lib.hid (HPR.out.grown hgr)
        replace HG := Lib.hid (HG.out.trans hgr)
        have HI := Lib.hid (And.intro hgi hgr); clear hgi hgr
        by_cases hin : i < f
        · have hinB : decide (i < f) = true := by simpa using hin
          have hinI : (i : Int) < (f : Int) := by omega
          obtain ⟨x, hx⟩ : ∃ x, A[i]? = some x := ⟨_, List.getElem?_eq_getElem (by rw [HA.out.2.2]; exact hin)⟩
          obtain ⟨b, o, rfl, hbx⟩ := HMA.out.2 i x hx
          obtain ⟨a1, k1, a2, k2, x0, x1, x2, x3, i1, i2⟩ := hbx.parts
          have hxl := HA.out.2.1 x (List.mem_of_getElem? hx)
          obtain ⟨d, hd⟩ := getL HA.out.1.1 hx
          have hgx := HA.out.1.2 i x d hx hd
          have hst : (freeTo A (i + 1)).length + x.1.2.length = (freeTo A i).length + x.2.2.length := by
            have h1 := diff_len hgx.u2 hgx.u1 hgx.s1
            rw [freeTo_succ hx, List.length_append, freeX, List.length_map]
            omega
          have hul : (freeTo A i).length ≤ i * 250 := freeTo_short (A := A) (fun x hx => by have := HA.out.2.1 x hx; omega) i
          obtain ⟨u, hu⟩ : ∃ u, (freeTo A i).length = u := ⟨_, rfl⟩
          obtain ⟨u2, hu2⟩ : ∃ u, (freeTo A (i + 1)).length = u := ⟨_, rfl⟩
          obtain ⟨n1, hn1⟩ : ∃ u, x.1.2.length = u := ⟨_, rfl⟩
          obtain ⟨n2, hn2⟩ : ∃ u, x.2.2.length = u := ⟨_, rfl⟩
          rw [hu, hu2, hn1, hn2] at hst
          rw [hn1, hn2] at hxl
          rw [hn1] at x1
          rw [hn2] at x3
          rw [hu] at hul ⊢
          have HU := Lib.hid (And.intro hu2 hst)
          have hw1 : IntKind.i64.wrap ((u : Int) + (n2 : Int)) = (u : Int) + (n2 : Int) := IntWalk.i64_in _ (by omega)
          have hw2 : IntKind.i64.wrap ((u : Int) + (n2 : Int) - (n1 : Int)) = (u : Int) + (n2 : Int) - (n1 : Int) := IntWalk.i64_in _ (by omega)
          clear hx hbx i1 i2 hd hgx hst hu hu2 hn1 hn2 x0 x2
          go_wp2_with fail
          have HS := Lib.hid (fun (Wh : World) (hWh : wr.grownBy Wh none) => (⟨hWh, hWh.cell x1 (by simp), hWh.cell x3 (by simp)⟩ : (fun Wh : World => wr.grownBy Wh none ∧ Wh.cell? ⟨b, o + i * 4 + 1, none⟩ = some (.slice a1 n1 k1) ∧ Wh.cell? ⟨b, o + i * 4 + 3, none⟩ = some (.slice a2 n2 k2)) Wh))
          clear x1 x3
          have hdr : wr.grownBy wr.drew none := ⟨rfl, rfl, rfl, Nat.le_refl _, fun _ _ _ => rfl⟩
          refine wp_region_held_drew (S := (fun Wh : World => wr.grownBy Wh none ∧ Wh.cell? ⟨b, o + i * 4 + 1, none⟩ = some (.slice a1 n1 k1) ∧ Wh.cell? ⟨b, o + i * 4 + 3, none⟩ = some (.slice a2 n2 k2))) (by kernel_rfl) (HS.out _ hdr) (fun hHeld => ?_)
          refine wpAnyH_take (i := 0) (oi := { dst := some 130, op := Op.move (Operand.tmp 17), type := 3, pos := "law.go:237", after := #[], guard := none }) (v := ?_) rfl (by kernel_rfl) (by kernel_rfl) (by kernel_rfl) (fun _ _ _ h => h) (Or.inl ⟨by rfl, ?_⟩) (by assumption) ?_
          rotate_left 1
          · (intro W hSW; (try dsimp only at hSW); first | (go_simp; done) | (go_simp; with_reducible rfl))
          try simp only [Act.put, List.setIfInBounds_toArray, List.set_cons_zero, List.set_cons_succ]
          refine wpAnyH_take (i := 1) (oi := { dst := some 131, op := Op.move (Operand.tmp 12), type := 57, pos := "law.go:237", after := #[], guard := none }) (v := ?_) rfl (by kernel_rfl) (by kernel_rfl) (by kernel_rfl) (fun _ _ _ h => h) (Or.inl ⟨by rfl, ?_⟩) (by assumption) ?_
          rotate_left 1
          · (intro W hSW; (try dsimp only at hSW); first | (go_simp; done) | (go_simp; with_reducible rfl))
          try simp only [Act.put, List.setIfInBounds_toArray, List.set_cons_zero, List.set_cons_succ]
          refine wpAnyH_take (i := 2) (oi := { dst := some 132, op := Op.move (Operand.tmp 18), type := 3, pos := "law.go:237", after := #[], guard := none }) (v := ?_) rfl (by kernel_rfl) (by kernel_rfl) (by kernel_rfl) (fun _ _ _ h => h) (Or.inl ⟨by rfl, ?_⟩) (by assumption) ?_
          rotate_left 1
          · (intro W hSW; (try dsimp only at hSW); first | (go_simp; done) | (go_simp; with_reducible rfl))
          try simp only [Act.put, List.setIfInBounds_toArray, List.set_cons_zero, List.set_cons_succ]
          refine wpAnyH_take (i := 3) (oi := { dst := some 133, op := Op.indexAddr 57 (Operand.tmp 131) (Operand.tmp 132), type := 0, pos := "law.go:237", after := #[{ on := 1, ground := Ground.data }, { on := 2, ground := Ground.data }], guard := none }) (v := ?_) rfl (by kernel_rfl) (by kernel_rfl) (by kernel_rfl) (fun _ _ _ h => h) (Or.inl ⟨by rfl, ?_⟩) (by assumption) ?_
          rotate_left 1
          · (intro W hSW; (try dsimp only at hSW); first | (go_simp; done) | (go_simp; with_reducible rfl))
          try simp only [Act.put, List.setIfInBounds_toArray, List.set_cons_zero, List.set_cons_succ]
          refine wpAnyH_take (i := 4) (oi := { dst := some 134, op := Op.fieldAddr 74 (Operand.tmp 133) 1, type := 0, pos := "law.go:237", after := #[{ on := 3, ground := Ground.data }], guard := none }) (v := ?_) rfl (by kernel_rfl) (by kernel_rfl) (by kernel_rfl) (fun _ _ _ h => h) (Or.inl ⟨by rfl, ?_⟩) (by assumption) ?_
          rotate_left 1
          · (intro W hSW; (try dsimp only at hSW); first | (go_simp; done) | (go_simp; with_reducible rfl))
          try simp only [Act.put, List.setIfInBounds_toArray, List.set_cons_zero, List.set_cons_succ]
          refine wpAnyH_take (i := 5) (oi := { dst := some 135, op := Op.fieldAddr 53 (Operand.tmp 134) 1, type := 0, pos := "law.go:237", after := #[{ on := 4, ground := Ground.data }], guard := none }) (v := ?_) rfl (by kernel_rfl) (by kernel_rfl) (by kernel_rfl) (fun _ _ _ h => h) (Or.inl ⟨by rfl, ?_⟩) (by assumption) ?_
          rotate_left 1
          · (intro W hSW; (try dsimp only at hSW); first | (go_simp; done) | (go_simp; with_reducible rfl))
          try simp only [Act.put, List.setIfInBounds_toArray, List.set_cons_zero, List.set_cons_succ]
          refine wpAnyH_take (i := 6) (oi := { dst := some 136, op := Op.load 28 (Operand.tmp 135), type := 28, pos := "law.go:237", after := #[{ on := 5, ground := Ground.data }], guard := none }) (v := ?_) rfl (by kernel_rfl) (by kernel_rfl) (by kernel_rfl) (fun _ _ _ h => h) (Or.inl ⟨by rfl, ?_⟩) (by assumption) ?_
          rotate_left 1
          · (intro W hSW; (try dsimp only at hSW); first | (go_simp; done) | (go_simp; with_reducible rfl))
          try simp only [Act.put, List.setIfInBounds_toArray, List.set_cons_zero, List.set_cons_succ]
          refine wpAnyH_take (i := 7) (oi := { dst := some 137, op := Op.call { callee := Callee.builtin Builtin.len, args := #[Operand.tmp 136], argTypes := #[28] }, type := 3, pos := "law.go:237", after := #[{ on := 6, ground := Ground.data }], guard := none }) (v := ?_) rfl (by kernel_rfl) (by kernel_rfl) (by kernel_rfl) (fun _ _ _ h => h) (Or.inl ⟨by rfl, ?_⟩) (by assumption) ?_
          rotate_left 1
          · (intro W hSW; (try dsimp only at hSW); first | (go_simp; done) | (go_simp; with_reducible rfl))
          try simp only [Act.put, List.setIfInBounds_toArray, List.set_cons_zero, List.set_cons_succ]
          refine wpAnyH_take (i := 8) (oi := { dst := some 138, op := Op.binOp BinOp.add 3 (Operand.tmp 130) (Operand.tmp 137) 3, type := 3, pos := "law.go:237", after := #[{ on := 0, ground := Ground.data }, { on := 7, ground := Ground.data }], guard := none }) (v := ?_) rfl (by kernel_rfl) (by kernel_rfl) (by kernel_rfl) (fun _ _ _ h => h) (Or.inl ⟨by rfl, ?_⟩) (by assumption) ?_
          rotate_left 1
          · (intro W hSW; (try dsimp only at hSW); first | (go_simp; done) | (go_simp; with_reducible rfl))
          try simp only [Act.put, List.setIfInBounds_toArray, List.set_cons_zero, List.set_cons_succ]
          refine wpAnyH_take (i := 9) (oi := { dst := some 139, op := Op.move (Operand.tmp 12), type := 57, pos := "law.go:237", after := #[], guard := none }) (v := ?_) rfl (by kernel_rfl) (by kernel_rfl) (by kernel_rfl) (fun _ _ _ h => h) (Or.inl ⟨by rfl, ?_⟩) (by assumption) ?_
          rotate_left 1
          · (intro W hSW; (try dsimp only at hSW); first | (go_simp; done) | (go_simp; with_reducible rfl))
          try simp only [Act.put, List.setIfInBounds_toArray, List.set_cons_zero, List.set_cons_succ]
          refine wpAnyH_take (i := 10) (oi := { dst := some 140, op := Op.move (Operand.tmp 18), type := 3, pos := "law.go:237", after := #[], guard := none }) (v := ?_) rfl (by kernel_rfl) (by kernel_rfl) (by kernel_rfl) (fun _ _ _ h => h) (Or.inl ⟨by rfl, ?_⟩) (by assumption) ?_
          rotate_left 1
          · (intro W hSW; (try dsimp only at hSW); first | (go_simp; done) | (go_simp; with_reducible rfl))
          try simp only [Act.put, List.setIfInBounds_toArray, List.set_cons_zero, List.set_cons_succ]
          refine wpAnyH_take (i := 11) (oi := { dst := some 141, op := Op.indexAddr 57 (Operand.tmp 139) (Operand.tmp 140), type := 0, pos := "law.go:237", after := #[{ on := 9, ground := Ground.data }, { on := 10, ground := Ground.data }], guard := none }) (v := ?_) rfl (by kernel_rfl) (by kernel_rfl) (by kernel_rfl) (fun _ _ _ h => h) (Or.inl ⟨by rfl, ?_⟩) (by assumption) ?_
          rotate_left 1
          · (intro W hSW; (try dsimp only at hSW); first | (go_simp; done) | (go_simp; with_reducible rfl))
          try simp only [Act.put, List.setIfInBounds_toArray, List.set_cons_zero, List.set_cons_succ]
          refine wpAnyH_take (i := 12) (oi := { dst := some 142, op := Op.fieldAddr 74 (Operand.tmp 141) 0, type := 0, pos := "law.go:237", after := #[{ on := 11, ground := Ground.data }], guard := none }) (v := ?_) rfl (by kernel_rfl) (by kernel_rfl) (by kernel_rfl) (fun _ _ _ h => h) (Or.inl ⟨by rfl, ?_⟩) (by assumption) ?_
          rotate_left 1
          · (intro W hSW; (try dsimp only at hSW); first | (go_simp; done) | (go_simp; with_reducible rfl))
          try simp only [Act.put, List.setIfInBounds_toArray, List.set_cons_zero, List.set_cons_succ]
          refine wpAnyH_take (i := 13) (oi := { dst := some 143, op := Op.fieldAddr 53 (Operand.tmp 142) 1, type := 0, pos := "law.go:237", after := #[{ on := 12, ground := Ground.data }], guard := none }) (v := ?_) rfl (by kernel_rfl) (by kernel_rfl) (by kernel_rfl) (fun _ _ _ h => h) (Or.inl ⟨by rfl, ?_⟩) (by assumption) ?_
          rotate_left 1
          · (intro W hSW; (try dsimp only at hSW); first | (go_simp; done) | (go_simp; with_reducible rfl))
          try simp only [Act.put, List.setIfInBounds_toArray, List.set_cons_zero, List.set_cons_succ]
          refine wpAnyH_take (i := 14) (oi := { dst := some 144, op := Op.load 28 (Operand.tmp 143), type := 28, pos := "law.go:237", after := #[{ on := 13, ground := Ground.data }], guard := none }) (v := ?_) rfl (by kernel_rfl) (by kernel_rfl) (by kernel_rfl) (fun _ _ _ h => h) (Or.inl ⟨by rfl, ?_⟩) (by assumption) ?_
          rotate_left 1
          · (intro W hSW; (try dsimp only at hSW); first | (go_simp; done) | (go_simp; with_reducible rfl))
          try simp only [Act.put, List.setIfInBounds_toArray, List.set_cons_zero, List.set_cons_succ]
          refine wpAnyH_take (i := 15) (oi := { dst := some 145, op := Op.call { callee := Callee.builtin Builtin.len, args := #[Operand.tmp 144], argTypes := #[28] }, type := 3, pos := "law.go:237", after := #[{ on := 14, ground := Ground.data }], guard := none }) (v := ?_) rfl (by kernel_rfl) (by kernel_rfl) (by kernel_rfl) (fun _ _ _ h => h) (Or.inl ⟨by rfl, ?_⟩) (by assumption) ?_
          rotate_left 1
          · (intro W hSW; (try dsimp only at hSW); first | (go_simp; done) | (go_simp; with_reducible rfl))
          try simp only [Act.put, List.setIfInBounds_toArray, List.set_cons_zero, List.set_cons_succ]
          refine wpAnyH_take (i := 16) (oi := { dst := some 146, op := Op.binOp BinOp.sub 3 (Operand.tmp 138) (Operand.tmp 145) 3, type := 3, pos := "law.go:237", after := #[{ on := 8, ground := Ground.data }, { on := 15, ground := Ground.data }], guard := none }) (v := ?_) rfl (by kernel_rfl) (by kernel_rfl) (by kernel_rfl) (fun _ _ _ h => h) (Or.inl ⟨by rfl, ?_⟩) (by assumption) ?_
          rotate_left 1
          · (intro W hSW; (try dsimp only at hSW); first | (go_simp; done) | (go_simp; with_reducible rfl))
          try simp only [Act.put, List.setIfInBounds_toArray, List.set_cons_zero, List.set_cons_succ]
          refine wpAnyH_take (i := 17) (oi := { dst := some 17, op := Op.assign (Operand.tmp 146), type := 3, pos := "law.go:237", after := #[{ on := 16, ground := Ground.data }, { on := 0, ground := Ground.phase }, { on := 1, ground := Ground.phase }, { on := 2, ground := Ground.phase }, { on := 3, ground := Ground.phase }, { on := 4, ground := Ground.phase }, { on := 5, ground := Ground.phase }, { on := 6, ground := Ground.phase }, { on := 7, ground := Ground.phase }, { on := 8, ground := Ground.phase }, { on := 9, ground := Ground.phase }, { on := 10, ground := Ground.phase }, { on := 11, ground := Ground.phase }, { on := 12, ground := Ground.phase }, { on := 13, ground := Ground.phase }, { on := 14, ground := Ground.phase }, { on := 15, ground := Ground.phase }, { on := 16, ground := Ground.phase }], guard := none }) (v := ?_) rfl (by kernel_rfl) (by kernel_rfl) (by kernel_rfl) (fun _ _ _ h => h) (Or.inl ⟨by rfl, ?_⟩) (by assumption) ?_
          rotate_left 1
          · (intro W hSW; (try dsimp only at hSW); first | (go_simp; done) | (go_simp; with_reducible rfl))
          try simp only [Act.put, List.setIfInBounds_toArray, List.set_cons_zero, List.set_cons_succ]
          refine wpAnyH_done (by kernel_rfl) ?_ _
          have hEND := hdr
          clear hHeld
          go_wp2_with fail
          go_roundg (f - (i + 1))
          case measure => rw [HI.out.1]; omega
          case rel => exact ⟨i + 1, by rw [HU.out.1]; exact congrArg (Value.int IntKind.i64) (by have := HU.out.2; omega), rfl, rfl, by omega, HI.out.2.trans hEND⟩
        · have hie : i = f := by omega
          subst hie
          have hinB : decide (i < i) = false := by simp
          replace HI := Lib.hid HI.out.2
          rw [HM.out]
          go_wp2_with fail
          refine (insideG HMA.out (HPK0.out.1.grown HG.out) HA.out.2.2 hn6 HA.out.2.1 HA.out.1 HPK0.out.2.1 HPK0.out.2.2).mono ?_
          rintro e z1 ⟨xa, xc, rfl, hsp, gh⟩
          replace HMA := Lib.hid (HMA.out.grown gh)
          replace HPR := Lib.hid (HPR.out.grown gh)
          replace HG := Lib.hid (HG.out.trans gh)
          clear gh
          have HMX := Lib.hid hsp
          clear hsp
          go_wp2_with fail
          refine (insideG HMA.out (HPK1.out.1.grown HG.out) HA.out.2.2 hn6 HA.out.2.1 HA.out.1 HPK1.out.2.1 HPK1.out.2.2).mono ?_
          rintro e z2 ⟨ya, yc, rfl, hsp, gh⟩
          replace HMA := Lib.hid (HMA.out.grown gh)
          replace HPR := Lib.hid (HPR.out.grown gh)
          replace HMX := Lib.hid (HMX.out.grown gh)
          replace HG := Lib.hid (HG.out.trans gh)
          clear gh
          have HMY := Lib.hid hsp
          clear hsp
          clear HB HI
          go_wp2_with fail
          go_loopg [21, 22, 23, 24] k (fun g s21 s22 s23 s24 wr => ∃ j : Nat, s21 = .bool (smTo pk0 pk1 j) ∧ s22 = .int .i64 (j : Int) ∧ g = k - j ∧ j ≤ k ∧ z2.grownBy wr none)
          case atStart => exact ⟨0, rfl, rfl, rfl, Nat.zero_le _, grown_refl _ _⟩
          case round =>
            obtain ⟨j, rfl, rfl, hgi, hj, hgr⟩ := hrel
            replace HMA := Lib.hid (HMA.out.grown hgr)
            replace HPR := Lib.hid (HPR.out.grown hgr)
            replace HMX := Lib.hid (HMX.out.grown hgr)
            replace HMY := Lib.hid (HMY.out.grown hgr)
            replace HG := Lib.hid (HG.out.trans hgr)
            have HI := Lib.hid (And.intro hgi hgr); clear hgi hgr
            by_cases hin : j < k
            · have hinB : decide (j < k) = true := by simpa using hin
              have hinI : (j : Int) < (k : Int) := by omega
              have HST := Lib.hid (smTo_succ pk0 pk1 j)
              obtain ⟨S, hS⟩ : ∃ S, smTo pk0 pk1 j = S := ⟨_, rfl⟩
              rw [hS] at HST ⊢
              clear hS
              have b0 := boolAt (HPK0.out.1.grown HG.out) j
              have b1 := boolAt (HPK1.out.1.grown HG.out) j
              rw [HPK0.out.2.2] at b0
              rw [HPK1.out.2.2] at b1
              obtain ⟨B0, hB0⟩ : ∃ S, pk0.getD j false = S := ⟨_, rfl⟩
              obtain ⟨B1, hB1⟩ : ∃ S, pk1.getD j false = S := ⟨_, rfl⟩
              rw [hB0] at b0 HST
              rw [hB1] at b1 HST
              clear hB0 hB1
              cases S
              · rcases b0 with ⟨h0, tb0, to0, hp0, q0⟩ | ⟨h0, q0⟩
                · subst hp0
                  have h0B : decide (j < pn0) = true := by simpa using h0
                  have h0I : (j : Int) < (pn0 : Int) := by omega
                  cases B0
                  · rcases b1 with ⟨h1, tb1, to1, hp1, q1⟩ | ⟨h1, q1⟩
                    · subst hp1
                      have h1B : decide (j < pn1) = true := by simpa using h1
                      have h1I : (j : Int) < (pn1 : Int) := by omega
                      cases B1
                      · go_wp2_with fail
                        go_roundg (k - (j + 1))
                        case measure => rw [HI.out.1]; omega
                        case rel => exact ⟨j + 1, by rw [HST.out]; rfl, rfl, rfl, by omega, HI.out.2⟩
                      · go_wp2_with fail
                        go_roundg (k - (j + 1))
                        case measure => rw [HI.out.1]; omega
                        case rel => exact ⟨j + 1, by rw [HST.out]; rfl, rfl, rfl, by omega, HI.out.2⟩
                    · subst q1
                      have h1B : decide (j < pn1) = false := by simpa using h1
                      go_wp2_with fail
                      go_roundg (k - (j + 1))
                      case measure => rw [HI.out.1]; omega
                      case rel => exact ⟨j + 1, by rw [HST.out]; rfl, rfl, rfl, by omega, HI.out.2⟩
                  · rcases b1 with ⟨h1, tb1, to1, hp1, q1⟩ | ⟨h1, q1⟩
                    · subst hp1
                      have h1B : decide (j < pn1) = true := by simpa using h1
                      have h1I : (j : Int) < (pn1 : Int) := by omega
                      cases B1
                      · go_wp2_with fail
                        go_roundg (k - (j + 1))
                        case measure => rw [HI.out.1]; omega
                        case rel => exact ⟨j + 1, by rw [HST.out]; rfl, rfl, rfl, by omega, HI.out.2⟩
                      · go_wp2_with fail
                        go_roundg (k - (j + 1))
                        case measure => rw [HI.out.1]; omega
                        case rel => exact ⟨j + 1, by rw [HST.out]; rfl, rfl, rfl, by omega, HI.out.2⟩
                    · subst q1
                      have h1B : decide (j < pn1) = false := by simpa using h1
                      go_wp2_with fail
                      go_roundg (k - (j + 1))
                      case measure => rw [HI.out.1]; omega
                      case rel => exact ⟨j + 1, by rw [HST.out]; rfl, rfl, rfl, by omega, HI.out.2⟩
                · subst q0
                  have h0B : decide (j < pn0) = false := by simpa using h0
                  rcases b1 with ⟨h1, tb1, to1, hp1, q1⟩ | ⟨h1, q1⟩
                  · subst hp1
                    have h1B : decide (j < pn1) = true := by simpa using h1
                    have h1I : (j : Int) < (pn1 : Int) := by omega
                    cases B1
                    · go_wp2_with fail
                      go_roundg (k - (j + 1))
                      case measure => rw [HI.out.1]; omega
                      case rel => exact ⟨j + 1, by rw [HST.out]; rfl, rfl, rfl, by omega, HI.out.2⟩
                    · go_wp2_with fail
                      go_roundg (k - (j + 1))
                      case measure => rw [HI.out.1]; omega
                      case rel => exact ⟨j + 1, by rw [HST.out]; rfl, rfl, rfl, by omega, HI.out.2⟩
                  · subst q1
                    have h1B : decide (j < pn1) = false := by simpa using h1
                    go_wp2_with fail
                    go_roundg (k - (j + 1))
                    case measure => rw [HI.out.1]; omega
                    case rel => exact ⟨j + 1, by rw [HST.out]; rfl, rfl, rfl, by omega, HI.out.2⟩
              · rcases b0 with ⟨h0, tb0, to0, hp0, q0⟩ | ⟨h0, q0⟩
                · subst hp0
                  have h0B : decide (j < pn0) = true := by simpa using h0
                  have h0I : (j : Int) < (pn0 : Int) := by omega
                  cases B0
                  · rcases b1 with ⟨h1, tb1, to1, hp1, q1⟩ | ⟨h1, q1⟩
                    · subst hp1
                      have h1B : decide (j < pn1) = true := by simpa using h1
                      have h1I : (j : Int) < (pn1 : Int) := by omega
                      cases B1
                      · go_wp2_with fail
                        go_roundg (k - (j + 1))
                        case measure => rw [HI.out.1]; omega
                        case rel => exact ⟨j + 1, by rw [HST.out]; rfl, rfl, rfl, by omega, HI.out.2⟩
                      · go_wp2_with fail
                        go_roundg (k - (j + 1))
                        case measure => rw [HI.out.1]; omega
                        case rel => exact ⟨j + 1, by rw [HST.out]; rfl, rfl, rfl, by omega, HI.out.2⟩
                    · subst q1
                      have h1B : decide (j < pn1) = false := by simpa using h1
                      go_wp2_with fail
                      go_roundg (k - (j + 1))
                      case measure => rw [HI.out.1]; omega
                      case rel => exact ⟨j + 1, by rw [HST.out]; rfl, rfl, rfl, by omega, HI.out.2⟩
                  · rcases b1 with ⟨h1, tb1, to1, hp1, q1⟩ | ⟨h1, q1⟩
                    · subst hp1
                      have h1B : decide (j < pn1) = true := by simpa using h1
                      have h1I : (j : Int) < (pn1 : Int) := by omega
                      cases B1
                      · go_wp2_with fail
                        go_roundg (k - (j + 1))
                        case measure => rw [HI.out.1]; omega
                        case rel => exact ⟨j + 1, by rw [HST.out]; rfl, rfl, rfl, by omega, HI.out.2⟩
                      · go_wp2_with fail
                        go_roundg (k - (j + 1))
                        case measure => rw [HI.out.1]; omega
                        case rel => exact ⟨j + 1, by rw [HST.out]; rfl, rfl, rfl, by omega, HI.out.2⟩
                    · subst q1
                      have h1B : decide (j < pn1) = false := by simpa using h1
                      go_wp2_with fail
                      go_roundg (k - (j + 1))
                      case measure => rw [HI.out.1]; omega
                      case rel => exact ⟨j + 1, by rw [HST.out]; rfl, rfl, rfl, by omega, HI.out.2⟩
                · subst q0
                  have h0B : decide (j < pn0) = false := by simpa using h0
                  rcases b1 with ⟨h1, tb1, to1, hp1, q1⟩ | ⟨h1, q1⟩
                  · subst hp1
                    have h1B : decide (j < pn1) = true := by simpa using h1
                    have h1I : (j : Int) < (pn1 : Int) := by omega
                    cases B1
                    · go_wp2_with fail
                      go_roundg (k - (j + 1))
                      case measure => rw [HI.out.1]; omega
                      case rel => exact ⟨j + 1, by rw [HST.out]; rfl, rfl, rfl, by omega, HI.out.2⟩
                    · go_wp2_with fail
                      go_roundg (k - (j + 1))
                      case measure => rw [HI.out.1]; omega
                      case rel => exact ⟨j + 1, by rw [HST.out]; rfl, rfl, rfl, by omega, HI.out.2⟩
                  · subst q1
                    have h1B : decide (j < pn1) = false := by simpa using h1
                    go_wp2_with fail
                    go_roundg (k - (j + 1))
                    case measure => rw [HI.out.1]; omega
                    case rel => exact ⟨j + 1, by rw [HST.out]; rfl, rfl, rfl, by omega, HI.out.2⟩
            · have hje : j = k := by omega
              subst hje
              have hinB : decide (j < j) = false := by simp
              replace HI := Lib.hid HI.out.2
              go_wp2_with fail
              clear hinB
              obtain ⟨SM, hSM⟩ : ∃ S, smTo pk0 pk1 j = S := ⟨_, rfl⟩
              rw [hSM]
              have HSM := Lib.hid hSM
              clear hSM HI
              obtain ⟨w7, rfl⟩ : ∃ z, z = wr := ⟨_, rfl⟩
              go_loopg [25, 26] i (fun g s25 s26 wr => ∃ l : Nat, s25 = .bool (eqTo (insS pk0 A) (insS pk1 A) l) ∧ s26 = .int .i64 (l : Int) ∧ g = i - l ∧ l ≤ i ∧ w7.grownBy wr none)
              case atStart => exact ⟨0, congrArg Value.bool (by simp [eqTo]), rfl, rfl, Nat.zero_le _, grown_refl _ _⟩
              case round =>
                obtain ⟨l, rfl, rfl, hgi, hl, hgr⟩ := hrel
                replace HMA := Lib.hid (HMA.out.grown hgr)
                replace HMX := Lib.hid (HMX.out.grown hgr)
                replace HMY := Lib.hid (HMY.out.grown hgr)
                replace HG := Lib.hid (HG.out.trans hgr)
                have HI := Lib.hid (And.intro hgi hgr); clear hgi hgr
                by_cases hin : l < i
                · have hinB : decide (l < i) = true := by simpa using hin
                  have hinI : (l : Int) < (i : Int) := by omega
                  obtain ⟨r0, hr0⟩ : ∃ r, (insS pk0 A)[l]? = some r := ⟨_, List.getElem?_eq_getElem (by rw [insS_len, HA.out.2.2]; exact hin)⟩
                  obtain ⟨r1, hr1⟩ : ∃ r, (insS pk1 A)[l]? = some r := ⟨_, List.getElem?_eq_getElem (by rw [insS_len, HA.out.2.2]; exact hin)⟩
                  obtain ⟨b, o, rfl, c0, ra, rc, c1, ri⟩ := HMX.out.2 l r0 hr0
                  obtain ⟨b', o', rfl, d0, ra', rc', d1, ri'⟩ := HMY.out.2 l r1 hr1
                  have HST := Lib.hid (eqTo_succ hr0 hr1)
                  have hl0 := insS_rows HA.out.2.1 r0 (List.mem_of_getElem? hr0)
                  have HC := Lib.hid (fun (U : World) (g : wr.grownBy U none) => rRelEqual_calls r0 r1 ra ra' rc rc' U (ri.grown g) (ri'.grown g) (by omega))
                  obtain ⟨E, hE⟩ : ∃ E, eqTo (insS pk0 A) (insS pk1 A) l = E := ⟨_, rfl⟩
                  rw [hE] at HST ⊢
                  obtain ⟨D, hD⟩ : ∃ D, decide (r0 = r1) = D := ⟨_, rfl⟩
                  rw [hD] at HST HC
                  obtain ⟨K0, hK0⟩ : ∃ D, r0.1 = D := ⟨_, rfl⟩
                  obtain ⟨K1, hK1⟩ : ∃ D, r1.1 = D := ⟨_, rfl⟩
                  obtain ⟨p0, hp0⟩ : ∃ D, r0.2.length = D := ⟨_, rfl⟩
                  obtain ⟨p1, hp1⟩ : ∃ D, r1.2.length = D := ⟨_, rfl⟩
                  rw [hK0, hK1, hp0, hp1] at HC
                  rw [hK0] at c0
                  rw [hK1] at d0
                  rw [hp0] at c1
                  rw [hp1] at d1
                  clear hE hD hK0 hK1 hp0 hp1 hr0 hr1 ri ri' hl0
                  go_wp2_with fail
                  cases E
                  · have HS := Lib.hid (fun (Wh : World) (hWh : wr.grownBy Wh none) => (⟨hWh, hWh.cell c0 (by simp), hWh.cell c1 (by simp), hWh.cell d0 (by simp), hWh.cell d1 (by simp)⟩ : (fun Wh : World => wr.grownBy Wh none ∧ Wh.cell? ⟨b, o + l * 2, none⟩ = some (.int .i64 K0) ∧ Wh.cell? ⟨b, o + l * 2 + 1, none⟩ = some (.slice ra p0 rc) ∧ Wh.cell? ⟨b', o' + l * 2, none⟩ = some (.int .i64 K1) ∧ Wh.cell? ⟨b', o' + l * 2 + 1, none⟩ = some (.slice ra' p1 rc')) Wh))
                    have hdr : wr.grownBy wr.drew none := ⟨rfl, rfl, rfl, Nat.le_refl _, fun _ _ _ => rfl⟩
                    refine wp_region_held_drew (S := (fun Wh : World => wr.grownBy Wh none ∧ Wh.cell? ⟨b, o + l * 2, none⟩ = some (.int .i64 K0) ∧ Wh.cell? ⟨b, o + l * 2 + 1, none⟩ = some (.slice ra p0 rc) ∧ Wh.cell? ⟨b', o' + l * 2, none⟩ = some (.int .i64 K1) ∧ Wh.cell? ⟨b', o' + l * 2 + 1, none⟩ = some (.slice ra' p1 rc'))) (by kernel_rfl) (HS.out _ hdr) (fun hHeld => ?_)
                    refine wpAnyH_take (i := 0) (oi := { dst := some 191, op := Op.move (Operand.tmp 25), type := 4, pos := "law.go:249", after := #[], guard := none }) (v := ?_) rfl (by kernel_rfl) (by kernel_rfl) (by kernel_rfl) (fun _ _ _ h => h) (Or.inl ⟨by rfl, ?_⟩) (by assumption) ?_
                    rotate_left 1
                    · (intro W hSW; (try dsimp only at hSW); first | (go_simp; done) | (go_simp; with_reducible rfl))
                    try simp only [Act.put, List.setIfInBounds_toArray, List.set_cons_zero, List.set_cons_succ]
                    refine wpAnyH_take (i := 1) (oi := { dst := some 192, op := Op.move (Operand.tmp 191), type := 4, pos := "law.go:249", after := #[{ on := 0, ground := Ground.data }], guard := none }) (v := ?_) rfl (by kernel_rfl) (by kernel_rfl) (by kernel_rfl) (fun _ _ _ h => h) (Or.inl ⟨by rfl, ?_⟩) (by assumption) ?_
                    rotate_left 1
                    · (intro W hSW; (try dsimp only at hSW); first | (go_simp; done) | (go_simp; with_reducible rfl))
                    try simp only [Act.put, List.setIfInBounds_toArray, List.set_cons_zero, List.set_cons_succ]
                    refine wpAnyH_take (i := 2) (oi := { dst := some 193, op := Op.move (Operand.tmp 19), type := 40, pos := "law.go:249", after := #[{ on := 1, ground := Ground.guard }], guard := some (1, true) }) (v := undef) rfl (by kernel_rfl) (by kernel_rfl) (by kernel_rfl) (fun _ _ _ h => h) (Or.inr ⟨by rfl, rfl⟩) (by assumption) ?_
                    try simp only [Act.put, List.setIfInBounds_toArray, List.set_cons_zero, List.set_cons_succ]
                    refine wpAnyH_take (i := 3) (oi := { dst := some 194, op := Op.move (Operand.tmp 26), type := 3, pos := "law.go:249", after := #[{ on := 1, ground := Ground.guard }], guard := some (1, true) }) (v := undef) rfl (by kernel_rfl) (by kernel_rfl) (by kernel_rfl) (fun _ _ _ h => h) (Or.inr ⟨by rfl, rfl⟩) (by assumption) ?_
                    try simp only [Act.put, List.setIfInBounds_toArray, List.set_cons_zero, List.set_cons_succ]
                    refine wpAnyH_take (i := 4) (oi := { dst := some 195, op := Op.indexAddr 40 (Operand.tmp 193) (Operand.tmp 194), type := 0, pos := "law.go:249", after := #[{ on := 2, ground := Ground.data }, { on := 3, ground := Ground.data }, { on := 1, ground := Ground.guard }], guard := some (1, true) }) (v := undef) rfl (by kernel_rfl) (by kernel_rfl) (by kernel_rfl) (fun _ _ _ h => h) (Or.inr ⟨by rfl, rfl⟩) (by assumption) ?_
                    try simp only [Act.put, List.setIfInBounds_toArray, List.set_cons_zero, List.set_cons_succ]
                    refine wpAnyH_take (i := 5) (oi := { dst := some 196, op := Op.load 53 (Operand.tmp 195), type := 53, pos := "law.go:249", after := #[{ on := 4, ground := Ground.data }, { on := 1, ground := Ground.guard }], guard := some (1, true) }) (v := undef) rfl (by kernel_rfl) (by kernel_rfl) (by kernel_rfl) (fun _ _ _ h => h) (Or.inr ⟨by rfl, rfl⟩) (by assumption) ?_
                    try simp only [Act.put, List.setIfInBounds_toArray, List.set_cons_zero, List.set_cons_succ]
                    refine wpAnyH_take (i := 6) (oi := { dst := some 197, op := Op.move (Operand.tmp 20), type := 40, pos := "law.go:249", after := #[{ on := 1, ground := Ground.guard }], guard := some (1, true) }) (v := undef) rfl (by kernel_rfl) (by kernel_rfl) (by kernel_rfl) (fun _ _ _ h => h) (Or.inr ⟨by rfl, rfl⟩) (by assumption) ?_
                    try simp only [Act.put, List.setIfInBounds_toArray, List.set_cons_zero, List.set_cons_succ]
                    refine wpAnyH_take (i := 7) (oi := { dst := some 198, op := Op.move (Operand.tmp 26), type := 3, pos := "law.go:249", after := #[{ on := 1, ground := Ground.guard }], guard := some (1, true) }) (v := undef) rfl (by kernel_rfl) (by kernel_rfl) (by kernel_rfl) (fun _ _ _ h => h) (Or.inr ⟨by rfl, rfl⟩) (by assumption) ?_
                    try simp only [Act.put, List.setIfInBounds_toArray, List.set_cons_zero, List.set_cons_succ]
                    refine wpAnyH_take (i := 8) (oi := { dst := some 199, op := Op.indexAddr 40 (Operand.tmp 197) (Operand.tmp 198), type := 0, pos := "law.go:249", after := #[{ on := 6, ground := Ground.data }, { on := 7, ground := Ground.data }, { on := 1, ground := Ground.guard }], guard := some (1, true) }) (v := undef) rfl (by kernel_rfl) (by kernel_rfl) (by kernel_rfl) (fun _ _ _ h => h) (Or.inr ⟨by rfl, rfl⟩) (by assumption) ?_
                    try simp only [Act.put, List.setIfInBounds_toArray, List.set_cons_zero, List.set_cons_succ]
                    refine wpAnyH_take (i := 9) (oi := { dst := some 200, op := Op.load 53 (Operand.tmp 199), type := 53, pos := "law.go:249", after := #[{ on := 8, ground := Ground.data }, { on := 1, ground := Ground.guard }], guard := some (1, true) }) (v := undef) rfl (by kernel_rfl) (by kernel_rfl) (by kernel_rfl) (fun _ _ _ h => h) (Or.inr ⟨by rfl, rfl⟩) (by assumption) ?_
                    try simp only [Act.put, List.setIfInBounds_toArray, List.set_cons_zero, List.set_cons_succ]
                    refine wpAnyH_take (i := 10) (oi := { dst := some 201, op := Op.call { callee := Callee.value (Operand.func 59), args := #[Operand.tmp 196, Operand.tmp 200], argTypes := #[53, 53] }, type := 4, pos := "law.go:249", after := #[{ on := 5, ground := Ground.data }, { on := 9, ground := Ground.data }, { on := 1, ground := Ground.chain }, { on := 1, ground := Ground.guard }], guard := some (1, true) }) (v := undef) rfl (by kernel_rfl) (by kernel_rfl) (by kernel_rfl) (fun _ _ _ h => h) (Or.inr ⟨by rfl, rfl⟩) (by assumption) ?_
                    try simp only [Act.put, List.setIfInBounds_toArray, List.set_cons_zero, List.set_cons_succ]
                    refine wpAnyH_take (i := 11) (oi := { dst := some 202, op := Op.pick (Operand.tmp 192) (Operand.tmp 201) (Operand.const (Value.bool false)), type := 4, pos := "law.go:249", after := #[{ on := 1, ground := Ground.data }, { on := 10, ground := Ground.data }], guard := none }) (v := ?_) rfl (by kernel_rfl) (by kernel_rfl) (by kernel_rfl) (fun _ _ _ h => h) (Or.inl ⟨by rfl, ?_⟩) (by assumption) ?_
                    rotate_left 1
                    · (intro W hSW; (try dsimp only at hSW); first | (go_simp; done) | (go_simp; with_reducible rfl))
                    try simp only [Act.put, List.setIfInBounds_toArray, List.set_cons_zero, List.set_cons_succ]
                    refine wpAnyH_take (i := 12) (oi := { dst := some 25, op := Op.assign (Operand.tmp 202), type := 4, pos := "law.go:249", after := #[{ on := 11, ground := Ground.data }, { on := 10, ground := Ground.chain }, { on := 0, ground := Ground.phase }, { on := 1, ground := Ground.phase }, { on := 2, ground := Ground.phase }, { on := 3, ground := Ground.phase }, { on := 4, ground := Ground.phase }, { on := 5, ground := Ground.phase }, { on := 6, ground := Ground.phase }, { on := 7, ground := Ground.phase }, { on := 8, ground := Ground.phase }, { on := 9, ground := Ground.phase }, { on := 10, ground := Ground.phase }, { on := 11, ground := Ground.phase }], guard := none }) (v := ?_) rfl (by kernel_rfl) (by kernel_rfl) (by kernel_rfl) (fun _ _ _ h => h) (Or.inl ⟨by rfl, ?_⟩) (by assumption) ?_
                    rotate_left 1
                    · (intro W hSW; (try dsimp only at hSW); first | (go_simp; done) | (go_simp; with_reducible rfl))
                    try simp only [Act.put, List.setIfInBounds_toArray, List.set_cons_zero, List.set_cons_succ]
                    refine wpAnyH_done (by kernel_rfl) ?_ _
                    have hEND := hdr
                    clear hHeld
                    go_wp2_with fail
                    go_roundg (i - (l + 1))
                    case measure => rw [HI.out.1]; omega
                    case rel => exact ⟨l + 1, by rw [HST.out]; rfl, rfl, rfl, by omega, HI.out.2.trans hEND⟩
                  · have HS := Lib.hid (fun (Wh : World) (hWh : wr.grownBy Wh none) => (⟨hWh, hWh.cell c0 (by simp), hWh.cell c1 (by simp), hWh.cell d0 (by simp), hWh.cell d1 (by simp)⟩ : (fun Wh : World => wr.grownBy Wh none ∧ Wh.cell? ⟨b, o + l * 2, none⟩ = some (.int .i64 K0) ∧ Wh.cell? ⟨b, o + l * 2 + 1, none⟩ = some (.slice ra p0 rc) ∧ Wh.cell? ⟨b', o' + l * 2, none⟩ = some (.int .i64 K1) ∧ Wh.cell? ⟨b', o' + l * 2 + 1, none⟩ = some (.slice ra' p1 rc')) Wh))
                    have hdr : wr.grownBy wr.drew none := ⟨rfl, rfl, rfl, Nat.le_refl _, fun _ _ _ => rfl⟩
                    refine wp_region_held_drew (S := (fun Wh : World => wr.grownBy Wh none ∧ Wh.cell? ⟨b, o + l * 2, none⟩ = some (.int .i64 K0) ∧ Wh.cell? ⟨b, o + l * 2 + 1, none⟩ = some (.slice ra p0 rc) ∧ Wh.cell? ⟨b', o' + l * 2, none⟩ = some (.int .i64 K1) ∧ Wh.cell? ⟨b', o' + l * 2 + 1, none⟩ = some (.slice ra' p1 rc'))) (by kernel_rfl) (HS.out _ hdr) (fun hHeld => ?_)
                    refine wpAnyH_take (i := 0) (oi := { dst := some 191, op := Op.move (Operand.tmp 25), type := 4, pos := "law.go:249", after := #[], guard := none }) (v := ?_) rfl (by kernel_rfl) (by kernel_rfl) (by kernel_rfl) (fun _ _ _ h => h) (Or.inl ⟨by rfl, ?_⟩) (by assumption) ?_
                    rotate_left 1
                    · (intro W hSW; (try dsimp only at hSW); first | (go_simp; done) | (go_simp; with_reducible rfl))
                    try simp only [Act.put, List.setIfInBounds_toArray, List.set_cons_zero, List.set_cons_succ]
                    refine wpAnyH_take (i := 1) (oi := { dst := some 192, op := Op.move (Operand.tmp 191), type := 4, pos := "law.go:249", after := #[{ on := 0, ground := Ground.data }], guard := none }) (v := ?_) rfl (by kernel_rfl) (by kernel_rfl) (by kernel_rfl) (fun _ _ _ h => h) (Or.inl ⟨by rfl, ?_⟩) (by assumption) ?_
                    rotate_left 1
                    · (intro W hSW; (try dsimp only at hSW); first | (go_simp; done) | (go_simp; with_reducible rfl))
                    try simp only [Act.put, List.setIfInBounds_toArray, List.set_cons_zero, List.set_cons_succ]
                    refine wpAnyH_take (i := 2) (oi := { dst := some 193, op := Op.move (Operand.tmp 19), type := 40, pos := "law.go:249", after := #[{ on := 1, ground := Ground.guard }], guard := some (1, true) }) (v := ?_) rfl (by kernel_rfl) (by kernel_rfl) (by kernel_rfl) (fun _ _ _ h => h) (Or.inl ⟨by rfl, ?_⟩) (by assumption) ?_
                    rotate_left 1
                    · (intro W hSW; (try dsimp only at hSW); first | (go_simp; done) | (go_simp; with_reducible rfl))
                    try simp only [Act.put, List.setIfInBounds_toArray, List.set_cons_zero, List.set_cons_succ]
                    refine wpAnyH_take (i := 3) (oi := { dst := some 194, op := Op.move (Operand.tmp 26), type := 3, pos := "law.go:249", after := #[{ on := 1, ground := Ground.guard }], guard := some (1, true) }) (v := ?_) rfl (by kernel_rfl) (by kernel_rfl) (by kernel_rfl) (fun _ _ _ h => h) (Or.inl ⟨by rfl, ?_⟩) (by assumption) ?_
                    rotate_left 1
                    · (intro W hSW; (try dsimp only at hSW); first | (go_simp; done) | (go_simp; with_reducible rfl))
                    try simp only [Act.put, List.setIfInBounds_toArray, List.set_cons_zero, List.set_cons_succ]
                    refine wpAnyH_take (i := 4) (oi := { dst := some 195, op := Op.indexAddr 40 (Operand.tmp 193) (Operand.tmp 194), type := 0, pos := "law.go:249", after := #[{ on := 2, ground := Ground.data }, { on := 3, ground := Ground.data }, { on := 1, ground := Ground.guard }], guard := some (1, true) }) (v := ?_) rfl (by kernel_rfl) (by kernel_rfl) (by kernel_rfl) (fun _ _ _ h => h) (Or.inl ⟨by rfl, ?_⟩) (by assumption) ?_
                    rotate_left 1
                    · (intro W hSW; (try dsimp only at hSW); first | (go_simp; done) | (go_simp; with_reducible rfl))
                    try simp only [Act.put, List.setIfInBounds_toArray, List.set_cons_zero, List.set_cons_succ]
                    refine wpAnyH_take (i := 5) (oi := { dst := some 196, op := Op.load 53 (Operand.tmp 195), type := 53, pos := "law.go:249", after := #[{ on := 4, ground := Ground.data }, { on := 1, ground := Ground.guard }], guard := some (1, true) }) (v := ?_) rfl (by kernel_rfl) (by kernel_rfl) (by kernel_rfl) (fun _ _ _ h => h) (Or.inl ⟨by rfl, ?_⟩) (by assumption) ?_
                    rotate_left 1
                    · (intro W hSW; (try dsimp only at hSW); first | (go_simp; done) | (go_simp; with_reducible rfl))
                    try simp only [Act.put, List.setIfInBounds_toArray, List.set_cons_zero, List.set_cons_succ]
                    refine wpAnyH_take (i := 6) (oi := { dst := some 197, op := Op.move (Operand.tmp 20), type := 40, pos := "law.go:249", after := #[{ on := 1, ground := Ground.guard }], guard := some (1, true) }) (v := ?_) rfl (by kernel_rfl) (by kernel_rfl) (by kernel_rfl) (fun _ _ _ h => h) (Or.inl ⟨by rfl, ?_⟩) (by assumption) ?_
                    rotate_left 1
                    · (intro W hSW; (try dsimp only at hSW); first | (go_simp; done) | (go_simp; with_reducible rfl))
                    try simp only [Act.put, List.setIfInBounds_toArray, List.set_cons_zero, List.set_cons_succ]
                    refine wpAnyH_take (i := 7) (oi := { dst := some 198, op := Op.move (Operand.tmp 26), type := 3, pos := "law.go:249", after := #[{ on := 1, ground := Ground.guard }], guard := some (1, true) }) (v := ?_) rfl (by kernel_rfl) (by kernel_rfl) (by kernel_rfl) (fun _ _ _ h => h) (Or.inl ⟨by rfl, ?_⟩) (by assumption) ?_
                    rotate_left 1
                    · (intro W hSW; (try dsimp only at hSW); first | (go_simp; done) | (go_simp; with_reducible rfl))
                    try simp only [Act.put, List.setIfInBounds_toArray, List.set_cons_zero, List.set_cons_succ]
                    refine wpAnyH_take (i := 8) (oi := { dst := some 199, op := Op.indexAddr 40 (Operand.tmp 197) (Operand.tmp 198), type := 0, pos := "law.go:249", after := #[{ on := 6, ground := Ground.data }, { on := 7, ground := Ground.data }, { on := 1, ground := Ground.guard }], guard := some (1, true) }) (v := ?_) rfl (by kernel_rfl) (by kernel_rfl) (by kernel_rfl) (fun _ _ _ h => h) (Or.inl ⟨by rfl, ?_⟩) (by assumption) ?_
                    rotate_left 1
                    · (intro W hSW; (try dsimp only at hSW); first | (go_simp; done) | (go_simp; with_reducible rfl))
                    try simp only [Act.put, List.setIfInBounds_toArray, List.set_cons_zero, List.set_cons_succ]
                    refine wpAnyH_take (i := 9) (oi := { dst := some 200, op := Op.load 53 (Operand.tmp 199), type := 53, pos := "law.go:249", after := #[{ on := 8, ground := Ground.data }, { on := 1, ground := Ground.guard }], guard := some (1, true) }) (v := ?_) rfl (by kernel_rfl) (by kernel_rfl) (by kernel_rfl) (fun _ _ _ h => h) (Or.inl ⟨by rfl, ?_⟩) (by assumption) ?_
                    rotate_left 1
                    · (intro W hSW; (try dsimp only at hSW); first | (go_simp; done) | (go_simp; with_reducible rfl))
                    try simp only [Act.put, List.setIfInBounds_toArray, List.set_cons_zero, List.set_cons_succ]
                    refine wpAnyH_ready (rs := [10]) (by kernel_rfl) (by simp) ?_
                    refine (AllReadyH.cons (o := { dst := some 201, op := Op.call { callee := Callee.value (Operand.func 59), args := #[Operand.tmp 196, Operand.tmp 200], argTypes := #[53, 53] }, type := 4, pos := "law.go:249", after := #[{ on := 5, ground := Ground.data }, { on := 9, ground := Ground.data }, { on := 1, ground := Ground.chain }, { on := 1, ground := Ground.guard }], guard := some (1, true) }) rfl (fun K hK => ?_) AllReadyH.nil)
                    rw [if_pos (by rfl)]
                    go_simp
                    go_at_call 59
                    refine (HC.out _ (hdr)).mono ?_
                    rintro e wc1 ⟨rfl, gc1⟩
                    have hgr1 := World.grownBy.trans hdr gc1
                    go_wp2_with fail
                    refine hK.out _ _ (HS.out _ hgr1) (fun hHeld => ?_)
                    clear hK K
                    try simp only [Act.put, List.setIfInBounds_toArray, List.set_cons_zero, List.set_cons_succ]
                    refine wpAnyH_take (i := 11) (oi := { dst := some 202, op := Op.pick (Operand.tmp 192) (Operand.tmp 201) (Operand.const (Value.bool false)), type := 4, pos := "law.go:249", after := #[{ on := 1, ground := Ground.data }, { on := 10, ground := Ground.data }], guard := none }) (v := ?_) rfl (by kernel_rfl) (by kernel_rfl) (by kernel_rfl) (fun _ _ _ h => h) (Or.inl ⟨by rfl, ?_⟩) (by assumption) ?_
                    rotate_left 1
                    · (intro W hSW; (try dsimp only at hSW); first | (go_simp; done) | (go_simp; with_reducible rfl))
                    try simp only [Act.put, List.setIfInBounds_toArray, List.set_cons_zero, List.set_cons_succ]
                    refine wpAnyH_take (i := 12) (oi := { dst := some 25, op := Op.assign (Operand.tmp 202), type := 4, pos := "law.go:249", after := #[{ on := 11, ground := Ground.data }, { on := 10, ground := Ground.chain }, { on := 0, ground := Ground.phase }, { on := 1, ground := Ground.phase }, { on := 2, ground := Ground.phase }, { on := 3, ground := Ground.phase }, { on := 4, ground := Ground.phase }, { on := 5, ground := Ground.phase }, { on := 6, ground := Ground.phase }, { on := 7, ground := Ground.phase }, { on := 8, ground := Ground.phase }, { on := 9, ground := Ground.phase }, { on := 10, ground := Ground.phase }, { on := 11, ground := Ground.phase }], guard := none }) (v := ?_) rfl (by kernel_rfl) (by kernel_rfl) (by kernel_rfl) (fun _ _ _ h => h) (Or.inl ⟨by rfl, ?_⟩) (by assumption) ?_
                    rotate_left 1
                    · (intro W hSW; (try dsimp only at hSW); first | (go_simp; done) | (go_simp; with_reducible rfl))
                    try simp only [Act.put, List.setIfInBounds_toArray, List.set_cons_zero, List.set_cons_succ]
                    refine wpAnyH_done (by kernel_rfl) ?_ _
                    have hEND := hgr1
                    clear hHeld
                    go_wp2_with fail
                    go_roundg (i - (l + 1))
                    case measure => rw [HI.out.1]; omega
                    case rel => exact ⟨l + 1, by rw [HST.out]; rfl, rfl, rfl, by omega, HI.out.2.trans hEND⟩
                · have hle : l = i := by omega
                  subst hle
                  have hinB : decide (l < l) = false := by simp
                  have hse : eqTo (insS pk0 A) (insS pk1 A) l = SM := by
                    have h := same_eq HA.out.1 pk0 pk1 HA.out.2.2
                    rw [HM.out, HSM.out] at h
                    exact h.symm
                  rw [hse]
                  clear hse HSM HI
                  cases SM
                  · go_wp2_with fail
                    refine (contains2G HMA.out HA.out.2.2 hn6 HA.out.2.1 HMX.out ((insS_len _ _).trans HA.out.2.2) (insS_rows HA.out.2.1) HMY.out ((insS_len _ _).trans HA.out.2.2) (insS_rows HA.out.2.1) (insS_in HA.out.1 pk0) (insS_in HA.out.1 pk1)).mono ?_
                    rintro e z9 ⟨rfl, gh⟩
                    replace HG := Lib.hid (HG.out.trans gh)
                    clear gh
                    go_wp2_with fail
                    go_ret
                    exact ⟨rfl, HG.out⟩
                  · go_wp2_with fail
                    refine (contains2G HMA.out HA.out.2.2 hn6 HA.out.2.1 HMX.out ((insS_len _ _).trans HA.out.2.2) (insS_rows HA.out.2.1) HMY.out ((insS_len _ _).trans HA.out.2.2) (insS_rows HA.out.2.1) (insS_in HA.out.1 pk0) (insS_in HA.out.1 pk1)).mono ?_
                    rintro e z9 ⟨rfl, gh⟩
                    replace HG := Lib.hid (HG.out.trans gh)
                    clear gh
                    go_wp2_with fail
                    go_ret
                    exact ⟨rfl, HG.out⟩
end Go.Proofs.Ytbddpjofhddilaa
