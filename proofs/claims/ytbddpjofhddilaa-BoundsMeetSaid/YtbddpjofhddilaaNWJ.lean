/- The law of meets. -/
import Derived.Test.YtbddpjofhddilaaNWY
namespace Go.Proofs.Ytbddpjofhddilaa
open Go.RowKit

set_option maxRecDepth 100000 in
set_option maxHeartbeats 16000000 in
theorem meet_law_calls (hh : HeadSays9) (s1 : Option Addr) (ns c1 : Nat) (F : List Fd) (fa : Option Addr) (fc : Nat) (s3 : Option Addr) (n3 q3 : Nat) (s4 : Option Addr) (n4 q4 : Nat) (us : List Int) (sa : Option Addr) (sc : Nat) (st : Int) (raw0 : List (List Nat)) (ra0 : Option Addr) (rc0 : Nat) (raw1 : List (List Nat)) (ra1 : Option Addr) (rc1 : Nat) (pk0 : List Bool) (pa0 : Option Addr) (pc0 : Nat) (w : World)
    (hF : Fields w fa fc F) (hFl : (F.length : Int) ≤ 9223372036854775807) (hu : Ints w sa sc us) (hul : (us.length : Int) ≤ 9223372036854775807) (hr0 : Raws w ra0 rc0 raw0) (hro0 : RawOk raw0) (hr1 : Raws w ra1 rc1 raw1) (hro1 : RawOk raw1) (hp0 : Bools w pa0 pc0 pk0) (hpl0 : (pk0.length : Int) ≤ 9223372036854775807) :
    Calls Try.prog 12 #[.agg #[.slice s1 ns c1, .slice fa F.length fc, .slice s3 n3 q3, .slice s4 n4 q4], .agg #[.slice sa us.length sc, .int .i64 st], .slice ra0 raw0.length rc0, .slice ra1 raw1.length rc1, .slice pa0 pk0.length pc0] w fun e w' => e = .returned (.bool true) ∧ w.grownBy w' none := by
  obtain ⟨n, hn⟩ : ∃ n, us.length = n := ⟨_, rfl⟩
  obtain ⟨f, hf⟩ : ∃ k, F.length = k := ⟨_, rfl⟩
  obtain ⟨rn0, hrn0⟩ : ∃ k, raw0.length = k := ⟨_, rfl⟩
  obtain ⟨rn1, hrn1⟩ : ∃ k, raw1.length = k := ⟨_, rfl⟩
  obtain ⟨pn0, hpn0⟩ : ∃ k, pk0.length = k := ⟨_, rfl⟩
  have HPK0 := Lib.hid (And.intro hp0 (And.intro hpl0 hpn0))
  have HFI := Lib.hid (fun (U : World) (g : w.grownBy U none) => fitsS_calls s1 fa s3 s4 ns c1 fc n3 q3 n4 q4 F us sa sc st U (hF.grown g) (hu.grown g) hul hFl)
  rw [hn, hf] at HFI
  have HBN := Lib.hid (Bx9.new w (.slice s1 ns c1) (.slice fa f fc) (.slice s3 n3 q3) (.slice s4 n4 q4) (.slice sa n sc) (.int .i64 st))
  have HN := Lib.hid (And.intro hn (And.intro hf (And.intro hF hu)))
  have HRW := Lib.hid ((And.intro (And.intro hr0 (And.intro hro0 hrn0)) (And.intro hr1 (And.intro hro1 hrn1))))
  rw [hn, hf, hrn0, hrn1, hpn0]
  clear hn hf hF hu hFl hul hr0 hro0 hrn0 hr1 hro1 hrn1 hp0 hpl0 hpn0
  obtain ⟨W, hW⟩ : ∃ W, (w.alloc (.cells #[.slice s1 ns c1, .slice fa f fc, .slice s3 n3 q3, .slice s4 n4 q4] 27)).alloc (.cells #[.slice sa n sc, .int .i64 st] 30) = W := ⟨_, rfl⟩
  rw [hW] at HBN
  obtain ⟨g0, hg0⟩ : ∃ g, w.heap.size = g := ⟨_, rfl⟩
  have HW := Lib.hid (And.intro hW hg0)
  rw [hg0] at HBN
  clear hW
  go_enter Try.func12, Try.ntmps12
  go_wp2_with fail
  rw [HW.out.1]
  clear hg0
  refine (hh W).mono ?_
  rintro e w0 ⟨rfl, gh⟩
  have HG := Lib.hid (HBN.out.2.trans gh)
  have HB := Lib.hid (HBN.out.1.grown gh)
  clear gh HBN
  clear HW
  have hbx := HB.out
  obtain ⟨a0, a1, a2, a3, b0, b1⟩ := hbx
  go_wp2_with fail
  clear a0 a1 a2 a3 b0 b1
  refine (HFI.out w0 HG.out).mono ?_
  rintro e w1 ⟨rfl, gh⟩
  replace HB := Lib.hid (HB.out.grown gh)
  replace HG := Lib.hid (HG.out.trans gh)
  clear gh HFI
  obtain ⟨Q, hQ⟩ : ∃ Q, fitsS ns F us st = Q := ⟨_, rfl⟩
  rw [hQ]
  cases Q with
  | false =>
    clear hQ
    go_wp2_with fail
    go_ret
    exact ⟨rfl, HG.out⟩
  | true =>
  obtain ⟨hz0, hz5, hz4, hf6, hff, hfit, hs12, hu4⟩ := fits_setup hQ
  have HNU := Lib.hid (fun (U : World) (g : w.grownBy U none) => (HN.out.2.2.2.grown g).nums hz0)
  have HDEF := Lib.hid (defOk (F := F) hz5 (fun f hf => (hff f hf).2))
  have hzl : (us.map Int.toNat).length = n := by rw [List.length_map]; exact HN.out.1
  have HST := Lib.hid (And.intro hs12 (And.intro hff hfit))
  have HMD0 := Lib.hid (fun (U : World) (g : w.grownBy U none) => by
    have h := made_calls s1 fa s3 s4 ns c1 fc n3 q3 n4 q4 F (us.map Int.toNat) sa sc st raw0 ra0 rc0 U (HN.out.2.2.1.grown g) (HNU.out U g) hz5 hz4 (by omega) hff hfit (HRW.out.1.1.grown g) HRW.out.1.2.1
    rw [hzl, HN.out.2.1, HRW.out.1.2.2] at h
    exact h)
  have HMD1 := Lib.hid (fun (U : World) (g : w.grownBy U none) => by
    have h := made_calls s1 fa s3 s4 ns c1 fc n3 q3 n4 q4 F (us.map Int.toNat) sa sc st raw1 ra1 rc1 U (HN.out.2.2.1.grown g) (HNU.out U g) hz5 hz4 (by omega) hff hfit (HRW.out.2.1.grown g) HRW.out.2.2.1
    rw [hzl, HN.out.2.1, HRW.out.2.2.2] at h
    exact h)
  have hdl : (F.map (defX (us.map Int.toNat))).length = f := by rw [List.length_map]; exact HN.out.2.1
  have hn6 : f ≤ 6 := by rw [← HN.out.2.1]; exact hf6
  have HVA := Lib.hid (fun (U : World) (X : List Bd) (xa : Option Addr) (xc : Nat) (g : w.grownBy U none) (hx : Bds U xa xc X) (hgx : GoodL X (F.map (defX (us.map Int.toNat)))) (hxl : ∀ x ∈ X, x.1.2.length ≤ 125 ∧ x.2.2.length ≤ 125) (hxf : X.length = f) =>
    validG (s1 := s1) (s3 := s3) (s4 := s4) (ns := ns) (c1 := c1) (n3 := n3) (c3 := q3) (n4 := n4) (c4 := q4) (st := st) (HN.out.2.2.1.grown g) (HNU.out U g) hz5 hz4 hx hf6 hff hxl hzl HN.out.2.1 hxf (valid_good hz5 hs12 hff hfit hgx))
  clear hQ hz0 hs12 hu4
  obtain ⟨DB, hDB⟩ : ∃ D, F.map (defX (us.map Int.toNat)) = D := ⟨_, rfl⟩
  rw [hDB] at HMD0 HMD1 HDEF hdl HVA
  clear hDB
  obtain ⟨A, hA⟩ : ∃ D, madeL raw0 DB = D := ⟨_, rfl⟩
  obtain ⟨B, hB⟩ : ∃ D, madeL raw1 DB = D := ⟨_, rfl⟩
  rw [hA] at HMD0
  rw [hB] at HMD1
  have hGA : GoodL A DB := by rw [← hA]; exact goodL_made HDEF.out
  have hGB : GoodL B DB := by rw [← hB]; exact goodL_made HDEF.out
  have hla := goodL_len hGA HDEF.out
  have hlb := goodL_len hGB HDEF.out
  have HA := Lib.hid (And.intro hGA (And.intro hla (hGA.1.trans hdl)))
  have HBB := Lib.hid (And.intro hGB (And.intro hlb (hGB.1.trans hdl)))
  clear hA hB hGA hGB hla hlb hdl hz5 hz4 hff hfit hzl hf6
  have hbx := HB.out
  obtain ⟨a0, a1, a2, a3, b0, b1⟩ := hbx
  go_wp2_with fail
  clear a0 a1 a2 a3 b0 b1
  refine (HMD0.out _ HG.out).mono ?_
  rintro e v2 ⟨aa, ca, rfl, hsp, gh⟩
  replace HB := Lib.hid (HB.out.grown gh)
  replace HG := Lib.hid (HG.out.trans gh)
  clear gh
  have HMA := Lib.hid hsp.here
  clear hsp
  have hbx := HB.out
  obtain ⟨a0, a1, a2, a3, b0, b1⟩ := hbx
  go_wp2_with fail
  clear a0 a1 a2 a3 b0 b1
  refine (HMD1.out _ HG.out).mono ?_
  rintro e v3 ⟨ab, cb, rfl, hsp, gh⟩
  replace HB := Lib.hid (HB.out.grown gh)
  replace HMA := Lib.hid (HMA.out.grown gh)
  replace HG := Lib.hid (HG.out.trans gh)
  clear gh
  have HMB := Lib.hid hsp.here
  clear hsp
  go_wp2_with fail
  obtain ⟨X, E, xn, hXE, hxl, hcase⟩ : ∃ X E xn, meetR A B = (X, E) ∧ X.length = xn ∧ ((E = 0 ∧ allB okX A B = true ∧ X = List.zipWith meetX A B ∧ GoodL X DB ∧ xn = f) ∨ (E = 100 ∧ allB okX A B = false ∧ X = [] ∧ xn = 0)) := by
    rcases meetR_good HA.out.1 HBB.out.1 with ⟨h1, h2, h3⟩ | ⟨h1, h2⟩
    · exact ⟨_, _, _, h2, rfl, .inl ⟨rfl, h1, rfl, h3, by rw [List.length_zipWith, HA.out.2.2, HBB.out.2.2, Nat.min_self]⟩⟩
    · exact ⟨_, _, _, h2, rfl, .inr ⟨rfl, h1, rfl, rfl⟩⟩
  have HX := Lib.hid (And.intro hXE (And.intro hxl hcase))
  have hXY : meetR B A = (X, E) := (meetR_comm HA.out.1 HBB.out.1).trans hXE
  have HXY := Lib.hid hXY
  have hxx : ∀ x ∈ X, x.1.2.length ≤ 125 ∧ x.2.2.length ≤ 125 := by
    rcases hcase with ⟨_, _, _, h, _⟩ | ⟨_, _, h, _⟩
    · exact goodL_len h HDEF.out
    · rw [h]; intro x hx; cases hx
  have hxn6 : xn ≤ 6 := by
    rcases hcase with ⟨_, _, _, _, h⟩ | ⟨_, _, _, h⟩
    · rw [h]; exact hn6
    · rw [h]; exact Nat.zero_le _
  have HXX := Lib.hid (And.intro hxx hxn6)
  clear hXE hxl hcase hXY hxx hxn6
  refine (meetG HMA.out HMB.out HA.out.2.2 HBB.out.2.2 hn6 HA.out.2.1 HBB.out.2.1 HX.out.1 HX.out.2.1).mono ?_
  rintro e v4 ⟨ax, cx, rfl, hsp, gh⟩
  replace HB := Lib.hid (HB.out.grown gh)
  replace HMA := Lib.hid (HMA.out.grown gh)
  replace HMB := Lib.hid (HMB.out.grown gh)
  replace HG := Lib.hid (HG.out.trans gh)
  clear gh
  have HMX := Lib.hid hsp
  clear hsp
  go_wp2_with fail
  refine (meetG HMB.out HMA.out HBB.out.2.2 HA.out.2.2 hn6 HBB.out.2.1 HA.out.2.1 HXY.out HX.out.2.1).mono ?_
  rintro e v5 ⟨ay, cy, rfl, hsp, gh⟩
  replace HB := Lib.hid (HB.out.grown gh)
  replace HMA := Lib.hid (HMA.out.grown gh)
  replace HMB := Lib.hid (HMB.out.grown gh)
  replace HMX := Lib.hid (HMX.out.grown gh)
  replace HG := Lib.hid (HG.out.trans gh)
  clear gh
  have HMY := Lib.hid hsp
  clear hsp
  go_wp2_with fail
  obtain ⟨wo, rfl⟩ : ∃ wo, wo = v5 := ⟨_, rfl⟩
  have hbx := HB.out
  obtain ⟨_, _, _, _, b0, b1⟩ := hbx
  have HS := Lib.hid (fun (Wh : World) (hWh : wo.grownBy Wh none) => (⟨hWh, hWh.cell b0 (by simp), hWh.cell b1 (by simp)⟩ : (fun Wh : World => wo.grownBy Wh none ∧ Wh.cell? ⟨g0 + 1, 0, none⟩ = some (.slice sa n sc) ∧ Wh.cell? ⟨g0 + 1, 1, none⟩ = some (.int .i64 st)) Wh))
  clear b0 b1
  have hdr : wo.grownBy wo.drew none := ⟨rfl, rfl, rfl, Nat.le_refl _, fun _ _ _ => rfl⟩
  refine wp_region_held_drew (S := (fun Wh : World => wo.grownBy Wh none ∧ Wh.cell? ⟨g0 + 1, 0, none⟩ = some (.slice sa n sc) ∧ Wh.cell? ⟨g0 + 1, 1, none⟩ = some (.int .i64 st))) (by kernel_rfl) (HS.out _ hdr) (fun hHeld => ?_)
  refine wpAnyH_take (i := 0) (oi := { dst := some 45, op := Op.load 30 (Operand.tmp 6), type := 30, pos := "law.go:204", after := #[], guard := none }) (v := ?_) rfl (by kernel_rfl) (by kernel_rfl) (by kernel_rfl) (fun _ _ _ h => h) (Or.inl ⟨by rfl, ?_⟩) (by assumption) ?_
  rotate_left 1
  · (intro W hSW; (try dsimp only at hSW); first | (go_simp; done) | (go_simp; with_reducible rfl))
  try simp only [Act.put, List.setIfInBounds_toArray, List.set_cons_zero, List.set_cons_succ]
  refine wpAnyH_take (i := 1) (oi := { dst := some 46, op := Op.move (Operand.tmp 12), type := 57, pos := "law.go:204", after := #[], guard := none }) (v := ?_) rfl (by kernel_rfl) (by kernel_rfl) (by kernel_rfl) (fun _ _ _ h => h) (Or.inl ⟨by rfl, ?_⟩) (by assumption) ?_
  rotate_left 1
  · (intro W hSW; (try dsimp only at hSW); first | (go_simp; done) | (go_simp; with_reducible rfl))
  try simp only [Act.put, List.setIfInBounds_toArray, List.set_cons_zero, List.set_cons_succ]
  refine wpAnyH_take (i := 2) (oi := { dst := some 47, op := Op.move (Operand.tmp 4), type := 76, pos := "law.go:204", after := #[], guard := none }) (v := ?_) rfl (by kernel_rfl) (by kernel_rfl) (by kernel_rfl) (fun _ _ _ h => h) (Or.inl ⟨by rfl, ?_⟩) (by assumption) ?_
  rotate_left 1
  · (intro W hSW; (try dsimp only at hSW); first | (go_simp; done) | (go_simp; with_reducible rfl))
  try simp only [Act.put, List.setIfInBounds_toArray, List.set_cons_zero, List.set_cons_succ]
  refine wpAnyH_ready (rs := [3, 6]) (by kernel_rfl) (by simp) ?_
  refine (AllReadyH.cons (o := { dst := some 48, op := Op.call { callee := Callee.value (Operand.func 57), args := #[Operand.tmp 46, Operand.tmp 47], argTypes := #[57, 76] }, type := 40, pos := "law.go:204", after := #[{ on := 1, ground := Ground.data }, { on := 2, ground := Ground.data }], guard := none }) rfl (fun K hK => ?_) (AllReadyH.cons (o := { dst := some 18, op := Op.alloc 33, type := 0, pos := "law.go:204", after := #[], guard := none }) rfl (fun K hK => ?_) AllReadyH.nil))
  · rw [if_pos (by rfl)]
    go_simp
    go_at_call 57
    refine (insideS (HMA.out.grown (hdr)) (HPK0.out.1.grown (HG.out.trans (hdr))) HA.out.2.2 hn6 HA.out.2.1 HA.out.1 HPK0.out.2.1 HPK0.out.2.2).mono ?_
    rintro e wc1 ⟨xa, xc, rfl, hsX, gc1⟩
    have hgr1 := World.grownBy.trans hdr gc1
    have hzU := World.grownBy.size gc1
    try (replace hkc := hkc.grown gc1)
    go_wp2_with fail
    refine hK.out _ _ (HS.out _ hgr1) (fun hHeld => ?_)
    clear hK K
    try simp only [Act.put, List.setIfInBounds_toArray, List.set_cons_zero, List.set_cons_succ]
    refine wpAnyH_ready (rs := [4, 6]) (by kernel_rfl) (by simp) ?_
    refine (AllReadyH.cons (o := { dst := some 49, op := Op.buildSlice 31 1 #[(0, Operand.tmp 48)], type := 31, pos := "law.go:204", after := #[{ on := 3, ground := Ground.data }], guard := none }) rfl (fun K hK => ?_) (AllReadyH.cons (o := { dst := some 18, op := Op.alloc 33, type := 0, pos := "law.go:204", after := #[], guard := none }) rfl (fun K hK => ?_) AllReadyH.nil))
    · rw [if_pos (by rfl)]
      go_simp
      have hgc := World.grownBy.trans hgr1 (World.grownBy_alloc wc1 (.cells #[.slice xa f xc] 40) none)
      have hsb := SlB.new wc1 (.slice xa f xc)
      replace hsX := hsX.grown (World.grownBy_alloc wc1 (.cells #[.slice xa f xc] 40) none)
      try (replace hkc := hkc.grown (World.grownBy_alloc wc1 (.cells #[.slice xa f xc] 40) none))
      try (have hzB := hkc.lt)
      have hzS := World.grownBy.size (World.grownBy_alloc wc1 (.cells #[.slice xa f xc] 40) none)
      obtain ⟨gS, hgS⟩ : ∃ g, (wc1).heap.size = g := ⟨_, rfl⟩
      obtain ⟨WS, hWS⟩ : ∃ WS, World.alloc wc1 (.cells #[.slice xa f xc] 40) = WS := ⟨_, rfl⟩
      rw [hWS] at hgc hsX hsb hzS ⊢
      try (rw [hWS] at hkc)
      clear hWS
      rw [hgS] at hsb ⊢
      have hzT := hsb.2
      refine hK.out _ _ (HS.out _ hgc) (fun hHeld => ?_)
      clear hK K
      try simp only [Act.put, List.setIfInBounds_toArray, List.set_cons_zero, List.set_cons_succ]
      refine wpAnyH_take (i := 5) (oi := { dst := some 50, op := Op.build 33 #[(0, Operand.tmp 45), (1, Operand.tmp 49)], type := 33, pos := "law.go:204", after := #[{ on := 0, ground := Ground.data }, { on := 4, ground := Ground.data }], guard := none }) (v := ?_) rfl (by kernel_rfl) (by kernel_rfl) (by kernel_rfl) (fun _ _ _ h => h) (Or.inl ⟨by rfl, ?_⟩) (by assumption) ?_
      rotate_left 1
      · (intro W hSW; (try dsimp only at hSW); first | (go_simp; done) | (go_simp; with_reducible rfl))
      try simp only [Act.put, List.setIfInBounds_toArray, List.set_cons_zero, List.set_cons_succ]
      refine wpAnyH_ready (rs := [6]) (by kernel_rfl) (by simp) ?_
      refine (AllReadyH.cons (o := { dst := some 18, op := Op.alloc 33, type := 0, pos := "law.go:204", after := #[], guard := none }) rfl (fun K hK => ?_) AllReadyH.nil)
      rw [if_pos (by rfl)]
      go_simp
      have hga := World.grownBy.trans hgc (World.grownBy_alloc (WS) (.cells #[.slice none 0 0, .int .i64 0, .slice none 0 0, .int .i64 0] 33) none)
      have hkc := ZeroM.new (lo := wo.heap.size) (WS) (World.grownBy.size hgc)
      try (replace hsX := hsX.grown (World.grownBy_alloc (WS) (.cells #[.slice none 0 0, .int .i64 0, .slice none 0 0, .int .i64 0] 33) none))
      try (replace hsb := hsb.grown (World.grownBy_alloc (WS) (.cells #[.slice none 0 0, .int .i64 0, .slice none 0 0, .int .i64 0] 33) none))
      obtain ⟨WA, hWA⟩ : ∃ WA, World.alloc (WS) (.cells #[.slice none 0 0, .int .i64 0, .slice none 0 0, .int .i64 0] 33) = WA := ⟨_, rfl⟩
      rw [hWA] at hga hkc ⊢
      try (rw [hWA] at hsX)
      try (rw [hWA] at hsb)
      clear hWA
      have hzA := hkc.lt
      have hzG := World.grownBy.size hga
      refine hK.out _ _ (HS.out _ hga) (fun hHeld => ?_)
      clear hK K
      try simp only [Act.put, List.setIfInBounds_toArray, List.set_cons_zero, List.set_cons_succ]
      refine wpAnyH_ready (rs := [7]) (by kernel_rfl) (by simp) ?_
      refine (AllReadyH.cons (o := { dst := none, op := Op.store 33 (Operand.tmp 18) (Operand.tmp 50), type := 0, pos := "law.go:204", after := #[{ on := 6, ground := Ground.data }, { on := 5, ground := Ground.data }, { on := 3, ground := Ground.chain }, { on := 0, ground := Ground.phase }, { on := 1, ground := Ground.phase }, { on := 2, ground := Ground.phase }, { on := 3, ground := Ground.phase }, { on := 4, ground := Ground.phase }, { on := 5, ground := Ground.phase }, { on := 6, ground := Ground.phase }], guard := none }) rfl (fun K hK => ?_) AllReadyH.nil)
      rw [if_pos (by rfl)]
      have q0 := hkc.c0
      have q1 := hkc.c1
      have q2 := hkc.c2
      have q3 := hkc.c3
      have q4 := hkc.f0
      have q5 := hkc.f1
      have q6 := hkc.f2
      have q7 := hkc.f3
      go_simp
      clear q4 q5 q6 q7
      have hfs := four_set (.slice sa n sc) (.int .i64 st) (.slice (some ⟨gS, 0, none⟩) 1 1) (.int .i64 0) q0 q1 q2 q3
      clear q0 q1 q2 q3
      have hgs := grown_own hga hfs.2.2.2.2 (fun k hk => by cases hk; exact hkc.ge)
      refine hK.out _ _ (HS.out _ hgs) (fun hHeld => ?_)
      clear hK K
      try simp only [Act.put, List.setIfInBounds_toArray, List.set_cons_zero, List.set_cons_succ]
      refine wpAnyH_done (by kernel_rfl) ?_ _
      have hEND := hgs
      clear hHeld
      have hdz : wo.drew.heap.size = wo.heap.size := rfl
      have hX2 := hsX.off hfs.2.2.2.2 (fun z e => by cases e; first | exact .inl (by omega) | exact .inr (by omega))
      have hXh := hX2.here
      have hne : gS ≠ WS.heap.size := by omega
      have hsc := hfs.2.2.2.2.cell hsb.1 (by simp only [ne_eq, Option.some.injEq]; omega)
      obtain ⟨p0, p1, p2, p3, _⟩ := hfs
      obtain ⟨gB, hgB⟩ : ∃ gB, WS.heap.size = gB := ⟨_, rfl⟩
      obtain ⟨X1, hX1⟩ : ∃ X, (World.setCell (World.setCell (World.setCell (World.setCell WA ⟨WS.heap.size, 0, none⟩ (.slice sa n sc)) ⟨WS.heap.size, 1, none⟩ (.int .i64 st)) ⟨WS.heap.size, 2, none⟩ (.slice (some ⟨gS, 0, none⟩) 1 1)) ⟨WS.heap.size, 3, none⟩ (.int .i64 0)) = X := ⟨_, rfl⟩
      rw [hX1] at p0 p1 p2 p3 hXh hsc hEND ⊢
      rw [hgB] at p0 p1 p2 p3 ⊢
      have HMM := Lib.hid (MdB.mk p0 p1 p2 p3 (sts_of_slb hsc hXh ((insS_len _ _).trans HA.out.2.2)))
      clear hdz hX2 hXh hne hsc p0 p1 p2 p3 hX1 hsX hgs hsb hkc hzA hzG hzU hzS hzT hHeld HS hgS
      try clear hzB
      try clear hgB
      replace HB := Lib.hid (HB.out.grown hEND)
      replace HMA := Lib.hid (HMA.out.grown hEND)
      replace HMB := Lib.hid (HMB.out.grown hEND)
      replace HMX := Lib.hid (HMX.out.grown hEND)
      replace HMY := Lib.hid (HMY.out.grown hEND)
      replace HG := Lib.hid (HG.out.trans hEND)
      clear hEND
      go_wp2_with fail
      refine (equalG HMX.out HMY.out HX.out.2.1 HX.out.2.1 HXX.out.2 HXX.out.1 HXX.out.1 (decide_eq_true rfl)).mono ?_
      rintro e v21 ⟨rfl, gh⟩
      replace HB := Lib.hid (HB.out.grown gh)
      replace HMA := Lib.hid (HMA.out.grown gh)
      replace HMB := Lib.hid (HMB.out.grown gh)
      replace HMX := Lib.hid (HMX.out.grown gh)
      replace HMY := Lib.hid (HMY.out.grown gh)
      replace HMM := Lib.hid (HMM.out.grown gh)
      replace HG := Lib.hid (HG.out.trans gh)
      clear gh
      have hbm := HMM.out
      obtain ⟨m0, m1, m2, m3, _⟩ := hbm
      go_wp2_with fail
      clear m0 m1 m2 m3
      refine (containsM HMA.out HA.out.2.2 hn6 HA.out.2.1 HMM.out (insS_rows HA.out.2.1) (insS_in HA.out.1 pk0)).mono ?_
      rintro e v22 ⟨rfl, gh⟩
      replace HB := Lib.hid (HB.out.grown gh)
      replace HMA := Lib.hid (HMA.out.grown gh)
      replace HMB := Lib.hid (HMB.out.grown gh)
      replace HMX := Lib.hid (HMX.out.grown gh)
      replace HMY := Lib.hid (HMY.out.grown gh)
      replace HMM := Lib.hid (HMM.out.grown gh)
      replace HG := Lib.hid (HG.out.trans gh)
      clear gh
      obtain ⟨Q2, hQ2⟩ : ∃ Q, allB withinB B (insS pk0 A) = Q := ⟨_, rfl⟩
      have HQ2 := Lib.hid hQ2
      clear hQ2
      rcases HX.out.2.2 with ⟨hE, hk, hXz, hgx, hxf⟩ | ⟨hE, hk, hXz, hxf⟩
      · subst hE
        have HGX := Lib.hid (And.intro hgx (And.intro hXz (And.intro HX.out.2.1 HXX.out)))
        have hfx := hxf.symm
        subst hfx
        have HWM : Hid (allB withinB X (insS pk0 A) = Q2) := Lib.hid (by rw [hXz, within_meetL HA.out.1 HBB.out.1 (insS_up HA.out.1 pk0) (insS_in HA.out.1 pk0)]; exact HQ2.out)
        clear hk hXz hgx hxf
        go_wp2_with fail
        cases Q2
        · obtain ⟨wq, hwq⟩ : ∃ wq, wq = v22 := ⟨_, rfl⟩
          subst hwq
          have hbx := HB.out
          obtain ⟨a0, a1, a2, a3, b0, b1⟩ := hbx
          have hbm := HMM.out
          obtain ⟨m0, m1, m2, m3, _⟩ := hbm
          have HS := Lib.hid (fun (Wh : World) (hWh : wq.grownBy Wh none) => (⟨hWh, hWh.cell a0 (by simp), hWh.cell a1 (by simp), hWh.cell a2 (by simp), hWh.cell a3 (by simp), hWh.cell b0 (by simp), hWh.cell b1 (by simp), hWh.cell m0 (by simp), hWh.cell m1 (by simp), hWh.cell m2 (by simp), hWh.cell m3 (by simp)⟩ : (fun Wh : World => wq.grownBy Wh none ∧ Wh.cell? ⟨g0, 0, none⟩ = some (.slice s1 ns c1) ∧ Wh.cell? ⟨g0, 1, none⟩ = some (.slice fa f fc) ∧ Wh.cell? ⟨g0, 2, none⟩ = some (.slice s3 n3 q3) ∧ Wh.cell? ⟨g0, 3, none⟩ = some (.slice s4 n4 q4) ∧ Wh.cell? ⟨g0 + 1, 0, none⟩ = some (.slice sa n sc) ∧ Wh.cell? ⟨g0 + 1, 1, none⟩ = some (.int .i64 st) ∧ Wh.cell? ⟨gB, 0, none⟩ = some (.slice sa n sc) ∧ Wh.cell? ⟨gB, 1, none⟩ = some (.int .i64 st) ∧ Wh.cell? ⟨gB, 2, none⟩ = some (.slice (some ⟨gS, 0, none⟩) 1 1) ∧ Wh.cell? ⟨gB, 3, none⟩ = some (.int .i64 0)) Wh))
          clear a0 a1 a2 a3 b0 b1 m0 m1 m2 m3
          have hdr : wq.grownBy wq.drew none := ⟨rfl, rfl, rfl, Nat.le_refl _, fun _ _ _ => rfl⟩
          refine wp_region_held_drew (S := (fun Wh : World => wq.grownBy Wh none ∧ Wh.cell? ⟨g0, 0, none⟩ = some (.slice s1 ns c1) ∧ Wh.cell? ⟨g0, 1, none⟩ = some (.slice fa f fc) ∧ Wh.cell? ⟨g0, 2, none⟩ = some (.slice s3 n3 q3) ∧ Wh.cell? ⟨g0, 3, none⟩ = some (.slice s4 n4 q4) ∧ Wh.cell? ⟨g0 + 1, 0, none⟩ = some (.slice sa n sc) ∧ Wh.cell? ⟨g0 + 1, 1, none⟩ = some (.int .i64 st) ∧ Wh.cell? ⟨gB, 0, none⟩ = some (.slice sa n sc) ∧ Wh.cell? ⟨gB, 1, none⟩ = some (.int .i64 st) ∧ Wh.cell? ⟨gB, 2, none⟩ = some (.slice (some ⟨gS, 0, none⟩) 1 1) ∧ Wh.cell? ⟨gB, 3, none⟩ = some (.int .i64 0))) (by kernel_rfl) (HS.out _ hdr) (fun hHeld => ?_)
          refine wpAnyH_take (i := 0) (oi := { dst := some 84, op := Op.move (Operand.tmp 11), type := 4, pos := "law.go:211", after := #[], guard := none }) (v := ?_) rfl (by kernel_rfl) (by kernel_rfl) (by kernel_rfl) (fun _ _ _ h => h) (Or.inl ⟨by rfl, ?_⟩) (by assumption) ?_
          rotate_left 1
          · (intro W hSW; (try dsimp only at hSW); first | (go_simp; done) | (go_simp; with_reducible rfl))
          try simp only [Act.put, List.setIfInBounds_toArray, List.set_cons_zero, List.set_cons_succ]
          refine wpAnyH_take (i := 1) (oi := { dst := some 85, op := Op.move (Operand.tmp 84), type := 4, pos := "law.go:211", after := #[{ on := 0, ground := Ground.data }], guard := none }) (v := ?_) rfl (by kernel_rfl) (by kernel_rfl) (by kernel_rfl) (fun _ _ _ h => h) (Or.inl ⟨by rfl, ?_⟩) (by assumption) ?_
          rotate_left 1
          · (intro W hSW; (try dsimp only at hSW); first | (go_simp; done) | (go_simp; with_reducible rfl))
          try simp only [Act.put, List.setIfInBounds_toArray, List.set_cons_zero, List.set_cons_succ]
          refine wpAnyH_take (i := 2) (oi := { dst := some 86, op := Op.load 27 (Operand.tmp 5), type := 27, pos := "law.go:211", after := #[{ on := 1, ground := Ground.guard }], guard := some (1, true) }) (v := ?_) rfl (by kernel_rfl) (by kernel_rfl) (by kernel_rfl) (fun _ _ _ h => h) (Or.inl ⟨by rfl, ?_⟩) (by assumption) ?_
          rotate_left 1
          · (intro W hSW; (try dsimp only at hSW); first | (go_simp; done) | (go_simp; with_reducible rfl))
          try simp only [Act.put, List.setIfInBounds_toArray, List.set_cons_zero, List.set_cons_succ]
          refine wpAnyH_take (i := 3) (oi := { dst := some 87, op := Op.load 30 (Operand.tmp 6), type := 30, pos := "law.go:211", after := #[{ on := 1, ground := Ground.guard }], guard := some (1, true) }) (v := ?_) rfl (by kernel_rfl) (by kernel_rfl) (by kernel_rfl) (fun _ _ _ h => h) (Or.inl ⟨by rfl, ?_⟩) (by assumption) ?_
          rotate_left 1
          · (intro W hSW; (try dsimp only at hSW); first | (go_simp; done) | (go_simp; with_reducible rfl))
          try simp only [Act.put, List.setIfInBounds_toArray, List.set_cons_zero, List.set_cons_succ]
          refine wpAnyH_take (i := 4) (oi := { dst := some 88, op := Op.move (Operand.tmp 14), type := 57, pos := "law.go:211", after := #[{ on := 1, ground := Ground.guard }], guard := some (1, true) }) (v := ?_) rfl (by kernel_rfl) (by kernel_rfl) (by kernel_rfl) (fun _ _ _ h => h) (Or.inl ⟨by rfl, ?_⟩) (by assumption) ?_
          rotate_left 1
          · (intro W hSW; (try dsimp only at hSW); first | (go_simp; done) | (go_simp; with_reducible rfl))
          try simp only [Act.put, List.setIfInBounds_toArray, List.set_cons_zero, List.set_cons_succ]
          refine wpAnyH_ready (rs := [5]) (by kernel_rfl) (by simp) ?_
          refine (AllReadyH.cons (o := { dst := some 89, op := Op.call { callee := Callee.value (Operand.func 45), args := #[Operand.tmp 86, Operand.tmp 87, Operand.tmp 88], argTypes := #[27, 30, 57] }, type := 4, pos := "law.go:211", after := #[{ on := 2, ground := Ground.data }, { on := 3, ground := Ground.data }, { on := 4, ground := Ground.data }, { on := 1, ground := Ground.chain }, { on := 1, ground := Ground.guard }], guard := some (1, true) }) rfl (fun K hK => ?_) AllReadyH.nil)
          rw [if_pos (by rfl)]
          go_simp
          go_at_call 45
          refine (HVA.out _ X ax cx (HG.out.trans (hdr)) (HMX.out.grown (hdr)) HGX.out.1 HGX.out.2.2.2.1 HGX.out.2.2.1).mono ?_
          rintro e wc1 ⟨rfl, gc1⟩
          have hgr1 := World.grownBy.trans hdr gc1
          go_wp2_with fail
          refine hK.out _ _ (HS.out _ hgr1) (fun hHeld => ?_)
          clear hK K
          try simp only [Act.put, List.setIfInBounds_toArray, List.set_cons_zero, List.set_cons_succ]
          refine wpAnyH_take (i := 6) (oi := { dst := some 90, op := Op.pick (Operand.tmp 85) (Operand.tmp 89) (Operand.const (Value.bool false)), type := 4, pos := "law.go:211", after := #[{ on := 1, ground := Ground.data }, { on := 5, ground := Ground.data }], guard := none }) (v := ?_) rfl (by kernel_rfl) (by kernel_rfl) (by kernel_rfl) (fun _ _ _ h => h) (Or.inl ⟨by rfl, ?_⟩) (by assumption) ?_
          rotate_left 1
          · (intro W hSW; (try dsimp only at hSW); first | (go_simp; done) | (go_simp; with_reducible rfl))
          try simp only [Act.put, List.setIfInBounds_toArray, List.set_cons_zero, List.set_cons_succ]
          refine wpAnyH_take (i := 7) (oi := { dst := some 91, op := Op.move (Operand.tmp 90), type := 4, pos := "law.go:211", after := #[{ on := 6, ground := Ground.data }, { on := 5, ground := Ground.chain }], guard := none }) (v := ?_) rfl (by kernel_rfl) (by kernel_rfl) (by kernel_rfl) (fun _ _ _ h => h) (Or.inl ⟨by rfl, ?_⟩) (by assumption) ?_
          rotate_left 1
          · (intro W hSW; (try dsimp only at hSW); first | (go_simp; done) | (go_simp; with_reducible rfl))
          try simp only [Act.put, List.setIfInBounds_toArray, List.set_cons_zero, List.set_cons_succ]
          refine wpAnyH_take (i := 8) (oi := { dst := some 92, op := Op.move (Operand.tmp 14), type := 57, pos := "law.go:211", after := #[{ on := 7, ground := Ground.guard }], guard := some (7, true) }) (v := ?_) rfl (by kernel_rfl) (by kernel_rfl) (by kernel_rfl) (fun _ _ _ h => h) (Or.inl ⟨by rfl, ?_⟩) (by assumption) ?_
          rotate_left 1
          · (intro W hSW; (try dsimp only at hSW); first | (go_simp; done) | (go_simp; with_reducible rfl))
          try simp only [Act.put, List.setIfInBounds_toArray, List.set_cons_zero, List.set_cons_succ]
          refine wpAnyH_take (i := 9) (oi := { dst := some 93, op := Op.load 33 (Operand.tmp 18), type := 33, pos := "law.go:211", after := #[{ on := 7, ground := Ground.guard }], guard := some (7, true) }) (v := ?_) rfl (by kernel_rfl) (by kernel_rfl) (by kernel_rfl) (fun _ _ _ h => h) (Or.inl ⟨by rfl, ?_⟩) (by assumption) ?_
          rotate_left 1
          · (intro W hSW; (try dsimp only at hSW); first | (go_simp; done) | (go_simp; with_reducible rfl))
          try simp only [Act.put, List.setIfInBounds_toArray, List.set_cons_zero, List.set_cons_succ]
          refine wpAnyH_take (i := 11) (oi := { dst := some 95, op := Op.move (Operand.tmp 13), type := 57, pos := "law.go:211", after := #[{ on := 7, ground := Ground.guard }], guard := some (7, true) }) (v := ?_) rfl (by kernel_rfl) (by kernel_rfl) (by kernel_rfl) (fun _ _ _ h => h) (Or.inl ⟨by rfl, ?_⟩) (by assumption) ?_
          rotate_left 1
          · (intro W hSW; (try dsimp only at hSW); first | (go_simp; done) | (go_simp; with_reducible rfl))
          try simp only [Act.put, List.setIfInBounds_toArray, List.set_cons_zero, List.set_cons_succ]
          refine wpAnyH_take (i := 12) (oi := { dst := some 96, op := Op.load 33 (Operand.tmp 18), type := 33, pos := "law.go:211", after := #[{ on := 7, ground := Ground.guard }], guard := some (7, true) }) (v := ?_) rfl (by kernel_rfl) (by kernel_rfl) (by kernel_rfl) (fun _ _ _ h => h) (Or.inl ⟨by rfl, ?_⟩) (by assumption) ?_
          rotate_left 1
          · (intro W hSW; (try dsimp only at hSW); first | (go_simp; done) | (go_simp; with_reducible rfl))
          try simp only [Act.put, List.setIfInBounds_toArray, List.set_cons_zero, List.set_cons_succ]
          refine wpAnyH_ready (rs := [10]) (by kernel_rfl) (by simp) ?_
          refine (AllReadyH.cons (o := { dst := some 94, op := Op.call { callee := Callee.value (Operand.func 51), args := #[Operand.tmp 92, Operand.tmp 93], argTypes := #[57, 33] }, type := 4, pos := "law.go:211", after := #[{ on := 8, ground := Ground.data }, { on := 9, ground := Ground.data }, { on := 7, ground := Ground.chain }, { on := 7, ground := Ground.guard }], guard := some (7, true) }) rfl (fun K hK => ?_) AllReadyH.nil)
          rw [if_pos (by rfl)]
          go_simp
          go_at_call 51
          refine (containsM (HMX.out.grown (hgr1)) HGX.out.2.2.1 HGX.out.2.2.2.2 HGX.out.2.2.2.1 (HMM.out.grown (hgr1)) (insS_rows HA.out.2.1) HWM.out).mono ?_
          rintro e wc2 ⟨rfl, gc2⟩
          have hgr2 := World.grownBy.trans hgr1 gc2
          go_wp2_with fail
          refine hK.out _ _ (HS.out _ hgr2) (fun hHeld => ?_)
          clear hK K
          try simp only [Act.put, List.setIfInBounds_toArray, List.set_cons_zero, List.set_cons_succ]
          refine wpAnyH_ready (rs := [13]) (by kernel_rfl) (by simp) ?_
          refine (AllReadyH.cons (o := { dst := some 97, op := Op.call { callee := Callee.value (Operand.func 51), args := #[Operand.tmp 95, Operand.tmp 96], argTypes := #[57, 33] }, type := 4, pos := "law.go:211", after := #[{ on := 11, ground := Ground.data }, { on := 12, ground := Ground.data }, { on := 10, ground := Ground.chain }, { on := 7, ground := Ground.guard }], guard := some (7, true) }) rfl (fun K hK => ?_) AllReadyH.nil)
          rw [if_pos (by rfl)]
          go_simp
          go_at_call 51
          refine (containsM (HMB.out.grown (hgr2)) HBB.out.2.2 hn6 HBB.out.2.1 (HMM.out.grown (hgr2)) (insS_rows HA.out.2.1) HQ2.out).mono ?_
          rintro e wc3 ⟨rfl, gc3⟩
          have hgr3 := World.grownBy.trans hgr2 gc3
          go_wp2_with fail
          refine hK.out _ _ (HS.out _ hgr3) (fun hHeld => ?_)
          clear hK K
          try simp only [Act.put, List.setIfInBounds_toArray, List.set_cons_zero, List.set_cons_succ]
          refine wpAnyH_take (i := 14) (oi := { dst := some 98, op := Op.binOp BinOp.eql 4 (Operand.tmp 94) (Operand.tmp 97) 4, type := 4, pos := "law.go:211", after := #[{ on := 10, ground := Ground.data }, { on := 13, ground := Ground.data }, { on := 7, ground := Ground.guard }], guard := some (7, true) }) (v := ?_) rfl (by kernel_rfl) (by kernel_rfl) (by kernel_rfl) (fun _ _ _ h => h) (Or.inl ⟨by rfl, ?_⟩) (by assumption) ?_
          rotate_left 1
          · (intro W hSW; (try dsimp only at hSW); first | (go_simp; done) | (go_simp; with_reducible rfl))
          try simp only [Act.put, List.setIfInBounds_toArray, List.set_cons_zero, List.set_cons_succ]
          refine wpAnyH_take (i := 15) (oi := { dst := some 99, op := Op.pick (Operand.tmp 91) (Operand.tmp 98) (Operand.const (Value.bool false)), type := 4, pos := "law.go:211", after := #[{ on := 7, ground := Ground.data }, { on := 14, ground := Ground.data }], guard := none }) (v := ?_) rfl (by kernel_rfl) (by kernel_rfl) (by kernel_rfl) (fun _ _ _ h => h) (Or.inl ⟨by rfl, ?_⟩) (by assumption) ?_
          rotate_left 1
          · (intro W hSW; (try dsimp only at hSW); first | (go_simp; done) | (go_simp; with_reducible rfl))
          try simp only [Act.put, List.setIfInBounds_toArray, List.set_cons_zero, List.set_cons_succ]
          refine wpAnyH_take (i := 16) (oi := { dst := some 10, op := Op.assign (Operand.tmp 99), type := 4, pos := "law.go:211", after := #[{ on := 15, ground := Ground.data }, { on := 13, ground := Ground.chain }, { on := 0, ground := Ground.phase }, { on := 1, ground := Ground.phase }, { on := 2, ground := Ground.phase }, { on := 3, ground := Ground.phase }, { on := 4, ground := Ground.phase }, { on := 5, ground := Ground.phase }, { on := 6, ground := Ground.phase }, { on := 7, ground := Ground.phase }, { on := 8, ground := Ground.phase }, { on := 9, ground := Ground.phase }, { on := 10, ground := Ground.phase }, { on := 11, ground := Ground.phase }, { on := 12, ground := Ground.phase }, { on := 13, ground := Ground.phase }, { on := 14, ground := Ground.phase }, { on := 15, ground := Ground.phase }], guard := none }) (v := ?_) rfl (by kernel_rfl) (by kernel_rfl) (by kernel_rfl) (fun _ _ _ h => h) (Or.inl ⟨by rfl, ?_⟩) (by assumption) ?_
          rotate_left 1
          · (intro W hSW; (try dsimp only at hSW); first | (go_simp; done) | (go_simp; with_reducible rfl))
          try simp only [Act.put, List.setIfInBounds_toArray, List.set_cons_zero, List.set_cons_succ]
          refine wpAnyH_done (by kernel_rfl) ?_ _
          have hEND := hgr3
          clear hHeld
          go_wp2_with fail
          go_ret
          exact ⟨rfl, HG.out.trans hEND⟩
        · obtain ⟨wq, hwq⟩ : ∃ wq, wq = v22 := ⟨_, rfl⟩
          subst hwq
          have hbx := HB.out
          obtain ⟨a0, a1, a2, a3, b0, b1⟩ := hbx
          have hbm := HMM.out
          obtain ⟨m0, m1, m2, m3, _⟩ := hbm
          have HS := Lib.hid (fun (Wh : World) (hWh : wq.grownBy Wh none) => (⟨hWh, hWh.cell a0 (by simp), hWh.cell a1 (by simp), hWh.cell a2 (by simp), hWh.cell a3 (by simp), hWh.cell b0 (by simp), hWh.cell b1 (by simp), hWh.cell m0 (by simp), hWh.cell m1 (by simp), hWh.cell m2 (by simp), hWh.cell m3 (by simp)⟩ : (fun Wh : World => wq.grownBy Wh none ∧ Wh.cell? ⟨g0, 0, none⟩ = some (.slice s1 ns c1) ∧ Wh.cell? ⟨g0, 1, none⟩ = some (.slice fa f fc) ∧ Wh.cell? ⟨g0, 2, none⟩ = some (.slice s3 n3 q3) ∧ Wh.cell? ⟨g0, 3, none⟩ = some (.slice s4 n4 q4) ∧ Wh.cell? ⟨g0 + 1, 0, none⟩ = some (.slice sa n sc) ∧ Wh.cell? ⟨g0 + 1, 1, none⟩ = some (.int .i64 st) ∧ Wh.cell? ⟨gB, 0, none⟩ = some (.slice sa n sc) ∧ Wh.cell? ⟨gB, 1, none⟩ = some (.int .i64 st) ∧ Wh.cell? ⟨gB, 2, none⟩ = some (.slice (some ⟨gS, 0, none⟩) 1 1) ∧ Wh.cell? ⟨gB, 3, none⟩ = some (.int .i64 0)) Wh))
          clear a0 a1 a2 a3 b0 b1 m0 m1 m2 m3
          have hdr : wq.grownBy wq.drew none := ⟨rfl, rfl, rfl, Nat.le_refl _, fun _ _ _ => rfl⟩
          refine wp_region_held_drew (S := (fun Wh : World => wq.grownBy Wh none ∧ Wh.cell? ⟨g0, 0, none⟩ = some (.slice s1 ns c1) ∧ Wh.cell? ⟨g0, 1, none⟩ = some (.slice fa f fc) ∧ Wh.cell? ⟨g0, 2, none⟩ = some (.slice s3 n3 q3) ∧ Wh.cell? ⟨g0, 3, none⟩ = some (.slice s4 n4 q4) ∧ Wh.cell? ⟨g0 + 1, 0, none⟩ = some (.slice sa n sc) ∧ Wh.cell? ⟨g0 + 1, 1, none⟩ = some (.int .i64 st) ∧ Wh.cell? ⟨gB, 0, none⟩ = some (.slice sa n sc) ∧ Wh.cell? ⟨gB, 1, none⟩ = some (.int .i64 st) ∧ Wh.cell? ⟨gB, 2, none⟩ = some (.slice (some ⟨gS, 0, none⟩) 1 1) ∧ Wh.cell? ⟨gB, 3, none⟩ = some (.int .i64 0))) (by kernel_rfl) (HS.out _ hdr) (fun hHeld => ?_)
          refine wpAnyH_take (i := 0) (oi := { dst := some 84, op := Op.move (Operand.tmp 11), type := 4, pos := "law.go:211", after := #[], guard := none }) (v := ?_) rfl (by kernel_rfl) (by kernel_rfl) (by kernel_rfl) (fun _ _ _ h => h) (Or.inl ⟨by rfl, ?_⟩) (by assumption) ?_
          rotate_left 1
          · (intro W hSW; (try dsimp only at hSW); first | (go_simp; done) | (go_simp; with_reducible rfl))
          try simp only [Act.put, List.setIfInBounds_toArray, List.set_cons_zero, List.set_cons_succ]
          refine wpAnyH_take (i := 1) (oi := { dst := some 85, op := Op.move (Operand.tmp 84), type := 4, pos := "law.go:211", after := #[{ on := 0, ground := Ground.data }], guard := none }) (v := ?_) rfl (by kernel_rfl) (by kernel_rfl) (by kernel_rfl) (fun _ _ _ h => h) (Or.inl ⟨by rfl, ?_⟩) (by assumption) ?_
          rotate_left 1
          · (intro W hSW; (try dsimp only at hSW); first | (go_simp; done) | (go_simp; with_reducible rfl))
          try simp only [Act.put, List.setIfInBounds_toArray, List.set_cons_zero, List.set_cons_succ]
          refine wpAnyH_take (i := 2) (oi := { dst := some 86, op := Op.load 27 (Operand.tmp 5), type := 27, pos := "law.go:211", after := #[{ on := 1, ground := Ground.guard }], guard := some (1, true) }) (v := ?_) rfl (by kernel_rfl) (by kernel_rfl) (by kernel_rfl) (fun _ _ _ h => h) (Or.inl ⟨by rfl, ?_⟩) (by assumption) ?_
          rotate_left 1
          · (intro W hSW; (try dsimp only at hSW); first | (go_simp; done) | (go_simp; with_reducible rfl))
          try simp only [Act.put, List.setIfInBounds_toArray, List.set_cons_zero, List.set_cons_succ]
          refine wpAnyH_take (i := 3) (oi := { dst := some 87, op := Op.load 30 (Operand.tmp 6), type := 30, pos := "law.go:211", after := #[{ on := 1, ground := Ground.guard }], guard := some (1, true) }) (v := ?_) rfl (by kernel_rfl) (by kernel_rfl) (by kernel_rfl) (fun _ _ _ h => h) (Or.inl ⟨by rfl, ?_⟩) (by assumption) ?_
          rotate_left 1
          · (intro W hSW; (try dsimp only at hSW); first | (go_simp; done) | (go_simp; with_reducible rfl))
          try simp only [Act.put, List.setIfInBounds_toArray, List.set_cons_zero, List.set_cons_succ]
          refine wpAnyH_take (i := 4) (oi := { dst := some 88, op := Op.move (Operand.tmp 14), type := 57, pos := "law.go:211", after := #[{ on := 1, ground := Ground.guard }], guard := some (1, true) }) (v := ?_) rfl (by kernel_rfl) (by kernel_rfl) (by kernel_rfl) (fun _ _ _ h => h) (Or.inl ⟨by rfl, ?_⟩) (by assumption) ?_
          rotate_left 1
          · (intro W hSW; (try dsimp only at hSW); first | (go_simp; done) | (go_simp; with_reducible rfl))
          try simp only [Act.put, List.setIfInBounds_toArray, List.set_cons_zero, List.set_cons_succ]
          refine wpAnyH_ready (rs := [5]) (by kernel_rfl) (by simp) ?_
          refine (AllReadyH.cons (o := { dst := some 89, op := Op.call { callee := Callee.value (Operand.func 45), args := #[Operand.tmp 86, Operand.tmp 87, Operand.tmp 88], argTypes := #[27, 30, 57] }, type := 4, pos := "law.go:211", after := #[{ on := 2, ground := Ground.data }, { on := 3, ground := Ground.data }, { on := 4, ground := Ground.data }, { on := 1, ground := Ground.chain }, { on := 1, ground := Ground.guard }], guard := some (1, true) }) rfl (fun K hK => ?_) AllReadyH.nil)
          rw [if_pos (by rfl)]
          go_simp
          go_at_call 45
          refine (HVA.out _ X ax cx (HG.out.trans (hdr)) (HMX.out.grown (hdr)) HGX.out.1 HGX.out.2.2.2.1 HGX.out.2.2.1).mono ?_
          rintro e wc1 ⟨rfl, gc1⟩
          have hgr1 := World.grownBy.trans hdr gc1
          go_wp2_with fail
          refine hK.out _ _ (HS.out _ hgr1) (fun hHeld => ?_)
          clear hK K
          try simp only [Act.put, List.setIfInBounds_toArray, List.set_cons_zero, List.set_cons_succ]
          refine wpAnyH_take (i := 6) (oi := { dst := some 90, op := Op.pick (Operand.tmp 85) (Operand.tmp 89) (Operand.const (Value.bool false)), type := 4, pos := "law.go:211", after := #[{ on := 1, ground := Ground.data }, { on := 5, ground := Ground.data }], guard := none }) (v := ?_) rfl (by kernel_rfl) (by kernel_rfl) (by kernel_rfl) (fun _ _ _ h => h) (Or.inl ⟨by rfl, ?_⟩) (by assumption) ?_
          rotate_left 1
          · (intro W hSW; (try dsimp only at hSW); first | (go_simp; done) | (go_simp; with_reducible rfl))
          try simp only [Act.put, List.setIfInBounds_toArray, List.set_cons_zero, List.set_cons_succ]
          refine wpAnyH_take (i := 7) (oi := { dst := some 91, op := Op.move (Operand.tmp 90), type := 4, pos := "law.go:211", after := #[{ on := 6, ground := Ground.data }, { on := 5, ground := Ground.chain }], guard := none }) (v := ?_) rfl (by kernel_rfl) (by kernel_rfl) (by kernel_rfl) (fun _ _ _ h => h) (Or.inl ⟨by rfl, ?_⟩) (by assumption) ?_
          rotate_left 1
          · (intro W hSW; (try dsimp only at hSW); first | (go_simp; done) | (go_simp; with_reducible rfl))
          try simp only [Act.put, List.setIfInBounds_toArray, List.set_cons_zero, List.set_cons_succ]
          refine wpAnyH_take (i := 8) (oi := { dst := some 92, op := Op.move (Operand.tmp 14), type := 57, pos := "law.go:211", after := #[{ on := 7, ground := Ground.guard }], guard := some (7, true) }) (v := ?_) rfl (by kernel_rfl) (by kernel_rfl) (by kernel_rfl) (fun _ _ _ h => h) (Or.inl ⟨by rfl, ?_⟩) (by assumption) ?_
          rotate_left 1
          · (intro W hSW; (try dsimp only at hSW); first | (go_simp; done) | (go_simp; with_reducible rfl))
          try simp only [Act.put, List.setIfInBounds_toArray, List.set_cons_zero, List.set_cons_succ]
          refine wpAnyH_take (i := 9) (oi := { dst := some 93, op := Op.load 33 (Operand.tmp 18), type := 33, pos := "law.go:211", after := #[{ on := 7, ground := Ground.guard }], guard := some (7, true) }) (v := ?_) rfl (by kernel_rfl) (by kernel_rfl) (by kernel_rfl) (fun _ _ _ h => h) (Or.inl ⟨by rfl, ?_⟩) (by assumption) ?_
          rotate_left 1
          · (intro W hSW; (try dsimp only at hSW); first | (go_simp; done) | (go_simp; with_reducible rfl))
          try simp only [Act.put, List.setIfInBounds_toArray, List.set_cons_zero, List.set_cons_succ]
          refine wpAnyH_take (i := 11) (oi := { dst := some 95, op := Op.move (Operand.tmp 13), type := 57, pos := "law.go:211", after := #[{ on := 7, ground := Ground.guard }], guard := some (7, true) }) (v := ?_) rfl (by kernel_rfl) (by kernel_rfl) (by kernel_rfl) (fun _ _ _ h => h) (Or.inl ⟨by rfl, ?_⟩) (by assumption) ?_
          rotate_left 1
          · (intro W hSW; (try dsimp only at hSW); first | (go_simp; done) | (go_simp; with_reducible rfl))
          try simp only [Act.put, List.setIfInBounds_toArray, List.set_cons_zero, List.set_cons_succ]
          refine wpAnyH_take (i := 12) (oi := { dst := some 96, op := Op.load 33 (Operand.tmp 18), type := 33, pos := "law.go:211", after := #[{ on := 7, ground := Ground.guard }], guard := some (7, true) }) (v := ?_) rfl (by kernel_rfl) (by kernel_rfl) (by kernel_rfl) (fun _ _ _ h => h) (Or.inl ⟨by rfl, ?_⟩) (by assumption) ?_
          rotate_left 1
          · (intro W hSW; (try dsimp only at hSW); first | (go_simp; done) | (go_simp; with_reducible rfl))
          try simp only [Act.put, List.setIfInBounds_toArray, List.set_cons_zero, List.set_cons_succ]
          refine wpAnyH_ready (rs := [10]) (by kernel_rfl) (by simp) ?_
          refine (AllReadyH.cons (o := { dst := some 94, op := Op.call { callee := Callee.value (Operand.func 51), args := #[Operand.tmp 92, Operand.tmp 93], argTypes := #[57, 33] }, type := 4, pos := "law.go:211", after := #[{ on := 8, ground := Ground.data }, { on := 9, ground := Ground.data }, { on := 7, ground := Ground.chain }, { on := 7, ground := Ground.guard }], guard := some (7, true) }) rfl (fun K hK => ?_) AllReadyH.nil)
          rw [if_pos (by rfl)]
          go_simp
          go_at_call 51
          refine (containsM (HMX.out.grown (hgr1)) HGX.out.2.2.1 HGX.out.2.2.2.2 HGX.out.2.2.2.1 (HMM.out.grown (hgr1)) (insS_rows HA.out.2.1) HWM.out).mono ?_
          rintro e wc2 ⟨rfl, gc2⟩
          have hgr2 := World.grownBy.trans hgr1 gc2
          go_wp2_with fail
          refine hK.out _ _ (HS.out _ hgr2) (fun hHeld => ?_)
          clear hK K
          try simp only [Act.put, List.setIfInBounds_toArray, List.set_cons_zero, List.set_cons_succ]
          refine wpAnyH_ready (rs := [13]) (by kernel_rfl) (by simp) ?_
          refine (AllReadyH.cons (o := { dst := some 97, op := Op.call { callee := Callee.value (Operand.func 51), args := #[Operand.tmp 95, Operand.tmp 96], argTypes := #[57, 33] }, type := 4, pos := "law.go:211", after := #[{ on := 11, ground := Ground.data }, { on := 12, ground := Ground.data }, { on := 10, ground := Ground.chain }, { on := 7, ground := Ground.guard }], guard := some (7, true) }) rfl (fun K hK => ?_) AllReadyH.nil)
          rw [if_pos (by rfl)]
          go_simp
          go_at_call 51
          refine (containsM (HMB.out.grown (hgr2)) HBB.out.2.2 hn6 HBB.out.2.1 (HMM.out.grown (hgr2)) (insS_rows HA.out.2.1) HQ2.out).mono ?_
          rintro e wc3 ⟨rfl, gc3⟩
          have hgr3 := World.grownBy.trans hgr2 gc3
          go_wp2_with fail
          refine hK.out _ _ (HS.out _ hgr3) (fun hHeld => ?_)
          clear hK K
          try simp only [Act.put, List.setIfInBounds_toArray, List.set_cons_zero, List.set_cons_succ]
          refine wpAnyH_take (i := 14) (oi := { dst := some 98, op := Op.binOp BinOp.eql 4 (Operand.tmp 94) (Operand.tmp 97) 4, type := 4, pos := "law.go:211", after := #[{ on := 10, ground := Ground.data }, { on := 13, ground := Ground.data }, { on := 7, ground := Ground.guard }], guard := some (7, true) }) (v := ?_) rfl (by kernel_rfl) (by kernel_rfl) (by kernel_rfl) (fun _ _ _ h => h) (Or.inl ⟨by rfl, ?_⟩) (by assumption) ?_
          rotate_left 1
          · (intro W hSW; (try dsimp only at hSW); first | (go_simp; done) | (go_simp; with_reducible rfl))
          try simp only [Act.put, List.setIfInBounds_toArray, List.set_cons_zero, List.set_cons_succ]
          refine wpAnyH_take (i := 15) (oi := { dst := some 99, op := Op.pick (Operand.tmp 91) (Operand.tmp 98) (Operand.const (Value.bool false)), type := 4, pos := "law.go:211", after := #[{ on := 7, ground := Ground.data }, { on := 14, ground := Ground.data }], guard := none }) (v := ?_) rfl (by kernel_rfl) (by kernel_rfl) (by kernel_rfl) (fun _ _ _ h => h) (Or.inl ⟨by rfl, ?_⟩) (by assumption) ?_
          rotate_left 1
          · (intro W hSW; (try dsimp only at hSW); first | (go_simp; done) | (go_simp; with_reducible rfl))
          try simp only [Act.put, List.setIfInBounds_toArray, List.set_cons_zero, List.set_cons_succ]
          refine wpAnyH_take (i := 16) (oi := { dst := some 10, op := Op.assign (Operand.tmp 99), type := 4, pos := "law.go:211", after := #[{ on := 15, ground := Ground.data }, { on := 13, ground := Ground.chain }, { on := 0, ground := Ground.phase }, { on := 1, ground := Ground.phase }, { on := 2, ground := Ground.phase }, { on := 3, ground := Ground.phase }, { on := 4, ground := Ground.phase }, { on := 5, ground := Ground.phase }, { on := 6, ground := Ground.phase }, { on := 7, ground := Ground.phase }, { on := 8, ground := Ground.phase }, { on := 9, ground := Ground.phase }, { on := 10, ground := Ground.phase }, { on := 11, ground := Ground.phase }, { on := 12, ground := Ground.phase }, { on := 13, ground := Ground.phase }, { on := 14, ground := Ground.phase }, { on := 15, ground := Ground.phase }], guard := none }) (v := ?_) rfl (by kernel_rfl) (by kernel_rfl) (by kernel_rfl) (fun _ _ _ h => h) (Or.inl ⟨by rfl, ?_⟩) (by assumption) ?_
          rotate_left 1
          · (intro W hSW; (try dsimp only at hSW); first | (go_simp; done) | (go_simp; with_reducible rfl))
          try simp only [Act.put, List.setIfInBounds_toArray, List.set_cons_zero, List.set_cons_succ]
          refine wpAnyH_done (by kernel_rfl) ?_ _
          have hEND := hgr3
          clear hHeld
          go_wp2_with fail
          go_ret
          exact ⟨rfl, HG.out.trans hEND⟩
      · subst hE
        subst hxf
        have HQF : Hid (Q2 = false) := Lib.hid (by rw [← HQ2.out]; exact within_none HA.out.1 HBB.out.1 (insS_up HA.out.1 pk0) (insS_in HA.out.1 pk0) hk)
        have hqf := HQF.out
        subst hqf
        clear hk hXz
        have hbm := HMM.out
        obtain ⟨m0, m1, m2, m3, _⟩ := hbm
        go_wp2_with fail
        clear m0 m1 m2 m3
        refine (containsM HMB.out HBB.out.2.2 hn6 HBB.out.2.1 HMM.out (insS_rows HA.out.2.1) HQ2.out).mono ?_
        rintro e v23 ⟨rfl, gh⟩
        replace HB := Lib.hid (HB.out.grown gh)
        replace HMA := Lib.hid (HMA.out.grown gh)
        replace HMB := Lib.hid (HMB.out.grown gh)
        replace HMX := Lib.hid (HMX.out.grown gh)
        replace HMY := Lib.hid (HMY.out.grown gh)
        replace HMM := Lib.hid (HMM.out.grown gh)
        replace HG := Lib.hid (HG.out.trans gh)
        clear gh
        go_wp2_with fail
        go_ret
        exact ⟨rfl, HG.out⟩
    · rw [if_pos (by rfl)]
      go_simp
      have hga := World.grownBy.trans hgr1 (World.grownBy_alloc (wc1) (.cells #[.slice none 0 0, .int .i64 0, .slice none 0 0, .int .i64 0] 33) none)
      have hkc := ZeroM.new (lo := wo.heap.size) (wc1) (World.grownBy.size hgr1)
      try (replace hsX := hsX.grown (World.grownBy_alloc (wc1) (.cells #[.slice none 0 0, .int .i64 0, .slice none 0 0, .int .i64 0] 33) none))
      try (replace hsb := hsb.grown (World.grownBy_alloc (wc1) (.cells #[.slice none 0 0, .int .i64 0, .slice none 0 0, .int .i64 0] 33) none))
      obtain ⟨WA, hWA⟩ : ∃ WA, World.alloc (wc1) (.cells #[.slice none 0 0, .int .i64 0, .slice none 0 0, .int .i64 0] 33) = WA := ⟨_, rfl⟩
      rw [hWA] at hga hkc ⊢
      try (rw [hWA] at hsX)
      try (rw [hWA] at hsb)
      clear hWA
      have hzA := hkc.lt
      have hzG := World.grownBy.size hga
      refine hK.out _ _ (HS.out _ hga) (fun hHeld => ?_)
      clear hK K
      try simp only [Act.put, List.setIfInBounds_toArray, List.set_cons_zero, List.set_cons_succ]
      refine wpAnyH_ready (rs := [4]) (by kernel_rfl) (by simp) ?_
      refine (AllReadyH.cons (o := { dst := some 49, op := Op.buildSlice 31 1 #[(0, Operand.tmp 48)], type := 31, pos := "law.go:204", after := #[{ on := 3, ground := Ground.data }], guard := none }) rfl (fun K hK => ?_) AllReadyH.nil)
      rw [if_pos (by rfl)]
      go_simp
      have hgc := World.grownBy.trans hga (World.grownBy_alloc WA (.cells #[.slice xa f xc] 40) none)
      have hsb := SlB.new WA (.slice xa f xc)
      replace hsX := hsX.grown (World.grownBy_alloc WA (.cells #[.slice xa f xc] 40) none)
      try (replace hkc := hkc.grown (World.grownBy_alloc WA (.cells #[.slice xa f xc] 40) none))
      try (have hzB := hkc.lt)
      have hzS := World.grownBy.size (World.grownBy_alloc WA (.cells #[.slice xa f xc] 40) none)
      obtain ⟨gS, hgS⟩ : ∃ g, (WA).heap.size = g := ⟨_, rfl⟩
      obtain ⟨WS, hWS⟩ : ∃ WS, World.alloc WA (.cells #[.slice xa f xc] 40) = WS := ⟨_, rfl⟩
      rw [hWS] at hgc hsX hsb hzS ⊢
      try (rw [hWS] at hkc)
      clear hWS
      rw [hgS] at hsb ⊢
      have hzT := hsb.2
      refine hK.out _ _ (HS.out _ hgc) (fun hHeld => ?_)
      clear hK K
      try simp only [Act.put, List.setIfInBounds_toArray, List.set_cons_zero, List.set_cons_succ]
      refine wpAnyH_take (i := 5) (oi := { dst := some 50, op := Op.build 33 #[(0, Operand.tmp 45), (1, Operand.tmp 49)], type := 33, pos := "law.go:204", after := #[{ on := 0, ground := Ground.data }, { on := 4, ground := Ground.data }], guard := none }) (v := ?_) rfl (by kernel_rfl) (by kernel_rfl) (by kernel_rfl) (fun _ _ _ h => h) (Or.inl ⟨by rfl, ?_⟩) (by assumption) ?_
      rotate_left 1
      · (intro W hSW; (try dsimp only at hSW); first | (go_simp; done) | (go_simp; with_reducible rfl))
      try simp only [Act.put, List.setIfInBounds_toArray, List.set_cons_zero, List.set_cons_succ]
      refine wpAnyH_ready (rs := [7]) (by kernel_rfl) (by simp) ?_
      refine (AllReadyH.cons (o := { dst := none, op := Op.store 33 (Operand.tmp 18) (Operand.tmp 50), type := 0, pos := "law.go:204", after := #[{ on := 6, ground := Ground.data }, { on := 5, ground := Ground.data }, { on := 3, ground := Ground.chain }, { on := 0, ground := Ground.phase }, { on := 1, ground := Ground.phase }, { on := 2, ground := Ground.phase }, { on := 3, ground := Ground.phase }, { on := 4, ground := Ground.phase }, { on := 5, ground := Ground.phase }, { on := 6, ground := Ground.phase }], guard := none }) rfl (fun K hK => ?_) AllReadyH.nil)
      rw [if_pos (by rfl)]
      have q0 := hkc.c0
      have q1 := hkc.c1
      have q2 := hkc.c2
      have q3 := hkc.c3
      have q4 := hkc.f0
      have q5 := hkc.f1
      have q6 := hkc.f2
      have q7 := hkc.f3
      go_simp
      clear q4 q5 q6 q7
      have hfs := four_set (.slice sa n sc) (.int .i64 st) (.slice (some ⟨gS, 0, none⟩) 1 1) (.int .i64 0) q0 q1 q2 q3
      clear q0 q1 q2 q3
      have hgs := grown_own hgc hfs.2.2.2.2 (fun k hk => by cases hk; exact hkc.ge)
      refine hK.out _ _ (HS.out _ hgs) (fun hHeld => ?_)
      clear hK K
      try simp only [Act.put, List.setIfInBounds_toArray, List.set_cons_zero, List.set_cons_succ]
      refine wpAnyH_done (by kernel_rfl) ?_ _
      have hEND := hgs
      clear hHeld
      have hdz : wo.drew.heap.size = wo.heap.size := rfl
      have hX2 := hsX.off hfs.2.2.2.2 (fun z e => by cases e; first | exact .inl (by omega) | exact .inr (by omega))
      have hXh := hX2.here
      have hne : gS ≠ wc1.heap.size := by omega
      have hsc := hfs.2.2.2.2.cell hsb.1 (by simp only [ne_eq, Option.some.injEq]; omega)
      obtain ⟨p0, p1, p2, p3, _⟩ := hfs
      obtain ⟨gB, hgB⟩ : ∃ gB, wc1.heap.size = gB := ⟨_, rfl⟩
      obtain ⟨X1, hX1⟩ : ∃ X, (World.setCell (World.setCell (World.setCell (World.setCell WS ⟨wc1.heap.size, 0, none⟩ (.slice sa n sc)) ⟨wc1.heap.size, 1, none⟩ (.int .i64 st)) ⟨wc1.heap.size, 2, none⟩ (.slice (some ⟨gS, 0, none⟩) 1 1)) ⟨wc1.heap.size, 3, none⟩ (.int .i64 0)) = X := ⟨_, rfl⟩
      rw [hX1] at p0 p1 p2 p3 hXh hsc hEND ⊢
      rw [hgB] at p0 p1 p2 p3 ⊢
      have HMM := Lib.hid (MdB.mk p0 p1 p2 p3 (sts_of_slb hsc hXh ((insS_len _ _).trans HA.out.2.2)))
      clear hdz hX2 hXh hne hsc p0 p1 p2 p3 hX1 hsX hgs hsb hkc hzA hzG hzU hzS hzT hHeld HS hgS
      try clear hzB
      try clear hgB
      replace HB := Lib.hid (HB.out.grown hEND)
      replace HMA := Lib.hid (HMA.out.grown hEND)
      replace HMB := Lib.hid (HMB.out.grown hEND)
      replace HMX := Lib.hid (HMX.out.grown hEND)
      replace HMY := Lib.hid (HMY.out.grown hEND)
      replace HG := Lib.hid (HG.out.trans hEND)
      clear hEND
      go_wp2_with fail
      refine (equalG HMX.out HMY.out HX.out.2.1 HX.out.2.1 HXX.out.2 HXX.out.1 HXX.out.1 (decide_eq_true rfl)).mono ?_
      rintro e v21 ⟨rfl, gh⟩
      replace HB := Lib.hid (HB.out.grown gh)
      replace HMA := Lib.hid (HMA.out.grown gh)
      replace HMB := Lib.hid (HMB.out.grown gh)
      replace HMX := Lib.hid (HMX.out.grown gh)
      replace HMY := Lib.hid (HMY.out.grown gh)
      replace HMM := Lib.hid (HMM.out.grown gh)
      replace HG := Lib.hid (HG.out.trans gh)
      clear gh
      have hbm := HMM.out
      obtain ⟨m0, m1, m2, m3, _⟩ := hbm
      go_wp2_with fail
      clear m0 m1 m2 m3
      refine (containsM HMA.out HA.out.2.2 hn6 HA.out.2.1 HMM.out (insS_rows HA.out.2.1) (insS_in HA.out.1 pk0)).mono ?_
      rintro e v22 ⟨rfl, gh⟩
      replace HB := Lib.hid (HB.out.grown gh)
      replace HMA := Lib.hid (HMA.out.grown gh)
      replace HMB := Lib.hid (HMB.out.grown gh)
      replace HMX := Lib.hid (HMX.out.grown gh)
      replace HMY := Lib.hid (HMY.out.grown gh)
      replace HMM := Lib.hid (HMM.out.grown gh)
      replace HG := Lib.hid (HG.out.trans gh)
      clear gh
      obtain ⟨Q2, hQ2⟩ : ∃ Q, allB withinB B (insS pk0 A) = Q := ⟨_, rfl⟩
      have HQ2 := Lib.hid hQ2
      clear hQ2
      rcases HX.out.2.2 with ⟨hE, hk, hXz, hgx, hxf⟩ | ⟨hE, hk, hXz, hxf⟩
      · subst hE
        have HGX := Lib.hid (And.intro hgx (And.intro hXz (And.intro HX.out.2.1 HXX.out)))
        have hfx := hxf.symm
        subst hfx
        have HWM : Hid (allB withinB X (insS pk0 A) = Q2) := Lib.hid (by rw [hXz, within_meetL HA.out.1 HBB.out.1 (insS_up HA.out.1 pk0) (insS_in HA.out.1 pk0)]; exact HQ2.out)
        clear hk hXz hgx hxf
        go_wp2_with fail
        cases Q2
        · obtain ⟨wq, hwq⟩ : ∃ wq, wq = v22 := ⟨_, rfl⟩
          subst hwq
          have hbx := HB.out
          obtain ⟨a0, a1, a2, a3, b0, b1⟩ := hbx
          have hbm := HMM.out
          obtain ⟨m0, m1, m2, m3, _⟩ := hbm
          have HS := Lib.hid (fun (Wh : World) (hWh : wq.grownBy Wh none) => (⟨hWh, hWh.cell a0 (by simp), hWh.cell a1 (by simp), hWh.cell a2 (by simp), hWh.cell a3 (by simp), hWh.cell b0 (by simp), hWh.cell b1 (by simp), hWh.cell m0 (by simp), hWh.cell m1 (by simp), hWh.cell m2 (by simp), hWh.cell m3 (by simp)⟩ : (fun Wh : World => wq.grownBy Wh none ∧ Wh.cell? ⟨g0, 0, none⟩ = some (.slice s1 ns c1) ∧ Wh.cell? ⟨g0, 1, none⟩ = some (.slice fa f fc) ∧ Wh.cell? ⟨g0, 2, none⟩ = some (.slice s3 n3 q3) ∧ Wh.cell? ⟨g0, 3, none⟩ = some (.slice s4 n4 q4) ∧ Wh.cell? ⟨g0 + 1, 0, none⟩ = some (.slice sa n sc) ∧ Wh.cell? ⟨g0 + 1, 1, none⟩ = some (.int .i64 st) ∧ Wh.cell? ⟨gB, 0, none⟩ = some (.slice sa n sc) ∧ Wh.cell? ⟨gB, 1, none⟩ = some (.int .i64 st) ∧ Wh.cell? ⟨gB, 2, none⟩ = some (.slice (some ⟨gS, 0, none⟩) 1 1) ∧ Wh.cell? ⟨gB, 3, none⟩ = some (.int .i64 0)) Wh))
          clear a0 a1 a2 a3 b0 b1 m0 m1 m2 m3
          have hdr : wq.grownBy wq.drew none := ⟨rfl, rfl, rfl, Nat.le_refl _, fun _ _ _ => rfl⟩
          refine wp_region_held_drew (S := (fun Wh : World => wq.grownBy Wh none ∧ Wh.cell? ⟨g0, 0, none⟩ = some (.slice s1 ns c1) ∧ Wh.cell? ⟨g0, 1, none⟩ = some (.slice fa f fc) ∧ Wh.cell? ⟨g0, 2, none⟩ = some (.slice s3 n3 q3) ∧ Wh.cell? ⟨g0, 3, none⟩ = some (.slice s4 n4 q4) ∧ Wh.cell? ⟨g0 + 1, 0, none⟩ = some (.slice sa n sc) ∧ Wh.cell? ⟨g0 + 1, 1, none⟩ = some (.int .i64 st) ∧ Wh.cell? ⟨gB, 0, none⟩ = some (.slice sa n sc) ∧ Wh.cell? ⟨gB, 1, none⟩ = some (.int .i64 st) ∧ Wh.cell? ⟨gB, 2, none⟩ = some (.slice (some ⟨gS, 0, none⟩) 1 1) ∧ Wh.cell? ⟨gB, 3, none⟩ = some (.int .i64 0))) (by kernel_rfl) (HS.out _ hdr) (fun hHeld => ?_)
          refine wpAnyH_take (i := 0) (oi := { dst := some 84, op := Op.move (Operand.tmp 11), type := 4, pos := "law.go:211", after := #[], guard := none }) (v := ?_) rfl (by kernel_rfl) (by kernel_rfl) (by kernel_rfl) (fun _ _ _ h => h) (Or.inl ⟨by rfl, ?_⟩) (by assumption) ?_
          rotate_left 1
          · (intro W hSW; (try dsimp only at hSW); first | (go_simp; done) | (go_simp; with_reducible rfl))
          try simp only [Act.put, List.setIfInBounds_toArray, List.set_cons_zero, List.set_cons_succ]
          refine wpAnyH_take (i := 1) (oi := { dst := some 85, op := Op.move (Operand.tmp 84), type := 4, pos := "law.go:211", after := #[{ on := 0, ground := Ground.data }], guard := none }) (v := ?_) rfl (by kernel_rfl) (by kernel_rfl) (by kernel_rfl) (fun _ _ _ h => h) (Or.inl ⟨by rfl, ?_⟩) (by assumption) ?_
          rotate_left 1
          · (intro W hSW; (try dsimp only at hSW); first | (go_simp; done) | (go_simp; with_reducible rfl))
          try simp only [Act.put, List.setIfInBounds_toArray, List.set_cons_zero, List.set_cons_succ]
          refine wpAnyH_take (i := 2) (oi := { dst := some 86, op := Op.load 27 (Operand.tmp 5), type := 27, pos := "law.go:211", after := #[{ on := 1, ground := Ground.guard }], guard := some (1, true) }) (v := ?_) rfl (by kernel_rfl) (by kernel_rfl) (by kernel_rfl) (fun _ _ _ h => h) (Or.inl ⟨by rfl, ?_⟩) (by assumption) ?_
          rotate_left 1
          · (intro W hSW; (try dsimp only at hSW); first | (go_simp; done) | (go_simp; with_reducible rfl))
          try simp only [Act.put, List.setIfInBounds_toArray, List.set_cons_zero, List.set_cons_succ]
          refine wpAnyH_take (i := 3) (oi := { dst := some 87, op := Op.load 30 (Operand.tmp 6), type := 30, pos := "law.go:211", after := #[{ on := 1, ground := Ground.guard }], guard := some (1, true) }) (v := ?_) rfl (by kernel_rfl) (by kernel_rfl) (by kernel_rfl) (fun _ _ _ h => h) (Or.inl ⟨by rfl, ?_⟩) (by assumption) ?_
          rotate_left 1
          · (intro W hSW; (try dsimp only at hSW); first | (go_simp; done) | (go_simp; with_reducible rfl))
          try simp only [Act.put, List.setIfInBounds_toArray, List.set_cons_zero, List.set_cons_succ]
          refine wpAnyH_take (i := 4) (oi := { dst := some 88, op := Op.move (Operand.tmp 14), type := 57, pos := "law.go:211", after := #[{ on := 1, ground := Ground.guard }], guard := some (1, true) }) (v := ?_) rfl (by kernel_rfl) (by kernel_rfl) (by kernel_rfl) (fun _ _ _ h => h) (Or.inl ⟨by rfl, ?_⟩) (by assumption) ?_
          rotate_left 1
          · (intro W hSW; (try dsimp only at hSW); first | (go_simp; done) | (go_simp; with_reducible rfl))
          try simp only [Act.put, List.setIfInBounds_toArray, List.set_cons_zero, List.set_cons_succ]
          refine wpAnyH_ready (rs := [5]) (by kernel_rfl) (by simp) ?_
          refine (AllReadyH.cons (o := { dst := some 89, op := Op.call { callee := Callee.value (Operand.func 45), args := #[Operand.tmp 86, Operand.tmp 87, Operand.tmp 88], argTypes := #[27, 30, 57] }, type := 4, pos := "law.go:211", after := #[{ on := 2, ground := Ground.data }, { on := 3, ground := Ground.data }, { on := 4, ground := Ground.data }, { on := 1, ground := Ground.chain }, { on := 1, ground := Ground.guard }], guard := some (1, true) }) rfl (fun K hK => ?_) AllReadyH.nil)
          rw [if_pos (by rfl)]
          go_simp
          go_at_call 45
          refine (HVA.out _ X ax cx (HG.out.trans (hdr)) (HMX.out.grown (hdr)) HGX.out.1 HGX.out.2.2.2.1 HGX.out.2.2.1).mono ?_
          rintro e wc1 ⟨rfl, gc1⟩
          have hgr1 := World.grownBy.trans hdr gc1
          go_wp2_with fail
          refine hK.out _ _ (HS.out _ hgr1) (fun hHeld => ?_)
          clear hK K
          try simp only [Act.put, List.setIfInBounds_toArray, List.set_cons_zero, List.set_cons_succ]
          refine wpAnyH_take (i := 6) (oi := { dst := some 90, op := Op.pick (Operand.tmp 85) (Operand.tmp 89) (Operand.const (Value.bool false)), type := 4, pos := "law.go:211", after := #[{ on := 1, ground := Ground.data }, { on := 5, ground := Ground.data }], guard := none }) (v := ?_) rfl (by kernel_rfl) (by kernel_rfl) (by kernel_rfl) (fun _ _ _ h => h) (Or.inl ⟨by rfl, ?_⟩) (by assumption) ?_
          rotate_left 1
          · (intro W hSW; (try dsimp only at hSW); first | (go_simp; done) | (go_simp; with_reducible rfl))
          try simp only [Act.put, List.setIfInBounds_toArray, List.set_cons_zero, List.set_cons_succ]
          refine wpAnyH_take (i := 7) (oi := { dst := some 91, op := Op.move (Operand.tmp 90), type := 4, pos := "law.go:211", after := #[{ on := 6, ground := Ground.data }, { on := 5, ground := Ground.chain }], guard := none }) (v := ?_) rfl (by kernel_rfl) (by kernel_rfl) (by kernel_rfl) (fun _ _ _ h => h) (Or.inl ⟨by rfl, ?_⟩) (by assumption) ?_
          rotate_left 1
          · (intro W hSW; (try dsimp only at hSW); first | (go_simp; done) | (go_simp; with_reducible rfl))
          try simp only [Act.put, List.setIfInBounds_toArray, List.set_cons_zero, List.set_cons_succ]
          refine wpAnyH_take (i := 8) (oi := { dst := some 92, op := Op.move (Operand.tmp 14), type := 57, pos := "law.go:211", after := #[{ on := 7, ground := Ground.guard }], guard := some (7, true) }) (v := ?_) rfl (by kernel_rfl) (by kernel_rfl) (by kernel_rfl) (fun _ _ _ h => h) (Or.inl ⟨by rfl, ?_⟩) (by assumption) ?_
          rotate_left 1
          · (intro W hSW; (try dsimp only at hSW); first | (go_simp; done) | (go_simp; with_reducible rfl))
          try simp only [Act.put, List.setIfInBounds_toArray, List.set_cons_zero, List.set_cons_succ]
          refine wpAnyH_take (i := 9) (oi := { dst := some 93, op := Op.load 33 (Operand.tmp 18), type := 33, pos := "law.go:211", after := #[{ on := 7, ground := Ground.guard }], guard := some (7, true) }) (v := ?_) rfl (by kernel_rfl) (by kernel_rfl) (by kernel_rfl) (fun _ _ _ h => h) (Or.inl ⟨by rfl, ?_⟩) (by assumption) ?_
          rotate_left 1
          · (intro W hSW; (try dsimp only at hSW); first | (go_simp; done) | (go_simp; with_reducible rfl))
          try simp only [Act.put, List.setIfInBounds_toArray, List.set_cons_zero, List.set_cons_succ]
          refine wpAnyH_take (i := 11) (oi := { dst := some 95, op := Op.move (Operand.tmp 13), type := 57, pos := "law.go:211", after := #[{ on := 7, ground := Ground.guard }], guard := some (7, true) }) (v := ?_) rfl (by kernel_rfl) (by kernel_rfl) (by kernel_rfl) (fun _ _ _ h => h) (Or.inl ⟨by rfl, ?_⟩) (by assumption) ?_
          rotate_left 1
          · (intro W hSW; (try dsimp only at hSW); first | (go_simp; done) | (go_simp; with_reducible rfl))
          try simp only [Act.put, List.setIfInBounds_toArray, List.set_cons_zero, List.set_cons_succ]
          refine wpAnyH_take (i := 12) (oi := { dst := some 96, op := Op.load 33 (Operand.tmp 18), type := 33, pos := "law.go:211", after := #[{ on := 7, ground := Ground.guard }], guard := some (7, true) }) (v := ?_) rfl (by kernel_rfl) (by kernel_rfl) (by kernel_rfl) (fun _ _ _ h => h) (Or.inl ⟨by rfl, ?_⟩) (by assumption) ?_
          rotate_left 1
          · (intro W hSW; (try dsimp only at hSW); first | (go_simp; done) | (go_simp; with_reducible rfl))
          try simp only [Act.put, List.setIfInBounds_toArray, List.set_cons_zero, List.set_cons_succ]
          refine wpAnyH_ready (rs := [10]) (by kernel_rfl) (by simp) ?_
          refine (AllReadyH.cons (o := { dst := some 94, op := Op.call { callee := Callee.value (Operand.func 51), args := #[Operand.tmp 92, Operand.tmp 93], argTypes := #[57, 33] }, type := 4, pos := "law.go:211", after := #[{ on := 8, ground := Ground.data }, { on := 9, ground := Ground.data }, { on := 7, ground := Ground.chain }, { on := 7, ground := Ground.guard }], guard := some (7, true) }) rfl (fun K hK => ?_) AllReadyH.nil)
          rw [if_pos (by rfl)]
          go_simp
          go_at_call 51
          refine (containsM (HMX.out.grown (hgr1)) HGX.out.2.2.1 HGX.out.2.2.2.2 HGX.out.2.2.2.1 (HMM.out.grown (hgr1)) (insS_rows HA.out.2.1) HWM.out).mono ?_
          rintro e wc2 ⟨rfl, gc2⟩
          have hgr2 := World.grownBy.trans hgr1 gc2
          go_wp2_with fail
          refine hK.out _ _ (HS.out _ hgr2) (fun hHeld => ?_)
          clear hK K
          try simp only [Act.put, List.setIfInBounds_toArray, List.set_cons_zero, List.set_cons_succ]
          refine wpAnyH_ready (rs := [13]) (by kernel_rfl) (by simp) ?_
          refine (AllReadyH.cons (o := { dst := some 97, op := Op.call { callee := Callee.value (Operand.func 51), args := #[Operand.tmp 95, Operand.tmp 96], argTypes := #[57, 33] }, type := 4, pos := "law.go:211", after := #[{ on := 11, ground := Ground.data }, { on := 12, ground := Ground.data }, { on := 10, ground := Ground.chain }, { on := 7, ground := Ground.guard }], guard := some (7, true) }) rfl (fun K hK => ?_) AllReadyH.nil)
          rw [if_pos (by rfl)]
          go_simp
          go_at_call 51
          refine (containsM (HMB.out.grown (hgr2)) HBB.out.2.2 hn6 HBB.out.2.1 (HMM.out.grown (hgr2)) (insS_rows HA.out.2.1) HQ2.out).mono ?_
          rintro e wc3 ⟨rfl, gc3⟩
          have hgr3 := World.grownBy.trans hgr2 gc3
          go_wp2_with fail
          refine hK.out _ _ (HS.out _ hgr3) (fun hHeld => ?_)
          clear hK K
          try simp only [Act.put, List.setIfInBounds_toArray, List.set_cons_zero, List.set_cons_succ]
          refine wpAnyH_take (i := 14) (oi := { dst := some 98, op := Op.binOp BinOp.eql 4 (Operand.tmp 94) (Operand.tmp 97) 4, type := 4, pos := "law.go:211", after := #[{ on := 10, ground := Ground.data }, { on := 13, ground := Ground.data }, { on := 7, ground := Ground.guard }], guard := some (7, true) }) (v := ?_) rfl (by kernel_rfl) (by kernel_rfl) (by kernel_rfl) (fun _ _ _ h => h) (Or.inl ⟨by rfl, ?_⟩) (by assumption) ?_
          rotate_left 1
          · (intro W hSW; (try dsimp only at hSW); first | (go_simp; done) | (go_simp; with_reducible rfl))
          try simp only [Act.put, List.setIfInBounds_toArray, List.set_cons_zero, List.set_cons_succ]
          refine wpAnyH_take (i := 15) (oi := { dst := some 99, op := Op.pick (Operand.tmp 91) (Operand.tmp 98) (Operand.const (Value.bool false)), type := 4, pos := "law.go:211", after := #[{ on := 7, ground := Ground.data }, { on := 14, ground := Ground.data }], guard := none }) (v := ?_) rfl (by kernel_rfl) (by kernel_rfl) (by kernel_rfl) (fun _ _ _ h => h) (Or.inl ⟨by rfl, ?_⟩) (by assumption) ?_
          rotate_left 1
          · (intro W hSW; (try dsimp only at hSW); first | (go_simp; done) | (go_simp; with_reducible rfl))
          try simp only [Act.put, List.setIfInBounds_toArray, List.set_cons_zero, List.set_cons_succ]
          refine wpAnyH_take (i := 16) (oi := { dst := some 10, op := Op.assign (Operand.tmp 99), type := 4, pos := "law.go:211", after := #[{ on := 15, ground := Ground.data }, { on := 13, ground := Ground.chain }, { on := 0, ground := Ground.phase }, { on := 1, ground := Ground.phase }, { on := 2, ground := Ground.phase }, { on := 3, ground := Ground.phase }, { on := 4, ground := Ground.phase }, { on := 5, ground := Ground.phase }, { on := 6, ground := Ground.phase }, { on := 7, ground := Ground.phase }, { on := 8, ground := Ground.phase }, { on := 9, ground := Ground.phase }, { on := 10, ground := Ground.phase }, { on := 11, ground := Ground.phase }, { on := 12, ground := Ground.phase }, { on := 13, ground := Ground.phase }, { on := 14, ground := Ground.phase }, { on := 15, ground := Ground.phase }], guard := none }) (v := ?_) rfl (by kernel_rfl) (by kernel_rfl) (by kernel_rfl) (fun _ _ _ h => h) (Or.inl ⟨by rfl, ?_⟩) (by assumption) ?_
          rotate_left 1
          · (intro W hSW; (try dsimp only at hSW); first | (go_simp; done) | (go_simp; with_reducible rfl))
          try simp only [Act.put, List.setIfInBounds_toArray, List.set_cons_zero, List.set_cons_succ]
          refine wpAnyH_done (by kernel_rfl) ?_ _
          have hEND := hgr3
          clear hHeld
          go_wp2_with fail
          go_ret
          exact ⟨rfl, HG.out.trans hEND⟩
        · obtain ⟨wq, hwq⟩ : ∃ wq, wq = v22 := ⟨_, rfl⟩
          subst hwq
          have hbx := HB.out
          obtain ⟨a0, a1, a2, a3, b0, b1⟩ := hbx
          have hbm := HMM.out
          obtain ⟨m0, m1, m2, m3, _⟩ := hbm
          have HS := Lib.hid (fun (Wh : World) (hWh : wq.grownBy Wh none) => (⟨hWh, hWh.cell a0 (by simp), hWh.cell a1 (by simp), hWh.cell a2 (by simp), hWh.cell a3 (by simp), hWh.cell b0 (by simp), hWh.cell b1 (by simp), hWh.cell m0 (by simp), hWh.cell m1 (by simp), hWh.cell m2 (by simp), hWh.cell m3 (by simp)⟩ : (fun Wh : World => wq.grownBy Wh none ∧ Wh.cell? ⟨g0, 0, none⟩ = some (.slice s1 ns c1) ∧ Wh.cell? ⟨g0, 1, none⟩ = some (.slice fa f fc) ∧ Wh.cell? ⟨g0, 2, none⟩ = some (.slice s3 n3 q3) ∧ Wh.cell? ⟨g0, 3, none⟩ = some (.slice s4 n4 q4) ∧ Wh.cell? ⟨g0 + 1, 0, none⟩ = some (.slice sa n sc) ∧ Wh.cell? ⟨g0 + 1, 1, none⟩ = some (.int .i64 st) ∧ Wh.cell? ⟨gB, 0, none⟩ = some (.slice sa n sc) ∧ Wh.cell? ⟨gB, 1, none⟩ = some (.int .i64 st) ∧ Wh.cell? ⟨gB, 2, none⟩ = some (.slice (some ⟨gS, 0, none⟩) 1 1) ∧ Wh.cell? ⟨gB, 3, none⟩ = some (.int .i64 0)) Wh))
          clear a0 a1 a2 a3 b0 b1 m0 m1 m2 m3
          have hdr : wq.grownBy wq.drew none := ⟨rfl, rfl, rfl, Nat.le_refl _, fun _ _ _ => rfl⟩
          refine wp_region_held_drew (S := (fun Wh : World => wq.grownBy Wh none ∧ Wh.cell? ⟨g0, 0, none⟩ = some (.slice s1 ns c1) ∧ Wh.cell? ⟨g0, 1, none⟩ = some (.slice fa f fc) ∧ Wh.cell? ⟨g0, 2, none⟩ = some (.slice s3 n3 q3) ∧ Wh.cell? ⟨g0, 3, none⟩ = some (.slice s4 n4 q4) ∧ Wh.cell? ⟨g0 + 1, 0, none⟩ = some (.slice sa n sc) ∧ Wh.cell? ⟨g0 + 1, 1, none⟩ = some (.int .i64 st) ∧ Wh.cell? ⟨gB, 0, none⟩ = some (.slice sa n sc) ∧ Wh.cell? ⟨gB, 1, none⟩ = some (.int .i64 st) ∧ Wh.cell? ⟨gB, 2, none⟩ = some (.slice (some ⟨gS, 0, none⟩) 1 1) ∧ Wh.cell? ⟨gB, 3, none⟩ = some (.int .i64 0))) (by kernel_rfl) (HS.out _ hdr) (fun hHeld => ?_)
          refine wpAnyH_take (i := 0) (oi := { dst := some 84, op := Op.move (Operand.tmp 11), type := 4, pos := "law.go:211", after := #[], guard := none }) (v := ?_) rfl (by kernel_rfl) (by kernel_rfl) (by kernel_rfl) (fun _ _ _ h => h) (Or.inl ⟨by rfl, ?_⟩) (by assumption) ?_
          rotate_left 1
          · (intro W hSW; (try dsimp only at hSW); first | (go_simp; done) | (go_simp; with_reducible rfl))
          try simp only [Act.put, List.setIfInBounds_toArray, List.set_cons_zero, List.set_cons_succ]
          refine wpAnyH_take (i := 1) (oi := { dst := some 85, op := Op.move (Operand.tmp 84), type := 4, pos := "law.go:211", after := #[{ on := 0, ground := Ground.data }], guard := none }) (v := ?_) rfl (by kernel_rfl) (by kernel_rfl) (by kernel_rfl) (fun _ _ _ h => h) (Or.inl ⟨by rfl, ?_⟩) (by assumption) ?_
          rotate_left 1
          · (intro W hSW; (try dsimp only at hSW); first | (go_simp; done) | (go_simp; with_reducible rfl))
          try simp only [Act.put, List.setIfInBounds_toArray, List.set_cons_zero, List.set_cons_succ]
          refine wpAnyH_take (i := 2) (oi := { dst := some 86, op := Op.load 27 (Operand.tmp 5), type := 27, pos := "law.go:211", after := #[{ on := 1, ground := Ground.guard }], guard := some (1, true) }) (v := ?_) rfl (by kernel_rfl) (by kernel_rfl) (by kernel_rfl) (fun _ _ _ h => h) (Or.inl ⟨by rfl, ?_⟩) (by assumption) ?_
          rotate_left 1
          · (intro W hSW; (try dsimp only at hSW); first | (go_simp; done) | (go_simp; with_reducible rfl))
          try simp only [Act.put, List.setIfInBounds_toArray, List.set_cons_zero, List.set_cons_succ]
          refine wpAnyH_take (i := 3) (oi := { dst := some 87, op := Op.load 30 (Operand.tmp 6), type := 30, pos := "law.go:211", after := #[{ on := 1, ground := Ground.guard }], guard := some (1, true) }) (v := ?_) rfl (by kernel_rfl) (by kernel_rfl) (by kernel_rfl) (fun _ _ _ h => h) (Or.inl ⟨by rfl, ?_⟩) (by assumption) ?_
          rotate_left 1
          · (intro W hSW; (try dsimp only at hSW); first | (go_simp; done) | (go_simp; with_reducible rfl))
          try simp only [Act.put, List.setIfInBounds_toArray, List.set_cons_zero, List.set_cons_succ]
          refine wpAnyH_take (i := 4) (oi := { dst := some 88, op := Op.move (Operand.tmp 14), type := 57, pos := "law.go:211", after := #[{ on := 1, ground := Ground.guard }], guard := some (1, true) }) (v := ?_) rfl (by kernel_rfl) (by kernel_rfl) (by kernel_rfl) (fun _ _ _ h => h) (Or.inl ⟨by rfl, ?_⟩) (by assumption) ?_
          rotate_left 1
          · (intro W hSW; (try dsimp only at hSW); first | (go_simp; done) | (go_simp; with_reducible rfl))
          try simp only [Act.put, List.setIfInBounds_toArray, List.set_cons_zero, List.set_cons_succ]
          refine wpAnyH_ready (rs := [5]) (by kernel_rfl) (by simp) ?_
          refine (AllReadyH.cons (o := { dst := some 89, op := Op.call { callee := Callee.value (Operand.func 45), args := #[Operand.tmp 86, Operand.tmp 87, Operand.tmp 88], argTypes := #[27, 30, 57] }, type := 4, pos := "law.go:211", after := #[{ on := 2, ground := Ground.data }, { on := 3, ground := Ground.data }, { on := 4, ground := Ground.data }, { on := 1, ground := Ground.chain }, { on := 1, ground := Ground.guard }], guard := some (1, true) }) rfl (fun K hK => ?_) AllReadyH.nil)
          rw [if_pos (by rfl)]
          go_simp
          go_at_call 45
          refine (HVA.out _ X ax cx (HG.out.trans (hdr)) (HMX.out.grown (hdr)) HGX.out.1 HGX.out.2.2.2.1 HGX.out.2.2.1).mono ?_
          rintro e wc1 ⟨rfl, gc1⟩
          have hgr1 := World.grownBy.trans hdr gc1
          go_wp2_with fail
          refine hK.out _ _ (HS.out _ hgr1) (fun hHeld => ?_)
          clear hK K
          try simp only [Act.put, List.setIfInBounds_toArray, List.set_cons_zero, List.set_cons_succ]
          refine wpAnyH_take (i := 6) (oi := { dst := some 90, op := Op.pick (Operand.tmp 85) (Operand.tmp 89) (Operand.const (Value.bool false)), type := 4, pos := "law.go:211", after := #[{ on := 1, ground := Ground.data }, { on := 5, ground := Ground.data }], guard := none }) (v := ?_) rfl (by kernel_rfl) (by kernel_rfl) (by kernel_rfl) (fun _ _ _ h => h) (Or.inl ⟨by rfl, ?_⟩) (by assumption) ?_
          rotate_left 1
          · (intro W hSW; (try dsimp only at hSW); first | (go_simp; done) | (go_simp; with_reducible rfl))
          try simp only [Act.put, List.setIfInBounds_toArray, List.set_cons_zero, List.set_cons_succ]
          refine wpAnyH_take (i := 7) (oi := { dst := some 91, op := Op.move (Operand.tmp 90), type := 4, pos := "law.go:211", after := #[{ on := 6, ground := Ground.data }, { on := 5, ground := Ground.chain }], guard := none }) (v := ?_) rfl (by kernel_rfl) (by kernel_rfl) (by kernel_rfl) (fun _ _ _ h => h) (Or.inl ⟨by rfl, ?_⟩) (by assumption) ?_
          rotate_left 1
          · (intro W hSW; (try dsimp only at hSW); first | (go_simp; done) | (go_simp; with_reducible rfl))
          try simp only [Act.put, List.setIfInBounds_toArray, List.set_cons_zero, List.set_cons_succ]
          refine wpAnyH_take (i := 8) (oi := { dst := some 92, op := Op.move (Operand.tmp 14), type := 57, pos := "law.go:211", after := #[{ on := 7, ground := Ground.guard }], guard := some (7, true) }) (v := ?_) rfl (by kernel_rfl) (by kernel_rfl) (by kernel_rfl) (fun _ _ _ h => h) (Or.inl ⟨by rfl, ?_⟩) (by assumption) ?_
          rotate_left 1
          · (intro W hSW; (try dsimp only at hSW); first | (go_simp; done) | (go_simp; with_reducible rfl))
          try simp only [Act.put, List.setIfInBounds_toArray, List.set_cons_zero, List.set_cons_succ]
          refine wpAnyH_take (i := 9) (oi := { dst := some 93, op := Op.load 33 (Operand.tmp 18), type := 33, pos := "law.go:211", after := #[{ on := 7, ground := Ground.guard }], guard := some (7, true) }) (v := ?_) rfl (by kernel_rfl) (by kernel_rfl) (by kernel_rfl) (fun _ _ _ h => h) (Or.inl ⟨by rfl, ?_⟩) (by assumption) ?_
          rotate_left 1
          · (intro W hSW; (try dsimp only at hSW); first | (go_simp; done) | (go_simp; with_reducible rfl))
          try simp only [Act.put, List.setIfInBounds_toArray, List.set_cons_zero, List.set_cons_succ]
          refine wpAnyH_take (i := 11) (oi := { dst := some 95, op := Op.move (Operand.tmp 13), type := 57, pos := "law.go:211", after := #[{ on := 7, ground := Ground.guard }], guard := some (7, true) }) (v := ?_) rfl (by kernel_rfl) (by kernel_rfl) (by kernel_rfl) (fun _ _ _ h => h) (Or.inl ⟨by rfl, ?_⟩) (by assumption) ?_
          rotate_left 1
          · (intro W hSW; (try dsimp only at hSW); first | (go_simp; done) | (go_simp; with_reducible rfl))
          try simp only [Act.put, List.setIfInBounds_toArray, List.set_cons_zero, List.set_cons_succ]
          refine wpAnyH_take (i := 12) (oi := { dst := some 96, op := Op.load 33 (Operand.tmp 18), type := 33, pos := "law.go:211", after := #[{ on := 7, ground := Ground.guard }], guard := some (7, true) }) (v := ?_) rfl (by kernel_rfl) (by kernel_rfl) (by kernel_rfl) (fun _ _ _ h => h) (Or.inl ⟨by rfl, ?_⟩) (by assumption) ?_
          rotate_left 1
          · (intro W hSW; (try dsimp only at hSW); first | (go_simp; done) | (go_simp; with_reducible rfl))
          try simp only [Act.put, List.setIfInBounds_toArray, List.set_cons_zero, List.set_cons_succ]
          refine wpAnyH_ready (rs := [10]) (by kernel_rfl) (by simp) ?_
          refine (AllReadyH.cons (o := { dst := some 94, op := Op.call { callee := Callee.value (Operand.func 51), args := #[Operand.tmp 92, Operand.tmp 93], argTypes := #[57, 33] }, type := 4, pos := "law.go:211", after := #[{ on := 8, ground := Ground.data }, { on := 9, ground := Ground.data }, { on := 7, ground := Ground.chain }, { on := 7, ground := Ground.guard }], guard := some (7, true) }) rfl (fun K hK => ?_) AllReadyH.nil)
          rw [if_pos (by rfl)]
          go_simp
          go_at_call 51
          refine (containsM (HMX.out.grown (hgr1)) HGX.out.2.2.1 HGX.out.2.2.2.2 HGX.out.2.2.2.1 (HMM.out.grown (hgr1)) (insS_rows HA.out.2.1) HWM.out).mono ?_
          rintro e wc2 ⟨rfl, gc2⟩
          have hgr2 := World.grownBy.trans hgr1 gc2
          go_wp2_with fail
          refine hK.out _ _ (HS.out _ hgr2) (fun hHeld => ?_)
          clear hK K
          try simp only [Act.put, List.setIfInBounds_toArray, List.set_cons_zero, List.set_cons_succ]
          refine wpAnyH_ready (rs := [13]) (by kernel_rfl) (by simp) ?_
          refine (AllReadyH.cons (o := { dst := some 97, op := Op.call { callee := Callee.value (Operand.func 51), args := #[Operand.tmp 95, Operand.tmp 96], argTypes := #[57, 33] }, type := 4, pos := "law.go:211", after := #[{ on := 11, ground := Ground.data }, { on := 12, ground := Ground.data }, { on := 10, ground := Ground.chain }, { on := 7, ground := Ground.guard }], guard := some (7, true) }) rfl (fun K hK => ?_) AllReadyH.nil)
          rw [if_pos (by rfl)]
          go_simp
          go_at_call 51
          refine (containsM (HMB.out.grown (hgr2)) HBB.out.2.2 hn6 HBB.out.2.1 (HMM.out.grown (hgr2)) (insS_rows HA.out.2.1) HQ2.out).mono ?_
          rintro e wc3 ⟨rfl, gc3⟩
          have hgr3 := World.grownBy.trans hgr2 gc3
          go_wp2_with fail
          refine hK.out _ _ (HS.out _ hgr3) (fun hHeld => ?_)
          clear hK K
          try simp only [Act.put, List.setIfInBounds_toArray, List.set_cons_zero, List.set_cons_succ]
          refine wpAnyH_take (i := 14) (oi := { dst := some 98, op := Op.binOp BinOp.eql 4 (Operand.tmp 94) (Operand.tmp 97) 4, type := 4, pos := "law.go:211", after := #[{ on := 10, ground := Ground.data }, { on := 13, ground := Ground.data }, { on := 7, ground := Ground.guard }], guard := some (7, true) }) (v := ?_) rfl (by kernel_rfl) (by kernel_rfl) (by kernel_rfl) (fun _ _ _ h => h) (Or.inl ⟨by rfl, ?_⟩) (by assumption) ?_
          rotate_left 1
          · (intro W hSW; (try dsimp only at hSW); first | (go_simp; done) | (go_simp; with_reducible rfl))
          try simp only [Act.put, List.setIfInBounds_toArray, List.set_cons_zero, List.set_cons_succ]
          refine wpAnyH_take (i := 15) (oi := { dst := some 99, op := Op.pick (Operand.tmp 91) (Operand.tmp 98) (Operand.const (Value.bool false)), type := 4, pos := "law.go:211", after := #[{ on := 7, ground := Ground.data }, { on := 14, ground := Ground.data }], guard := none }) (v := ?_) rfl (by kernel_rfl) (by kernel_rfl) (by kernel_rfl) (fun _ _ _ h => h) (Or.inl ⟨by rfl, ?_⟩) (by assumption) ?_
          rotate_left 1
          · (intro W hSW; (try dsimp only at hSW); first | (go_simp; done) | (go_simp; with_reducible rfl))
          try simp only [Act.put, List.setIfInBounds_toArray, List.set_cons_zero, List.set_cons_succ]
          refine wpAnyH_take (i := 16) (oi := { dst := some 10, op := Op.assign (Operand.tmp 99), type := 4, pos := "law.go:211", after := #[{ on := 15, ground := Ground.data }, { on := 13, ground := Ground.chain }, { on := 0, ground := Ground.phase }, { on := 1, ground := Ground.phase }, { on := 2, ground := Ground.phase }, { on := 3, ground := Ground.phase }, { on := 4, ground := Ground.phase }, { on := 5, ground := Ground.phase }, { on := 6, ground := Ground.phase }, { on := 7, ground := Ground.phase }, { on := 8, ground := Ground.phase }, { on := 9, ground := Ground.phase }, { on := 10, ground := Ground.phase }, { on := 11, ground := Ground.phase }, { on := 12, ground := Ground.phase }, { on := 13, ground := Ground.phase }, { on := 14, ground := Ground.phase }, { on := 15, ground := Ground.phase }], guard := none }) (v := ?_) rfl (by kernel_rfl) (by kernel_rfl) (by kernel_rfl) (fun _ _ _ h => h) (Or.inl ⟨by rfl, ?_⟩) (by assumption) ?_
          rotate_left 1
          · (intro W hSW; (try dsimp only at hSW); first | (go_simp; done) | (go_simp; with_reducible rfl))
          try simp only [Act.put, List.setIfInBounds_toArray, List.set_cons_zero, List.set_cons_succ]
          refine wpAnyH_done (by kernel_rfl) ?_ _
          have hEND := hgr3
          clear hHeld
          go_wp2_with fail
          go_ret
          exact ⟨rfl, HG.out.trans hEND⟩
      · subst hE
        subst hxf
        have HQF : Hid (Q2 = false) := Lib.hid (by rw [← HQ2.out]; exact within_none HA.out.1 HBB.out.1 (insS_up HA.out.1 pk0) (insS_in HA.out.1 pk0) hk)
        have hqf := HQF.out
        subst hqf
        clear hk hXz
        have hbm := HMM.out
        obtain ⟨m0, m1, m2, m3, _⟩ := hbm
        go_wp2_with fail
        clear m0 m1 m2 m3
        refine (containsM HMB.out HBB.out.2.2 hn6 HBB.out.2.1 HMM.out (insS_rows HA.out.2.1) HQ2.out).mono ?_
        rintro e v23 ⟨rfl, gh⟩
        replace HB := Lib.hid (HB.out.grown gh)
        replace HMA := Lib.hid (HMA.out.grown gh)
        replace HMB := Lib.hid (HMB.out.grown gh)
        replace HMX := Lib.hid (HMX.out.grown gh)
        replace HMY := Lib.hid (HMY.out.grown gh)
        replace HMM := Lib.hid (HMM.out.grown gh)
        replace HG := Lib.hid (HG.out.trans gh)
        clear gh
        go_wp2_with fail
        go_ret
        exact ⟨rfl, HG.out⟩
  · rw [if_pos (by rfl)]
    go_simp
    have hga := World.grownBy.trans (World.grownBy_alloc wo (.cells #[.slice none 0 0, .int .i64 0, .slice none 0 0, .int .i64 0] 33) none) (⟨rfl, rfl, rfl, Nat.le_refl _, fun _ _ _ => rfl⟩ : (World.alloc wo (.cells #[.slice none 0 0, .int .i64 0, .slice none 0 0, .int .i64 0] 33)).grownBy (World.alloc wo (.cells #[.slice none 0 0, .int .i64 0, .slice none 0 0, .int .i64 0] 33)).drew none)
    have hkc := (ZeroM.new (lo := wo.heap.size) wo (Nat.le_refl _)).grown (⟨rfl, rfl, rfl, Nat.le_refl _, fun _ _ _ => rfl⟩ : (World.alloc wo (.cells #[.slice none 0 0, .int .i64 0, .slice none 0 0, .int .i64 0] 33)).grownBy (World.alloc wo (.cells #[.slice none 0 0, .int .i64 0, .slice none 0 0, .int .i64 0] 33)).drew none)
    obtain ⟨WA, hWA⟩ : ∃ WA, (World.alloc wo (.cells #[.slice none 0 0, .int .i64 0, .slice none 0 0, .int .i64 0] 33)).drew = WA := ⟨_, rfl⟩
    rw [hWA] at hga hkc ⊢
    try (rw [hWA] at hsX)
    try (rw [hWA] at hsb)
    clear hWA
    have hzA := hkc.lt
    have hzG := World.grownBy.size hga
    refine hK.out _ _ (HS.out _ hga) (fun hHeld => ?_)
    clear hK K
    try simp only [Act.put, List.setIfInBounds_toArray, List.set_cons_zero, List.set_cons_succ]
    refine wpAnyH_ready (rs := [3]) (by kernel_rfl) (by simp) ?_
    refine (AllReadyH.cons (o := { dst := some 48, op := Op.call { callee := Callee.value (Operand.func 57), args := #[Operand.tmp 46, Operand.tmp 47], argTypes := #[57, 76] }, type := 40, pos := "law.go:204", after := #[{ on := 1, ground := Ground.data }, { on := 2, ground := Ground.data }], guard := none }) rfl (fun K hK => ?_) AllReadyH.nil)
    rw [if_pos (by rfl)]
    go_simp
    go_at_call 57
    refine (insideS (HMA.out.grown (hga)) (HPK0.out.1.grown (HG.out.trans (hga))) HA.out.2.2 hn6 HA.out.2.1 HA.out.1 HPK0.out.2.1 HPK0.out.2.2).mono ?_
    rintro e wc2 ⟨xa, xc, rfl, hsX, gc2⟩
    have hgr2 := World.grownBy.trans hga gc2
    have hzU := World.grownBy.size gc2
    try (replace hkc := hkc.grown gc2)
    go_wp2_with fail
    refine hK.out _ _ (HS.out _ hgr2) (fun hHeld => ?_)
    clear hK K
    try simp only [Act.put, List.setIfInBounds_toArray, List.set_cons_zero, List.set_cons_succ]
    refine wpAnyH_ready (rs := [4]) (by kernel_rfl) (by simp) ?_
    refine (AllReadyH.cons (o := { dst := some 49, op := Op.buildSlice 31 1 #[(0, Operand.tmp 48)], type := 31, pos := "law.go:204", after := #[{ on := 3, ground := Ground.data }], guard := none }) rfl (fun K hK => ?_) AllReadyH.nil)
    rw [if_pos (by rfl)]
    go_simp
    have hgc := World.grownBy.trans hgr2 (World.grownBy_alloc wc2 (.cells #[.slice xa f xc] 40) none)
    have hsb := SlB.new wc2 (.slice xa f xc)
    replace hsX := hsX.grown (World.grownBy_alloc wc2 (.cells #[.slice xa f xc] 40) none)
    try (replace hkc := hkc.grown (World.grownBy_alloc wc2 (.cells #[.slice xa f xc] 40) none))
    try (have hzB := hkc.lt)
    have hzS := World.grownBy.size (World.grownBy_alloc wc2 (.cells #[.slice xa f xc] 40) none)
    obtain ⟨gS, hgS⟩ : ∃ g, (wc2).heap.size = g := ⟨_, rfl⟩
    obtain ⟨WS, hWS⟩ : ∃ WS, World.alloc wc2 (.cells #[.slice xa f xc] 40) = WS := ⟨_, rfl⟩
    rw [hWS] at hgc hsX hsb hzS ⊢
    try (rw [hWS] at hkc)
    clear hWS
    rw [hgS] at hsb ⊢
    have hzT := hsb.2
    refine hK.out _ _ (HS.out _ hgc) (fun hHeld => ?_)
    clear hK K
    try simp only [Act.put, List.setIfInBounds_toArray, List.set_cons_zero, List.set_cons_succ]
    refine wpAnyH_take (i := 5) (oi := { dst := some 50, op := Op.build 33 #[(0, Operand.tmp 45), (1, Operand.tmp 49)], type := 33, pos := "law.go:204", after := #[{ on := 0, ground := Ground.data }, { on := 4, ground := Ground.data }], guard := none }) (v := ?_) rfl (by kernel_rfl) (by kernel_rfl) (by kernel_rfl) (fun _ _ _ h => h) (Or.inl ⟨by rfl, ?_⟩) (by assumption) ?_
    rotate_left 1
    · (intro W hSW; (try dsimp only at hSW); first | (go_simp; done) | (go_simp; with_reducible rfl))
    try simp only [Act.put, List.setIfInBounds_toArray, List.set_cons_zero, List.set_cons_succ]
    refine wpAnyH_ready (rs := [7]) (by kernel_rfl) (by simp) ?_
    refine (AllReadyH.cons (o := { dst := none, op := Op.store 33 (Operand.tmp 18) (Operand.tmp 50), type := 0, pos := "law.go:204", after := #[{ on := 6, ground := Ground.data }, { on := 5, ground := Ground.data }, { on := 3, ground := Ground.chain }, { on := 0, ground := Ground.phase }, { on := 1, ground := Ground.phase }, { on := 2, ground := Ground.phase }, { on := 3, ground := Ground.phase }, { on := 4, ground := Ground.phase }, { on := 5, ground := Ground.phase }, { on := 6, ground := Ground.phase }], guard := none }) rfl (fun K hK => ?_) AllReadyH.nil)
    rw [if_pos (by rfl)]
    have q0 := hkc.c0
    have q1 := hkc.c1
    have q2 := hkc.c2
    have q3 := hkc.c3
    have q4 := hkc.f0
    have q5 := hkc.f1
    have q6 := hkc.f2
    have q7 := hkc.f3
    go_simp
    clear q4 q5 q6 q7
    have hfs := four_set (.slice sa n sc) (.int .i64 st) (.slice (some ⟨gS, 0, none⟩) 1 1) (.int .i64 0) q0 q1 q2 q3
    clear q0 q1 q2 q3
    have hgs := grown_own hgc hfs.2.2.2.2 (fun k hk => by cases hk; exact hkc.ge)
    refine hK.out _ _ (HS.out _ hgs) (fun hHeld => ?_)
    clear hK K
    try simp only [Act.put, List.setIfInBounds_toArray, List.set_cons_zero, List.set_cons_succ]
    refine wpAnyH_done (by kernel_rfl) ?_ _
    have hEND := hgs
    clear hHeld
    have hdz : wo.drew.heap.size = wo.heap.size := rfl
    have hX2 := hsX.off hfs.2.2.2.2 (fun z e => by cases e; first | exact .inl (by omega) | exact .inr (by omega))
    have hXh := hX2.here
    have hne : gS ≠ wo.heap.size := by omega
    have hsc := hfs.2.2.2.2.cell hsb.1 (by simp only [ne_eq, Option.some.injEq]; omega)
    obtain ⟨p0, p1, p2, p3, _⟩ := hfs
    obtain ⟨gB, hgB⟩ : ∃ gB, wo.heap.size = gB := ⟨_, rfl⟩
    obtain ⟨X1, hX1⟩ : ∃ X, (World.setCell (World.setCell (World.setCell (World.setCell WS ⟨wo.heap.size, 0, none⟩ (.slice sa n sc)) ⟨wo.heap.size, 1, none⟩ (.int .i64 st)) ⟨wo.heap.size, 2, none⟩ (.slice (some ⟨gS, 0, none⟩) 1 1)) ⟨wo.heap.size, 3, none⟩ (.int .i64 0)) = X := ⟨_, rfl⟩
    rw [hX1] at p0 p1 p2 p3 hXh hsc hEND ⊢
    rw [hgB] at p0 p1 p2 p3 ⊢
    have HMM := Lib.hid (MdB.mk p0 p1 p2 p3 (sts_of_slb hsc hXh ((insS_len _ _).trans HA.out.2.2)))
    clear hdz hX2 hXh hne hsc p0 p1 p2 p3 hX1 hsX hgs hsb hkc hzA hzG hzU hzS hzT hHeld HS hgS
    try clear hzB
    try clear hgB
    replace HB := Lib.hid (HB.out.grown hEND)
    replace HMA := Lib.hid (HMA.out.grown hEND)
    replace HMB := Lib.hid (HMB.out.grown hEND)
    replace HMX := Lib.hid (HMX.out.grown hEND)
    replace HMY := Lib.hid (HMY.out.grown hEND)
    replace HG := Lib.hid (HG.out.trans hEND)
    clear hEND
    go_wp2_with fail
    refine (equalG HMX.out HMY.out HX.out.2.1 HX.out.2.1 HXX.out.2 HXX.out.1 HXX.out.1 (decide_eq_true rfl)).mono ?_
    rintro e v21 ⟨rfl, gh⟩
    replace HB := Lib.hid (HB.out.grown gh)
    replace HMA := Lib.hid (HMA.out.grown gh)
    replace HMB := Lib.hid (HMB.out.grown gh)
    replace HMX := Lib.hid (HMX.out.grown gh)
    replace HMY := Lib.hid (HMY.out.grown gh)
    replace HMM := Lib.hid (HMM.out.grown gh)
    replace HG := Lib.hid (HG.out.trans gh)
    clear gh
    have hbm := HMM.out
    obtain ⟨m0, m1, m2, m3, _⟩ := hbm
    go_wp2_with fail
    clear m0 m1 m2 m3
    refine (containsM HMA.out HA.out.2.2 hn6 HA.out.2.1 HMM.out (insS_rows HA.out.2.1) (insS_in HA.out.1 pk0)).mono ?_
    rintro e v22 ⟨rfl, gh⟩
    replace HB := Lib.hid (HB.out.grown gh)
    replace HMA := Lib.hid (HMA.out.grown gh)
    replace HMB := Lib.hid (HMB.out.grown gh)
    replace HMX := Lib.hid (HMX.out.grown gh)
    replace HMY := Lib.hid (HMY.out.grown gh)
    replace HMM := Lib.hid (HMM.out.grown gh)
    replace HG := Lib.hid (HG.out.trans gh)
    clear gh
    obtain ⟨Q2, hQ2⟩ : ∃ Q, allB withinB B (insS pk0 A) = Q := ⟨_, rfl⟩
    have HQ2 := Lib.hid hQ2
    clear hQ2
    rcases HX.out.2.2 with ⟨hE, hk, hXz, hgx, hxf⟩ | ⟨hE, hk, hXz, hxf⟩
    · subst hE
      have HGX := Lib.hid (And.intro hgx (And.intro hXz (And.intro HX.out.2.1 HXX.out)))
      have hfx := hxf.symm
      subst hfx
      have HWM : Hid (allB withinB X (insS pk0 A) = Q2) := Lib.hid (by rw [hXz, within_meetL HA.out.1 HBB.out.1 (insS_up HA.out.1 pk0) (insS_in HA.out.1 pk0)]; exact HQ2.out)
      clear hk hXz hgx hxf
      go_wp2_with fail
      cases Q2
      · obtain ⟨wq, hwq⟩ : ∃ wq, wq = v22 := ⟨_, rfl⟩
        subst hwq
        have hbx := HB.out
        obtain ⟨a0, a1, a2, a3, b0, b1⟩ := hbx
        have hbm := HMM.out
        obtain ⟨m0, m1, m2, m3, _⟩ := hbm
        have HS := Lib.hid (fun (Wh : World) (hWh : wq.grownBy Wh none) => (⟨hWh, hWh.cell a0 (by simp), hWh.cell a1 (by simp), hWh.cell a2 (by simp), hWh.cell a3 (by simp), hWh.cell b0 (by simp), hWh.cell b1 (by simp), hWh.cell m0 (by simp), hWh.cell m1 (by simp), hWh.cell m2 (by simp), hWh.cell m3 (by simp)⟩ : (fun Wh : World => wq.grownBy Wh none ∧ Wh.cell? ⟨g0, 0, none⟩ = some (.slice s1 ns c1) ∧ Wh.cell? ⟨g0, 1, none⟩ = some (.slice fa f fc) ∧ Wh.cell? ⟨g0, 2, none⟩ = some (.slice s3 n3 q3) ∧ Wh.cell? ⟨g0, 3, none⟩ = some (.slice s4 n4 q4) ∧ Wh.cell? ⟨g0 + 1, 0, none⟩ = some (.slice sa n sc) ∧ Wh.cell? ⟨g0 + 1, 1, none⟩ = some (.int .i64 st) ∧ Wh.cell? ⟨gB, 0, none⟩ = some (.slice sa n sc) ∧ Wh.cell? ⟨gB, 1, none⟩ = some (.int .i64 st) ∧ Wh.cell? ⟨gB, 2, none⟩ = some (.slice (some ⟨gS, 0, none⟩) 1 1) ∧ Wh.cell? ⟨gB, 3, none⟩ = some (.int .i64 0)) Wh))
        clear a0 a1 a2 a3 b0 b1 m0 m1 m2 m3
        have hdr : wq.grownBy wq.drew none := ⟨rfl, rfl, rfl, Nat.le_refl _, fun _ _ _ => rfl⟩
        refine wp_region_held_drew (S := (fun Wh : World => wq.grownBy Wh none ∧ Wh.cell? ⟨g0, 0, none⟩ = some (.slice s1 ns c1) ∧ Wh.cell? ⟨g0, 1, none⟩ = some (.slice fa f fc) ∧ Wh.cell? ⟨g0, 2, none⟩ = some (.slice s3 n3 q3) ∧ Wh.cell? ⟨g0, 3, none⟩ = some (.slice s4 n4 q4) ∧ Wh.cell? ⟨g0 + 1, 0, none⟩ = some (.slice sa n sc) ∧ Wh.cell? ⟨g0 + 1, 1, none⟩ = some (.int .i64 st) ∧ Wh.cell? ⟨gB, 0, none⟩ = some (.slice sa n sc) ∧ Wh.cell? ⟨gB, 1, none⟩ = some (.int .i64 st) ∧ Wh.cell? ⟨gB, 2, none⟩ = some (.slice (some ⟨gS, 0, none⟩) 1 1) ∧ Wh.cell? ⟨gB, 3, none⟩ = some (.int .i64 0))) (by kernel_rfl) (HS.out _ hdr) (fun hHeld => ?_)
        refine wpAnyH_take (i := 0) (oi := { dst := some 84, op := Op.move (Operand.tmp 11), type := 4, pos := "law.go:211", after := #[], guard := none }) (v := ?_) rfl (by kernel_rfl) (by kernel_rfl) (by kernel_rfl) (fun _ _ _ h => h) (Or.inl ⟨by rfl, ?_⟩) (by assumption) ?_
        rotate_left 1
        · (intro W hSW; (try dsimp only at hSW); first | (go_simp; done) | (go_simp; with_reducible rfl))
        try simp only [Act.put, List.setIfInBounds_toArray, List.set_cons_zero, List.set_cons_succ]
        refine wpAnyH_take (i := 1) (oi := { dst := some 85, op := Op.move (Operand.tmp 84), type := 4, pos := "law.go:211", after := #[{ on := 0, ground := Ground.data }], guard := none }) (v := ?_) rfl (by kernel_rfl) (by kernel_rfl) (by kernel_rfl) (fun _ _ _ h => h) (Or.inl ⟨by rfl, ?_⟩) (by assumption) ?_
        rotate_left 1
        · (intro W hSW; (try dsimp only at hSW); first | (go_simp; done) | (go_simp; with_reducible rfl))
        try simp only [Act.put, List.setIfInBounds_toArray, List.set_cons_zero, List.set_cons_succ]
        refine wpAnyH_take (i := 2) (oi := { dst := some 86, op := Op.load 27 (Operand.tmp 5), type := 27, pos := "law.go:211", after := #[{ on := 1, ground := Ground.guard }], guard := some (1, true) }) (v := ?_) rfl (by kernel_rfl) (by kernel_rfl) (by kernel_rfl) (fun _ _ _ h => h) (Or.inl ⟨by rfl, ?_⟩) (by assumption) ?_
        rotate_left 1
        · (intro W hSW; (try dsimp only at hSW); first | (go_simp; done) | (go_simp; with_reducible rfl))
        try simp only [Act.put, List.setIfInBounds_toArray, List.set_cons_zero, List.set_cons_succ]
        refine wpAnyH_take (i := 3) (oi := { dst := some 87, op := Op.load 30 (Operand.tmp 6), type := 30, pos := "law.go:211", after := #[{ on := 1, ground := Ground.guard }], guard := some (1, true) }) (v := ?_) rfl (by kernel_rfl) (by kernel_rfl) (by kernel_rfl) (fun _ _ _ h => h) (Or.inl ⟨by rfl, ?_⟩) (by assumption) ?_
        rotate_left 1
        · (intro W hSW; (try dsimp only at hSW); first | (go_simp; done) | (go_simp; with_reducible rfl))
        try simp only [Act.put, List.setIfInBounds_toArray, List.set_cons_zero, List.set_cons_succ]
        refine wpAnyH_take (i := 4) (oi := { dst := some 88, op := Op.move (Operand.tmp 14), type := 57, pos := "law.go:211", after := #[{ on := 1, ground := Ground.guard }], guard := some (1, true) }) (v := ?_) rfl (by kernel_rfl) (by kernel_rfl) (by kernel_rfl) (fun _ _ _ h => h) (Or.inl ⟨by rfl, ?_⟩) (by assumption) ?_
        rotate_left 1
        · (intro W hSW; (try dsimp only at hSW); first | (go_simp; done) | (go_simp; with_reducible rfl))
        try simp only [Act.put, List.setIfInBounds_toArray, List.set_cons_zero, List.set_cons_succ]
        refine wpAnyH_ready (rs := [5]) (by kernel_rfl) (by simp) ?_
        refine (AllReadyH.cons (o := { dst := some 89, op := Op.call { callee := Callee.value (Operand.func 45), args := #[Operand.tmp 86, Operand.tmp 87, Operand.tmp 88], argTypes := #[27, 30, 57] }, type := 4, pos := "law.go:211", after := #[{ on := 2, ground := Ground.data }, { on := 3, ground := Ground.data }, { on := 4, ground := Ground.data }, { on := 1, ground := Ground.chain }, { on := 1, ground := Ground.guard }], guard := some (1, true) }) rfl (fun K hK => ?_) AllReadyH.nil)
        rw [if_pos (by rfl)]
        go_simp
        go_at_call 45
        refine (HVA.out _ X ax cx (HG.out.trans (hdr)) (HMX.out.grown (hdr)) HGX.out.1 HGX.out.2.2.2.1 HGX.out.2.2.1).mono ?_
        rintro e wc1 ⟨rfl, gc1⟩
        have hgr1 := World.grownBy.trans hdr gc1
        go_wp2_with fail
        refine hK.out _ _ (HS.out _ hgr1) (fun hHeld => ?_)
        clear hK K
        try simp only [Act.put, List.setIfInBounds_toArray, List.set_cons_zero, List.set_cons_succ]
        refine wpAnyH_take (i := 6) (oi := { dst := some 90, op := Op.pick (Operand.tmp 85) (Operand.tmp 89) (Operand.const (Value.bool false)), type := 4, pos := "law.go:211", after := #[{ on := 1, ground := Ground.data }, { on := 5, ground := Ground.data }], guard := none }) (v := ?_) rfl (by kernel_rfl) (by kernel_rfl) (by kernel_rfl) (fun _ _ _ h => h) (Or.inl ⟨by rfl, ?_⟩) (by assumption) ?_
        rotate_left 1
        · (intro W hSW; (try dsimp only at hSW); first | (go_simp; done) | (go_simp; with_reducible rfl))
        try simp only [Act.put, List.setIfInBounds_toArray, List.set_cons_zero, List.set_cons_succ]
        refine wpAnyH_take (i := 7) (oi := { dst := some 91, op := Op.move (Operand.tmp 90), type := 4, pos := "law.go:211", after := #[{ on := 6, ground := Ground.data }, { on := 5, ground := Ground.chain }], guard := none }) (v := ?_) rfl (by kernel_rfl) (by kernel_rfl) (by kernel_rfl) (fun _ _ _ h => h) (Or.inl ⟨by rfl, ?_⟩) (by assumption) ?_
        rotate_left 1
        · (intro W hSW; (try dsimp only at hSW); first | (go_simp; done) | (go_simp; with_reducible rfl))
        try simp only [Act.put, List.setIfInBounds_toArray, List.set_cons_zero, List.set_cons_succ]
        refine wpAnyH_take (i := 8) (oi := { dst := some 92, op := Op.move (Operand.tmp 14), type := 57, pos := "law.go:211", after := #[{ on := 7, ground := Ground.guard }], guard := some (7, true) }) (v := ?_) rfl (by kernel_rfl) (by kernel_rfl) (by kernel_rfl) (fun _ _ _ h => h) (Or.inl ⟨by rfl, ?_⟩) (by assumption) ?_
        rotate_left 1
        · (intro W hSW; (try dsimp only at hSW); first | (go_simp; done) | (go_simp; with_reducible rfl))
        try simp only [Act.put, List.setIfInBounds_toArray, List.set_cons_zero, List.set_cons_succ]
        refine wpAnyH_take (i := 9) (oi := { dst := some 93, op := Op.load 33 (Operand.tmp 18), type := 33, pos := "law.go:211", after := #[{ on := 7, ground := Ground.guard }], guard := some (7, true) }) (v := ?_) rfl (by kernel_rfl) (by kernel_rfl) (by kernel_rfl) (fun _ _ _ h => h) (Or.inl ⟨by rfl, ?_⟩) (by assumption) ?_
        rotate_left 1
        · (intro W hSW; (try dsimp only at hSW); first | (go_simp; done) | (go_simp; with_reducible rfl))
        try simp only [Act.put, List.setIfInBounds_toArray, List.set_cons_zero, List.set_cons_succ]
        refine wpAnyH_take (i := 11) (oi := { dst := some 95, op := Op.move (Operand.tmp 13), type := 57, pos := "law.go:211", after := #[{ on := 7, ground := Ground.guard }], guard := some (7, true) }) (v := ?_) rfl (by kernel_rfl) (by kernel_rfl) (by kernel_rfl) (fun _ _ _ h => h) (Or.inl ⟨by rfl, ?_⟩) (by assumption) ?_
        rotate_left 1
        · (intro W hSW; (try dsimp only at hSW); first | (go_simp; done) | (go_simp; with_reducible rfl))
        try simp only [Act.put, List.setIfInBounds_toArray, List.set_cons_zero, List.set_cons_succ]
        refine wpAnyH_take (i := 12) (oi := { dst := some 96, op := Op.load 33 (Operand.tmp 18), type := 33, pos := "law.go:211", after := #[{ on := 7, ground := Ground.guard }], guard := some (7, true) }) (v := ?_) rfl (by kernel_rfl) (by kernel_rfl) (by kernel_rfl) (fun _ _ _ h => h) (Or.inl ⟨by rfl, ?_⟩) (by assumption) ?_
        rotate_left 1
        · (intro W hSW; (try dsimp only at hSW); first | (go_simp; done) | (go_simp; with_reducible rfl))
        try simp only [Act.put, List.setIfInBounds_toArray, List.set_cons_zero, List.set_cons_succ]
        refine wpAnyH_ready (rs := [10]) (by kernel_rfl) (by simp) ?_
        refine (AllReadyH.cons (o := { dst := some 94, op := Op.call { callee := Callee.value (Operand.func 51), args := #[Operand.tmp 92, Operand.tmp 93], argTypes := #[57, 33] }, type := 4, pos := "law.go:211", after := #[{ on := 8, ground := Ground.data }, { on := 9, ground := Ground.data }, { on := 7, ground := Ground.chain }, { on := 7, ground := Ground.guard }], guard := some (7, true) }) rfl (fun K hK => ?_) AllReadyH.nil)
        rw [if_pos (by rfl)]
        go_simp
        go_at_call 51
        refine (containsM (HMX.out.grown (hgr1)) HGX.out.2.2.1 HGX.out.2.2.2.2 HGX.out.2.2.2.1 (HMM.out.grown (hgr1)) (insS_rows HA.out.2.1) HWM.out).mono ?_
        rintro e wc2 ⟨rfl, gc2⟩
        have hgr2 := World.grownBy.trans hgr1 gc2
        go_wp2_with fail
        refine hK.out _ _ (HS.out _ hgr2) (fun hHeld => ?_)
        clear hK K
        try simp only [Act.put, List.setIfInBounds_toArray, List.set_cons_zero, List.set_cons_succ]
        refine wpAnyH_ready (rs := [13]) (by kernel_rfl) (by simp) ?_
        refine (AllReadyH.cons (o := { dst := some 97, op := Op.call { callee := Callee.value (Operand.func 51), args := #[Operand.tmp 95, Operand.tmp 96], argTypes := #[57, 33] }, type := 4, pos := "law.go:211", after := #[{ on := 11, ground := Ground.data }, { on := 12, ground := Ground.data }, { on := 10, ground := Ground.chain }, { on := 7, ground := Ground.guard }], guard := some (7, true) }) rfl (fun K hK => ?_) AllReadyH.nil)
        rw [if_pos (by rfl)]
        go_simp
        go_at_call 51
        refine (containsM (HMB.out.grown (hgr2)) HBB.out.2.2 hn6 HBB.out.2.1 (HMM.out.grown (hgr2)) (insS_rows HA.out.2.1) HQ2.out).mono ?_
        rintro e wc3 ⟨rfl, gc3⟩
        have hgr3 := World.grownBy.trans hgr2 gc3
        go_wp2_with fail
        refine hK.out _ _ (HS.out _ hgr3) (fun hHeld => ?_)
        clear hK K
        try simp only [Act.put, List.setIfInBounds_toArray, List.set_cons_zero, List.set_cons_succ]
        refine wpAnyH_take (i := 14) (oi := { dst := some 98, op := Op.binOp BinOp.eql 4 (Operand.tmp 94) (Operand.tmp 97) 4, type := 4, pos := "law.go:211", after := #[{ on := 10, ground := Ground.data }, { on := 13, ground := Ground.data }, { on := 7, ground := Ground.guard }], guard := some (7, true) }) (v := ?_) rfl (by kernel_rfl) (by kernel_rfl) (by kernel_rfl) (fun _ _ _ h => h) (Or.inl ⟨by rfl, ?_⟩) (by assumption) ?_
        rotate_left 1
        · (intro W hSW; (try dsimp only at hSW); first | (go_simp; done) | (go_simp; with_reducible rfl))
        try simp only [Act.put, List.setIfInBounds_toArray, List.set_cons_zero, List.set_cons_succ]
        refine wpAnyH_take (i := 15) (oi := { dst := some 99, op := Op.pick (Operand.tmp 91) (Operand.tmp 98) (Operand.const (Value.bool false)), type := 4, pos := "law.go:211", after := #[{ on := 7, ground := Ground.data }, { on := 14, ground := Ground.data }], guard := none }) (v := ?_) rfl (by kernel_rfl) (by kernel_rfl) (by kernel_rfl) (fun _ _ _ h => h) (Or.inl ⟨by rfl, ?_⟩) (by assumption) ?_
        rotate_left 1
        · (intro W hSW; (try dsimp only at hSW); first | (go_simp; done) | (go_simp; with_reducible rfl))
        try simp only [Act.put, List.setIfInBounds_toArray, List.set_cons_zero, List.set_cons_succ]
        refine wpAnyH_take (i := 16) (oi := { dst := some 10, op := Op.assign (Operand.tmp 99), type := 4, pos := "law.go:211", after := #[{ on := 15, ground := Ground.data }, { on := 13, ground := Ground.chain }, { on := 0, ground := Ground.phase }, { on := 1, ground := Ground.phase }, { on := 2, ground := Ground.phase }, { on := 3, ground := Ground.phase }, { on := 4, ground := Ground.phase }, { on := 5, ground := Ground.phase }, { on := 6, ground := Ground.phase }, { on := 7, ground := Ground.phase }, { on := 8, ground := Ground.phase }, { on := 9, ground := Ground.phase }, { on := 10, ground := Ground.phase }, { on := 11, ground := Ground.phase }, { on := 12, ground := Ground.phase }, { on := 13, ground := Ground.phase }, { on := 14, ground := Ground.phase }, { on := 15, ground := Ground.phase }], guard := none }) (v := ?_) rfl (by kernel_rfl) (by kernel_rfl) (by kernel_rfl) (fun _ _ _ h => h) (Or.inl ⟨by rfl, ?_⟩) (by assumption) ?_
        rotate_left 1
        · (intro W hSW; (try dsimp only at hSW); first | (go_simp; done) | (go_simp; with_reducible rfl))
        try simp only [Act.put, List.setIfInBounds_toArray, List.set_cons_zero, List.set_cons_succ]
        refine wpAnyH_done (by kernel_rfl) ?_ _
        have hEND := hgr3
        clear hHeld
        go_wp2_with fail
        go_ret
        exact ⟨rfl, HG.out.trans hEND⟩
      · obtain ⟨wq, hwq⟩ : ∃ wq, wq = v22 := ⟨_, rfl⟩
        subst hwq
        have hbx := HB.out
        obtain ⟨a0, a1, a2, a3, b0, b1⟩ := hbx
        have hbm := HMM.out
        obtain ⟨m0, m1, m2, m3, _⟩ := hbm
        have HS := Lib.hid (fun (Wh : World) (hWh : wq.grownBy Wh none) => (⟨hWh, hWh.cell a0 (by simp), hWh.cell a1 (by simp), hWh.cell a2 (by simp), hWh.cell a3 (by simp), hWh.cell b0 (by simp), hWh.cell b1 (by simp), hWh.cell m0 (by simp), hWh.cell m1 (by simp), hWh.cell m2 (by simp), hWh.cell m3 (by simp)⟩ : (fun Wh : World => wq.grownBy Wh none ∧ Wh.cell? ⟨g0, 0, none⟩ = some (.slice s1 ns c1) ∧ Wh.cell? ⟨g0, 1, none⟩ = some (.slice fa f fc) ∧ Wh.cell? ⟨g0, 2, none⟩ = some (.slice s3 n3 q3) ∧ Wh.cell? ⟨g0, 3, none⟩ = some (.slice s4 n4 q4) ∧ Wh.cell? ⟨g0 + 1, 0, none⟩ = some (.slice sa n sc) ∧ Wh.cell? ⟨g0 + 1, 1, none⟩ = some (.int .i64 st) ∧ Wh.cell? ⟨gB, 0, none⟩ = some (.slice sa n sc) ∧ Wh.cell? ⟨gB, 1, none⟩ = some (.int .i64 st) ∧ Wh.cell? ⟨gB, 2, none⟩ = some (.slice (some ⟨gS, 0, none⟩) 1 1) ∧ Wh.cell? ⟨gB, 3, none⟩ = some (.int .i64 0)) Wh))
        clear a0 a1 a2 a3 b0 b1 m0 m1 m2 m3
        have hdr : wq.grownBy wq.drew none := ⟨rfl, rfl, rfl, Nat.le_refl _, fun _ _ _ => rfl⟩
        refine wp_region_held_drew (S := (fun Wh : World => wq.grownBy Wh none ∧ Wh.cell? ⟨g0, 0, none⟩ = some (.slice s1 ns c1) ∧ Wh.cell? ⟨g0, 1, none⟩ = some (.slice fa f fc) ∧ Wh.cell? ⟨g0, 2, none⟩ = some (.slice s3 n3 q3) ∧ Wh.cell? ⟨g0, 3, none⟩ = some (.slice s4 n4 q4) ∧ Wh.cell? ⟨g0 + 1, 0, none⟩ = some (.slice sa n sc) ∧ Wh.cell? ⟨g0 + 1, 1, none⟩ = some (.int .i64 st) ∧ Wh.cell? ⟨gB, 0, none⟩ = some (.slice sa n sc) ∧ Wh.cell? ⟨gB, 1, none⟩ = some (.int .i64 st) ∧ Wh.cell? ⟨gB, 2, none⟩ = some (.slice (some ⟨gS, 0, none⟩) 1 1) ∧ Wh.cell? ⟨gB, 3, none⟩ = some (.int .i64 0))) (by kernel_rfl) (HS.out _ hdr) (fun hHeld => ?_)
        refine wpAnyH_take (i := 0) (oi := { dst := some 84, op := Op.move (Operand.tmp 11), type := 4, pos := "law.go:211", after := #[], guard := none }) (v := ?_) rfl (by kernel_rfl) (by kernel_rfl) (by kernel_rfl) (fun _ _ _ h => h) (Or.inl ⟨by rfl, ?_⟩) (by assumption) ?_
        rotate_left 1
        · (intro W hSW; (try dsimp only at hSW); first | (go_simp; done) | (go_simp; with_reducible rfl))
        try simp only [Act.put, List.setIfInBounds_toArray, List.set_cons_zero, List.set_cons_succ]
        refine wpAnyH_take (i := 1) (oi := { dst := some 85, op := Op.move (Operand.tmp 84), type := 4, pos := "law.go:211", after := #[{ on := 0, ground := Ground.data }], guard := none }) (v := ?_) rfl (by kernel_rfl) (by kernel_rfl) (by kernel_rfl) (fun _ _ _ h => h) (Or.inl ⟨by rfl, ?_⟩) (by assumption) ?_
        rotate_left 1
        · (intro W hSW; (try dsimp only at hSW); first | (go_simp; done) | (go_simp; with_reducible rfl))
        try simp only [Act.put, List.setIfInBounds_toArray, List.set_cons_zero, List.set_cons_succ]
        refine wpAnyH_take (i := 2) (oi := { dst := some 86, op := Op.load 27 (Operand.tmp 5), type := 27, pos := "law.go:211", after := #[{ on := 1, ground := Ground.guard }], guard := some (1, true) }) (v := ?_) rfl (by kernel_rfl) (by kernel_rfl) (by kernel_rfl) (fun _ _ _ h => h) (Or.inl ⟨by rfl, ?_⟩) (by assumption) ?_
        rotate_left 1
        · (intro W hSW; (try dsimp only at hSW); first | (go_simp; done) | (go_simp; with_reducible rfl))
        try simp only [Act.put, List.setIfInBounds_toArray, List.set_cons_zero, List.set_cons_succ]
        refine wpAnyH_take (i := 3) (oi := { dst := some 87, op := Op.load 30 (Operand.tmp 6), type := 30, pos := "law.go:211", after := #[{ on := 1, ground := Ground.guard }], guard := some (1, true) }) (v := ?_) rfl (by kernel_rfl) (by kernel_rfl) (by kernel_rfl) (fun _ _ _ h => h) (Or.inl ⟨by rfl, ?_⟩) (by assumption) ?_
        rotate_left 1
        · (intro W hSW; (try dsimp only at hSW); first | (go_simp; done) | (go_simp; with_reducible rfl))
        try simp only [Act.put, List.setIfInBounds_toArray, List.set_cons_zero, List.set_cons_succ]
        refine wpAnyH_take (i := 4) (oi := { dst := some 88, op := Op.move (Operand.tmp 14), type := 57, pos := "law.go:211", after := #[{ on := 1, ground := Ground.guard }], guard := some (1, true) }) (v := ?_) rfl (by kernel_rfl) (by kernel_rfl) (by kernel_rfl) (fun _ _ _ h => h) (Or.inl ⟨by rfl, ?_⟩) (by assumption) ?_
        rotate_left 1
        · (intro W hSW; (try dsimp only at hSW); first | (go_simp; done) | (go_simp; with_reducible rfl))
        try simp only [Act.put, List.setIfInBounds_toArray, List.set_cons_zero, List.set_cons_succ]
        refine wpAnyH_ready (rs := [5]) (by kernel_rfl) (by simp) ?_
        refine (AllReadyH.cons (o := { dst := some 89, op := Op.call { callee := Callee.value (Operand.func 45), args := #[Operand.tmp 86, Operand.tmp 87, Operand.tmp 88], argTypes := #[27, 30, 57] }, type := 4, pos := "law.go:211", after := #[{ on := 2, ground := Ground.data }, { on := 3, ground := Ground.data }, { on := 4, ground := Ground.data }, { on := 1, ground := Ground.chain }, { on := 1, ground := Ground.guard }], guard := some (1, true) }) rfl (fun K hK => ?_) AllReadyH.nil)
        rw [if_pos (by rfl)]
        go_simp
        go_at_call 45
        refine (HVA.out _ X ax cx (HG.out.trans (hdr)) (HMX.out.grown (hdr)) HGX.out.1 HGX.out.2.2.2.1 HGX.out.2.2.1).mono ?_
        rintro e wc1 ⟨rfl, gc1⟩
        have hgr1 := World.grownBy.trans hdr gc1
        go_wp2_with fail
        refine hK.out _ _ (HS.out _ hgr1) (fun hHeld => ?_)
        clear hK K
        try simp only [Act.put, List.setIfInBounds_toArray, List.set_cons_zero, List.set_cons_succ]
        refine wpAnyH_take (i := 6) (oi := { dst := some 90, op := Op.pick (Operand.tmp 85) (Operand.tmp 89) (Operand.const (Value.bool false)), type := 4, pos := "law.go:211", after := #[{ on := 1, ground := Ground.data }, { on := 5, ground := Ground.data }], guard := none }) (v := ?_) rfl (by kernel_rfl) (by kernel_rfl) (by kernel_rfl) (fun _ _ _ h => h) (Or.inl ⟨by rfl, ?_⟩) (by assumption) ?_
        rotate_left 1
        · (intro W hSW; (try dsimp only at hSW); first | (go_simp; done) | (go_simp; with_reducible rfl))
        try simp only [Act.put, List.setIfInBounds_toArray, List.set_cons_zero, List.set_cons_succ]
        refine wpAnyH_take (i := 7) (oi := { dst := some 91, op := Op.move (Operand.tmp 90), type := 4, pos := "law.go:211", after := #[{ on := 6, ground := Ground.data }, { on := 5, ground := Ground.chain }], guard := none }) (v := ?_) rfl (by kernel_rfl) (by kernel_rfl) (by kernel_rfl) (fun _ _ _ h => h) (Or.inl ⟨by rfl, ?_⟩) (by assumption) ?_
        rotate_left 1
        · (intro W hSW; (try dsimp only at hSW); first | (go_simp; done) | (go_simp; with_reducible rfl))
        try simp only [Act.put, List.setIfInBounds_toArray, List.set_cons_zero, List.set_cons_succ]
        refine wpAnyH_take (i := 8) (oi := { dst := some 92, op := Op.move (Operand.tmp 14), type := 57, pos := "law.go:211", after := #[{ on := 7, ground := Ground.guard }], guard := some (7, true) }) (v := ?_) rfl (by kernel_rfl) (by kernel_rfl) (by kernel_rfl) (fun _ _ _ h => h) (Or.inl ⟨by rfl, ?_⟩) (by assumption) ?_
        rotate_left 1
        · (intro W hSW; (try dsimp only at hSW); first | (go_simp; done) | (go_simp; with_reducible rfl))
        try simp only [Act.put, List.setIfInBounds_toArray, List.set_cons_zero, List.set_cons_succ]
        refine wpAnyH_take (i := 9) (oi := { dst := some 93, op := Op.load 33 (Operand.tmp 18), type := 33, pos := "law.go:211", after := #[{ on := 7, ground := Ground.guard }], guard := some (7, true) }) (v := ?_) rfl (by kernel_rfl) (by kernel_rfl) (by kernel_rfl) (fun _ _ _ h => h) (Or.inl ⟨by rfl, ?_⟩) (by assumption) ?_
        rotate_left 1
        · (intro W hSW; (try dsimp only at hSW); first | (go_simp; done) | (go_simp; with_reducible rfl))
        try simp only [Act.put, List.setIfInBounds_toArray, List.set_cons_zero, List.set_cons_succ]
        refine wpAnyH_take (i := 11) (oi := { dst := some 95, op := Op.move (Operand.tmp 13), type := 57, pos := "law.go:211", after := #[{ on := 7, ground := Ground.guard }], guard := some (7, true) }) (v := ?_) rfl (by kernel_rfl) (by kernel_rfl) (by kernel_rfl) (fun _ _ _ h => h) (Or.inl ⟨by rfl, ?_⟩) (by assumption) ?_
        rotate_left 1
        · (intro W hSW; (try dsimp only at hSW); first | (go_simp; done) | (go_simp; with_reducible rfl))
        try simp only [Act.put, List.setIfInBounds_toArray, List.set_cons_zero, List.set_cons_succ]
        refine wpAnyH_take (i := 12) (oi := { dst := some 96, op := Op.load 33 (Operand.tmp 18), type := 33, pos := "law.go:211", after := #[{ on := 7, ground := Ground.guard }], guard := some (7, true) }) (v := ?_) rfl (by kernel_rfl) (by kernel_rfl) (by kernel_rfl) (fun _ _ _ h => h) (Or.inl ⟨by rfl, ?_⟩) (by assumption) ?_
        rotate_left 1
        · (intro W hSW; (try dsimp only at hSW); first | (go_simp; done) | (go_simp; with_reducible rfl))
        try simp only [Act.put, List.setIfInBounds_toArray, List.set_cons_zero, List.set_cons_succ]
        refine wpAnyH_ready (rs := [10]) (by kernel_rfl) (by simp) ?_
        refine (AllReadyH.cons (o := { dst := some 94, op := Op.call { callee := Callee.value (Operand.func 51), args := #[Operand.tmp 92, Operand.tmp 93], argTypes := #[57, 33] }, type := 4, pos := "law.go:211", after := #[{ on := 8, ground := Ground.data }, { on := 9, ground := Ground.data }, { on := 7, ground := Ground.chain }, { on := 7, ground := Ground.guard }], guard := some (7, true) }) rfl (fun K hK => ?_) AllReadyH.nil)
        rw [if_pos (by rfl)]
        go_simp
        go_at_call 51
        refine (containsM (HMX.out.grown (hgr1)) HGX.out.2.2.1 HGX.out.2.2.2.2 HGX.out.2.2.2.1 (HMM.out.grown (hgr1)) (insS_rows HA.out.2.1) HWM.out).mono ?_
        rintro e wc2 ⟨rfl, gc2⟩
        have hgr2 := World.grownBy.trans hgr1 gc2
        go_wp2_with fail
        refine hK.out _ _ (HS.out _ hgr2) (fun hHeld => ?_)
        clear hK K
        try simp only [Act.put, List.setIfInBounds_toArray, List.set_cons_zero, List.set_cons_succ]
        refine wpAnyH_ready (rs := [13]) (by kernel_rfl) (by simp) ?_
        refine (AllReadyH.cons (o := { dst := some 97, op := Op.call { callee := Callee.value (Operand.func 51), args := #[Operand.tmp 95, Operand.tmp 96], argTypes := #[57, 33] }, type := 4, pos := "law.go:211", after := #[{ on := 11, ground := Ground.data }, { on := 12, ground := Ground.data }, { on := 10, ground := Ground.chain }, { on := 7, ground := Ground.guard }], guard := some (7, true) }) rfl (fun K hK => ?_) AllReadyH.nil)
        rw [if_pos (by rfl)]
        go_simp
        go_at_call 51
        refine (containsM (HMB.out.grown (hgr2)) HBB.out.2.2 hn6 HBB.out.2.1 (HMM.out.grown (hgr2)) (insS_rows HA.out.2.1) HQ2.out).mono ?_
        rintro e wc3 ⟨rfl, gc3⟩
        have hgr3 := World.grownBy.trans hgr2 gc3
        go_wp2_with fail
        refine hK.out _ _ (HS.out _ hgr3) (fun hHeld => ?_)
        clear hK K
        try simp only [Act.put, List.setIfInBounds_toArray, List.set_cons_zero, List.set_cons_succ]
        refine wpAnyH_take (i := 14) (oi := { dst := some 98, op := Op.binOp BinOp.eql 4 (Operand.tmp 94) (Operand.tmp 97) 4, type := 4, pos := "law.go:211", after := #[{ on := 10, ground := Ground.data }, { on := 13, ground := Ground.data }, { on := 7, ground := Ground.guard }], guard := some (7, true) }) (v := ?_) rfl (by kernel_rfl) (by kernel_rfl) (by kernel_rfl) (fun _ _ _ h => h) (Or.inl ⟨by rfl, ?_⟩) (by assumption) ?_
        rotate_left 1
        · (intro W hSW; (try dsimp only at hSW); first | (go_simp; done) | (go_simp; with_reducible rfl))
        try simp only [Act.put, List.setIfInBounds_toArray, List.set_cons_zero, List.set_cons_succ]
        refine wpAnyH_take (i := 15) (oi := { dst := some 99, op := Op.pick (Operand.tmp 91) (Operand.tmp 98) (Operand.const (Value.bool false)), type := 4, pos := "law.go:211", after := #[{ on := 7, ground := Ground.data }, { on := 14, ground := Ground.data }], guard := none }) (v := ?_) rfl (by kernel_rfl) (by kernel_rfl) (by kernel_rfl) (fun _ _ _ h => h) (Or.inl ⟨by rfl, ?_⟩) (by assumption) ?_
        rotate_left 1
        · (intro W hSW; (try dsimp only at hSW); first | (go_simp; done) | (go_simp; with_reducible rfl))
        try simp only [Act.put, List.setIfInBounds_toArray, List.set_cons_zero, List.set_cons_succ]
        refine wpAnyH_take (i := 16) (oi := { dst := some 10, op := Op.assign (Operand.tmp 99), type := 4, pos := "law.go:211", after := #[{ on := 15, ground := Ground.data }, { on := 13, ground := Ground.chain }, { on := 0, ground := Ground.phase }, { on := 1, ground := Ground.phase }, { on := 2, ground := Ground.phase }, { on := 3, ground := Ground.phase }, { on := 4, ground := Ground.phase }, { on := 5, ground := Ground.phase }, { on := 6, ground := Ground.phase }, { on := 7, ground := Ground.phase }, { on := 8, ground := Ground.phase }, { on := 9, ground := Ground.phase }, { on := 10, ground := Ground.phase }, { on := 11, ground := Ground.phase }, { on := 12, ground := Ground.phase }, { on := 13, ground := Ground.phase }, { on := 14, ground := Ground.phase }, { on := 15, ground := Ground.phase }], guard := none }) (v := ?_) rfl (by kernel_rfl) (by kernel_rfl) (by kernel_rfl) (fun _ _ _ h => h) (Or.inl ⟨by rfl, ?_⟩) (by assumption) ?_
        rotate_left 1
        · (intro W hSW; (try dsimp only at hSW); first | (go_simp; done) | (go_simp; with_reducible rfl))
        try simp only [Act.put, List.setIfInBounds_toArray, List.set_cons_zero, List.set_cons_succ]
        refine wpAnyH_done (by kernel_rfl) ?_ _
        have hEND := hgr3
        clear hHeld
        go_wp2_with fail
        go_ret
        exact ⟨rfl, HG.out.trans hEND⟩
    · subst hE
      subst hxf
      have HQF : Hid (Q2 = false) := Lib.hid (by rw [← HQ2.out]; exact within_none HA.out.1 HBB.out.1 (insS_up HA.out.1 pk0) (insS_in HA.out.1 pk0) hk)
      have hqf := HQF.out
      subst hqf
      clear hk hXz
      have hbm := HMM.out
      obtain ⟨m0, m1, m2, m3, _⟩ := hbm
      go_wp2_with fail
      clear m0 m1 m2 m3
      refine (containsM HMB.out HBB.out.2.2 hn6 HBB.out.2.1 HMM.out (insS_rows HA.out.2.1) HQ2.out).mono ?_
      rintro e v23 ⟨rfl, gh⟩
      replace HB := Lib.hid (HB.out.grown gh)
      replace HMA := Lib.hid (HMA.out.grown gh)
      replace HMB := Lib.hid (HMB.out.grown gh)
      replace HMX := Lib.hid (HMX.out.grown gh)
      replace HMY := Lib.hid (HMY.out.grown gh)
      replace HMM := Lib.hid (HMM.out.grown gh)
      replace HG := Lib.hid (HG.out.trans gh)
      clear gh
      go_wp2_with fail
      go_ret
      exact ⟨rfl, HG.out⟩
end Go.Proofs.Ytbddpjofhddilaa
