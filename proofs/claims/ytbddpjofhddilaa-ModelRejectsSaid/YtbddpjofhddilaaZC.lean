/- The law of models that are not valid. -/
import Derived.Test.YtbddpjofhddilaaZD
import Derived.Deep.RegionHeld3
import Derived.Deep.DeepCutAuto
namespace Go.Proofs.Ytbddpjofhddilaa
open Go.RowKit

set_option maxRecDepth 100000 in
set_option maxHeartbeats 20000000 in
theorem rejects_calls (hh : HeadSays) (s1 : Option Addr) (ns c1 : Nat) (F : List Fd) (fa : Option Addr) (fc : Nat) (s3 : Option Addr) (n3 q3 : Nat) (s4 : Option Addr) (n4 q4 : Nat) (us : List Int) (sa : Option Addr) (sc : Nat) (st : Int) (ta : Option Addr) (L : List (List Rl)) (tc : Nat) (lp : Int) (y fi at_ : Nat) (w : World)
    (hF : Fields w fa fc F) (hu : Ints w sa sc us) (hT : Sts w ta tc L) (hy : y < 256) (hfi : fi < 256) (hat : at_ < 256) :
    Calls Try.prog 9 #[.agg #[.slice s1 ns c1, .slice fa F.length fc, .slice s3 n3 q3, .slice s4 n4 q4], .agg #[.slice sa us.length sc, .int .i64 st, .slice ta L.length tc, .int .i64 lp], .int .u8 (y : Int), .int .u8 (fi : Int), .int .u8 (at_ : Int)] w fun e w' => e = .returned (.bool true) ∧ w.grownBy w' none := by
  have HSM := Lib.hid (fun (W' : World) (hW' : w.grownBy W' none) => small_calls s1 fa s3 s4 ns c1 fc n3 q3 n4 q4 F sa us.length sc st ta L tc lp W' (hF.grown hW') (hT.grown hW'))
  obtain ⟨n, hn⟩ : ∃ n, us.length = n := ⟨_, rfl⟩
  obtain ⟨k, hk⟩ : ∃ k, L.length = k := ⟨_, rfl⟩
  obtain ⟨f, hf⟩ : ∃ k, F.length = k := ⟨_, rfl⟩
  rw [hn, hk, hf] at HSM
  have hg := (World.grownBy_alloc w (.cells #[.slice s1 ns c1, .slice fa f fc, .slice s3 n3 q3, .slice s4 n4 q4] 27) none).trans (World.grownBy_alloc (w.alloc (.cells #[.slice s1 ns c1, .slice fa f fc, .slice s3 n3 q3, .slice s4 n4 q4] 27)) (.cells #[.slice sa n sc, .int .i64 st, .slice ta k tc, .int .i64 lp] 33) none)
  have hc := eight_cells w (.slice s1 ns c1) (.slice fa f fc) (.slice s3 n3 q3) (.slice s4 n4 q4) (.slice sa n sc) (.int .i64 st) (.slice ta k tc) (.int .i64 lp) 27 33
  obtain ⟨W, hW⟩ : ∃ W, (w.alloc (.cells #[.slice s1 ns c1, .slice fa f fc, .slice s3 n3 q3, .slice s4 n4 q4] 27)).alloc (.cells #[.slice sa n sc, .int .i64 st, .slice ta k tc, .int .i64 lp] 33) = W := ⟨_, rfl⟩
  rw [hW] at hg hc
  have HN := Lib.hid (And.intro hn (And.intro hk (And.intro hf (And.intro hF (And.intro hu hT)))))
  rw [hn, hk, hf]
  clear hn hk hf hF hu hT
  have HG := Lib.hid hg; clear hg
  have HBX := Lib.hid (fun (W' : World) (g : W.grownBy W' none) => And.intro (And.intro (g.cell hc.1.1 (by simp)) (And.intro (g.cell hc.1.2.1 (by simp)) (And.intro (g.cell hc.1.2.2.1 (by simp)) (g.cell hc.1.2.2.2 (by simp)))))
    (And.intro (g.cell hc.2.1 (by simp)) (And.intro (g.cell hc.2.2.1 (by simp)) (And.intro (g.cell hc.2.2.2.1 (by simp)) (g.cell hc.2.2.2.2 (by simp))))))
  clear hc
  have HW := Lib.hid hW; clear hW
  go_enter Try.func9, Try.ntmps9
  go_wp2_with fail
  rw [HW.out]
  clear HW
  refine (hh W).mono ?_
  rintro e w0 ⟨rfl, g0⟩
  have HG0 := Lib.hid g0; clear g0
  obtain ⟨⟨a0, a1, a2, a3⟩, b0, b1, b2, b3⟩ := HBX.out w0 HG0.out
  go_wp2_with fail
  refine (HSM.out _ (HG.out.trans HG0.out)).mono ?_
  rintro e w1 ⟨rfl, g1⟩
  have HG1 := Lib.hid (HG0.out.trans g1); clear g1 a0 a1 a2 a3 b0 b1 b2 b3
  obtain ⟨⟨a0, a1, a2, a3⟩, b0, b1, b2, b3⟩ := HBX.out w1 HG1.out
  obtain ⟨B, hB⟩ : ∃ B, smallB ns n F L = B := ⟨_, rfl⟩
  rw [hB]
  cases B with
  | false =>
    clear hB
    go_wp2_with fail
    go_ret
    exact ⟨rfl, HG.out.trans HG1.out⟩
  | true =>
  have hsm := smallB_iff.1 hB
  have HF := Lib.hid (And.intro hsm.1 (And.intro (small_facts hB).2 (fun fd (hfd : fd ∈ F) => of_decide_eq_true (List.all_eq_true.1 hsm.2.2 fd hfd)))); clear hB hsm
  have HVA := Lib.hid (fun (W' : World) (g : W.grownBy W' none) => by
    have gg := HG.out.trans g
    have h := modelValid_calls s1 fa s3 s4 ns c1 fc n3 q3 n4 q4 F us sa sc st ta L tc lp W' (HN.out.2.2.2.1.grown gg) (HN.out.2.2.2.2.1.grown gg) (HN.out.2.2.2.2.2.grown gg) HF.out.1.1 HF.out.1.2.1 (by rw [HN.out.1]; exact HF.out.1.2.2.2) HF.out.1.2.2.1 HF.out.2.1 HF.out.2.2
    rw [HN.out.1, HN.out.2.1, HN.out.2.2.1] at h
    exact h)
  go_wp2_with fail
  refine (HVA.out _ HG1.out).mono ?_
  rintro e w2 ⟨rfl, g2⟩
  have HG2 := Lib.hid (HG1.out.trans g2); clear g2 a0 a1 a2 a3 b0 b1 b2 b3
  obtain ⟨⟨a0, a1, a2, a3⟩, b0, b1, b2, b3⟩ := HBX.out w2 HG2.out
  obtain ⟨B, hB⟩ : ∃ B, validM ns us st F L lp = B := ⟨_, rfl⟩
  rw [hB]
  cases B with
  | false =>
    clear hB
    go_wp2_with fail
    go_ret
    exact ⟨rfl, HG.out.trans HG2.out⟩
  | true =>
  obtain ⟨v0, v1, v2, v3, v4⟩ := validM_parts hB
  have HV := Lib.hid hB; clear hB
  obtain ⟨hk1, hk64, hlp0, hlpk⟩ := loopedB_iff.1 v2
  obtain ⟨t1, t4, hu4⟩ := validI_four v0
  have HVI := Lib.hid v0
  rw [HN.out.2.1] at hk1 hk64 hlpk v1
  have hk4 : k ≤ 4 := by omega
  clear v0 v1 v2 v3 v4 a0 a1 a2 a3 b0 b1 b2 b3
  obtain ⟨q, hq⟩ : ∃ q, y % k = q := ⟨_, rfl⟩
  have hqk : q < k := by rw [← hq]; exact Nat.mod_lt _ (by omega)
  have hqI : (y : Int) % (k : Int) = (q : Int) := by omega
  have hk0 : ((k : Int) == 0) = false := by simp; omega
  have hk00 : (k : Int) ≠ 0 := by omega
  have hqkI : (q : Int) < (k : Int) := by omega
  clear hq
  have htc : k ≤ tc := by have := HN.out.2.2.2.2.2.1; rw [HN.out.2.1] at this; exact this
  obtain ⟨l, hl⟩ : ∃ l, L[q]? = some l := ⟨_, List.getElem?_eq_getElem (by rw [HN.out.2.1]; exact hqk)⟩
  obtain ⟨tb, tof, rfl, la, lc, hlc, hrl⟩ := HN.out.2.2.2.2.2.2 q l hl
  have hlf : l.length = f := by rw [validM_len HV.out hl]; exact HN.out.2.2.1
  rw [hlf] at hlc
  have HL := Lib.hid (And.intro hl (And.intro hlf (And.intro hlc hrl))); clear hl hlf hlc hrl
  obtain ⟨da, dc, hds, hdr⟩ := sts_drop HN.out.2.2.2.2.2 HN.out.2.1 hk1
  have HDR := Lib.hid hdr; clear hdr
  obtain ⟨⟨a0, a1, a2, a3⟩, b0, b1, b2, b3⟩ := HBX.out w2 HG2.out
  go_upto_region 4 with fail
  go_cut [12, 13, 14] (fun s12 s13 s14 wx => ∃ p1 p2 p3, s12 = .pointer (some ⟨p1, 0, none⟩) ∧ s13 = .pointer (some ⟨p2, 0, none⟩) ∧ s14 = .pointer (some ⟨p3, 0, none⟩) ∧ (p1 ≠ p2 ∧ p1 ≠ p3 ∧ p2 ≠ p3) ∧ (w2.heap.size ≤ p1 ∧ w2.heap.size ≤ p2 ∧ w2.heap.size ≤ p3) ∧
    Held4 wx p1 (.slice sa n sc) (.int .i64 st) (.slice (some ⟨tb, tof, none⟩) k tc) (.int .i64 lp) ∧ Held4 wx p2 (.slice sa n sc) (.int .i64 st) (.slice (some ⟨tb, tof, none⟩) k tc) (.int .i64 lp) ∧ Held4 wx p3 (.slice sa n sc) (.int .i64 st) (.slice (some ⟨tb, tof, none⟩) k tc) (.int .i64 lp) ∧ w2.grownBy wx none)
  case first =>
    have HS := Lib.hid (fun (Wh : World) (hWh : w2.grownBy Wh none) => (⟨hWh, hWh.cell b0 (by simp), hWh.cell b1 (by simp), hWh.cell b2 (by simp), hWh.cell b3 (by simp)⟩ : (fun Wh : World => w2.grownBy Wh none ∧ Wh.cell? ⟨w.heap.size + 1, 0, none⟩ = some (.slice sa n sc) ∧ Wh.cell? ⟨w.heap.size + 1, 1, none⟩ = some (.int .i64 st) ∧ Wh.cell? ⟨w.heap.size + 1, 2, none⟩ = some (.slice (some ⟨tb, tof, none⟩) k tc) ∧ Wh.cell? ⟨w.heap.size + 1, 3, none⟩ = some (.int .i64 lp)) Wh))
    clear a0 a1 a2 a3 b0 b1 b2 b3
    have hdr : w2.grownBy w2.drew none := ⟨rfl, rfl, rfl, Nat.le_refl _, fun _ _ _ => rfl⟩
    refine wp_region_held_drew (S := (fun Wh : World => w2.grownBy Wh none ∧ Wh.cell? ⟨w.heap.size + 1, 0, none⟩ = some (.slice sa n sc) ∧ Wh.cell? ⟨w.heap.size + 1, 1, none⟩ = some (.int .i64 st) ∧ Wh.cell? ⟨w.heap.size + 1, 2, none⟩ = some (.slice (some ⟨tb, tof, none⟩) k tc) ∧ Wh.cell? ⟨w.heap.size + 1, 3, none⟩ = some (.int .i64 lp))) (by kernel_rfl) (HS.out _ hdr) (fun hHeld => ?_)
    refine wpAnyH_take (i := 0) (oi := { dst := some 34, op := Op.load 33 (Operand.tmp 6), type := 33, pos := "law.go:151", after := #[], guard := none }) (v := ?_) rfl (by kernel_rfl) (by kernel_rfl) (by kernel_rfl) (fun _ _ _ h => h) (Or.inl ⟨by rfl, ?_⟩) (by assumption) ?_
    rotate_left 1
    · (intro W hSW; (try dsimp only at hSW); first | (go_simp; done) | (go_simp; with_reducible rfl))
    try simp only [Act.put, List.setIfInBounds_toArray, List.set_cons_zero, List.set_cons_succ]
    refine wpAnyH_take (i := 1) (oi := { dst := some 35, op := Op.load 33 (Operand.tmp 6), type := 33, pos := "law.go:151", after := #[{ on := 6, ground := Ground.gcOnly Departure.lateStores }], guard := none }) (v := ?_) rfl (by kernel_rfl) (by kernel_rfl) (by kernel_rfl) (fun _ _ _ h => h) (Or.inl ⟨by rfl, ?_⟩) (by assumption) ?_
    rotate_left 1
    · (intro W hSW; (try dsimp only at hSW); first | (go_simp; done) | (go_simp; with_reducible rfl))
    try simp only [Act.put, List.setIfInBounds_toArray, List.set_cons_zero, List.set_cons_succ]
    refine wpAnyH_take (i := 2) (oi := { dst := some 36, op := Op.load 33 (Operand.tmp 6), type := 33, pos := "law.go:151", after := #[{ on := 7, ground := Ground.gcOnly Departure.lateStores }], guard := none }) (v := ?_) rfl (by kernel_rfl) (by kernel_rfl) (by kernel_rfl) (fun _ _ _ h => h) (Or.inl ⟨by rfl, ?_⟩) (by assumption) ?_
    rotate_left 1
    · (intro W hSW; (try dsimp only at hSW); first | (go_simp; done) | (go_simp; with_reducible rfl))
    try simp only [Act.put, List.setIfInBounds_toArray, List.set_cons_zero, List.set_cons_succ]
    refine wpAnyH_ready (rs := [3, 4, 5]) (by kernel_rfl) (by simp) ?_
    refine (AllReadyH.cons (o := { dst := some 12, op := Op.alloc 33, type := 0, pos := "law.go:151", after := #[], guard := none }) rfl (fun K hK => ?_) (AllReadyH.cons (o := { dst := some 13, op := Op.alloc 33, type := 0, pos := "law.go:151", after := #[], guard := none }) rfl (fun K hK => ?_) (AllReadyH.cons (o := { dst := some 14, op := Op.alloc 33, type := 0, pos := "law.go:151", after := #[], guard := none }) rfl (fun K hK => ?_) AllReadyH.nil)))
    · rw [if_pos (by rfl)]
      go_simp
      have hga3 : w2.grownBy ((World.alloc w2 (.cells #[.slice none 0 0, .int .i64 0, .slice none 0 0, .int .i64 0] 33)).drew) none := World.grownBy.trans (World.grownBy_alloc w2 (.cells #[.slice none 0 0, .int .i64 0, .slice none 0 0, .int .i64 0] 33) none) (⟨rfl, rfl, rfl, Nat.le_refl _, fun _ _ _ => rfl⟩ : (World.alloc w2 (.cells #[.slice none 0 0, .int .i64 0, .slice none 0 0, .int .i64 0] 33)).grownBy (World.alloc w2 (.cells #[.slice none 0 0, .int .i64 0, .slice none 0 0, .int .i64 0] 33)).drew none)
      have hz3 := (Held4.newZ w2).off (⟨rfl, rfl, rfl, Nat.le_refl _, fun _ _ _ => rfl⟩ : (World.alloc w2 (.cells #[.slice none 0 0, .int .i64 0, .slice none 0 0, .int .i64 0] 33)).grownBy (World.alloc w2 (.cells #[.slice none 0 0, .int .i64 0, .slice none 0 0, .int .i64 0] 33)).drew none) (fun x e => by cases e)
      have hgq3 : w2.heap.size ≤ w2.heap.size := Nat.le_refl _
      have hge3 : ∀ p, w2.heap.size = p → w2.heap.size ≤ p := fun p e => by rw [← e]; exact hgq3
      clear hgq3
      obtain ⟨WA3, hWA3⟩ : ∃ z, (World.alloc w2 (.cells #[.slice none 0 0, .int .i64 0, .slice none 0 0, .int .i64 0] 33)).drew = z := ⟨_, rfl⟩
      rw [hWA3] at hga3 hz3 ⊢
      clear hWA3
      obtain ⟨p3, hp3⟩ : ∃ p, w2.heap.size = p := ⟨_, rfl⟩
      replace hge3 := hge3 p3 hp3
      rw [hp3] at hz3 ⊢
      clear hp3
      refine hK.out _ _ (HS.out _ hga3) (fun hHeld => ?_)
      clear hK K
      try simp only [Act.put, List.setIfInBounds_toArray, List.set_cons_zero, List.set_cons_succ]
      refine wpAnyH_ready (rs := [4, 5]) (by kernel_rfl) (by simp) ?_
      refine (AllReadyH.cons (o := { dst := some 13, op := Op.alloc 33, type := 0, pos := "law.go:151", after := #[], guard := none }) rfl (fun K hK => ?_) (AllReadyH.cons (o := { dst := some 14, op := Op.alloc 33, type := 0, pos := "law.go:151", after := #[], guard := none }) rfl (fun K hK => ?_) AllReadyH.nil))
      · rw [if_pos (by rfl)]
        go_simp
        have hga4 : w2.grownBy (World.alloc WA3 (.cells #[.slice none 0 0, .int .i64 0, .slice none 0 0, .int .i64 0] 33)) none := World.grownBy.trans hga3 (World.grownBy_alloc WA3 (.cells #[.slice none 0 0, .int .i64 0, .slice none 0 0, .int .i64 0] 33) none)
        have hz4 := Held4.newZ WA3
        have hgq4 : w2.heap.size ≤ WA3.heap.size := World.grownBy.size hga3
        have hge4 : ∀ p, WA3.heap.size = p → w2.heap.size ≤ p := fun p e => by rw [← e]; exact hgq4
        clear hgq4
        have hd34 : p3 ≠ WA3.heap.size := Nat.ne_of_lt hz3.lt
        replace hz3 := hz3.off (World.grownBy_alloc WA3 (.cells #[.slice none 0 0, .int .i64 0, .slice none 0 0, .int .i64 0] 33) none) (fun x e => by cases e)
        obtain ⟨WA4, hWA4⟩ : ∃ z, World.alloc WA3 (.cells #[.slice none 0 0, .int .i64 0, .slice none 0 0, .int .i64 0] 33) = z := ⟨_, rfl⟩
        rw [hWA4] at hga4 hz4 ⊢
        rw [hWA4] at hz3
        clear hWA4
        obtain ⟨p4, hp4⟩ : ∃ p, WA3.heap.size = p := ⟨_, rfl⟩
        replace hge4 := hge4 p4 hp4
        rw [hp4] at hz4 ⊢
        rw [hp4] at hd34
        clear hp4
        refine hK.out _ _ (HS.out _ hga4) (fun hHeld => ?_)
        clear hK K
        try simp only [Act.put, List.setIfInBounds_toArray, List.set_cons_zero, List.set_cons_succ]
        refine wpAnyH_ready (rs := [5]) (by kernel_rfl) (by simp) ?_
        refine (AllReadyH.cons (o := { dst := some 14, op := Op.alloc 33, type := 0, pos := "law.go:151", after := #[], guard := none }) rfl (fun K hK => ?_) AllReadyH.nil)
        rw [if_pos (by rfl)]
        go_simp
        have hga5 : w2.grownBy (World.alloc WA4 (.cells #[.slice none 0 0, .int .i64 0, .slice none 0 0, .int .i64 0] 33)) none := World.grownBy.trans hga4 (World.grownBy_alloc WA4 (.cells #[.slice none 0 0, .int .i64 0, .slice none 0 0, .int .i64 0] 33) none)
        have hz5 := Held4.newZ WA4
        have hgq5 : w2.heap.size ≤ WA4.heap.size := World.grownBy.size hga4
        have hge5 : ∀ p, WA4.heap.size = p → w2.heap.size ≤ p := fun p e => by rw [← e]; exact hgq5
        clear hgq5
        have hd35 : p3 ≠ WA4.heap.size := Nat.ne_of_lt hz3.lt
        replace hz3 := hz3.off (World.grownBy_alloc WA4 (.cells #[.slice none 0 0, .int .i64 0, .slice none 0 0, .int .i64 0] 33) none) (fun x e => by cases e)
        have hd45 : p4 ≠ WA4.heap.size := Nat.ne_of_lt hz4.lt
        replace hz4 := hz4.off (World.grownBy_alloc WA4 (.cells #[.slice none 0 0, .int .i64 0, .slice none 0 0, .int .i64 0] 33) none) (fun x e => by cases e)
        obtain ⟨WA5, hWA5⟩ : ∃ z, World.alloc WA4 (.cells #[.slice none 0 0, .int .i64 0, .slice none 0 0, .int .i64 0] 33) = z := ⟨_, rfl⟩
        rw [hWA5] at hga5 hz5 ⊢
        rw [hWA5] at hz3
        rw [hWA5] at hz4
        clear hWA5
        obtain ⟨p5, hp5⟩ : ∃ p, WA4.heap.size = p := ⟨_, rfl⟩
        replace hge5 := hge5 p5 hp5
        rw [hp5] at hz5 ⊢
        rw [hp5] at hd35
        rw [hp5] at hd45
        clear hp5
        refine hK.out _ _ (HS.out _ hga5) (fun hHeld => ?_)
        clear hK K
        try simp only [Act.put, List.setIfInBounds_toArray, List.set_cons_zero, List.set_cons_succ]
        refine wpAnyH_ready (rs := [6]) (by kernel_rfl) (by simp) ?_
        refine (AllReadyH.cons (o := { dst := none, op := Op.store 33 (Operand.tmp 12) (Operand.tmp 34), type := 0, pos := "law.go:151", after := #[{ on := 3, ground := Ground.data }, { on := 0, ground := Ground.data }, { on := 0, ground := Ground.phase }, { on := 1, ground := Ground.textOnly Departure.lateStores }, { on := 2, ground := Ground.textOnly Departure.lateStores }, { on := 3, ground := Ground.phase }, { on := 4, ground := Ground.phase }, { on := 5, ground := Ground.phase }], guard := none }) rfl (fun K hK => ?_) AllReadyH.nil)
        rw [if_pos (by rfl)]
        have hzz := hz3
        obtain ⟨⟨x0, x1, x2, x3⟩, xf⟩ := hzz
        have xf0 := xf 0
        have xf1 := xf 1
        have xf2 := xf 2
        have xf3 := xf 3
        clear xf
        go_simp
        clear x0 x1 x2 x3 xf0 xf1 xf2 xf3
        have hst := hz3.put (.slice sa n sc) (.int .i64 st) (.slice (some ⟨tb, tof, none⟩) k tc) (.int .i64 lp)
        have hga6 := grown_own hga5 hst.2 (fun k hk => by cases hk; exact hge3)
        replace hz4 := hz4.off hst.2 (fun x e => by cases e; first | exact hd34 | exact fun h => hd43 h.symm)
        replace hz5 := hz5.off hst.2 (fun x e => by cases e; first | exact hd35 | exact fun h => hd53 h.symm)
        replace hz3 := hst.1
        clear hst
        obtain ⟨WS6, hWS6⟩ : ∃ z, (World.setCell (World.setCell (World.setCell (World.setCell WA5 ⟨p3, 0, none⟩ (.slice sa n sc)) ⟨p3, 1, none⟩ (.int .i64 st)) ⟨p3, 2, none⟩ (.slice (some ⟨tb, tof, none⟩) k tc)) ⟨p3, 3, none⟩ (.int .i64 lp)) = z := ⟨_, rfl⟩
        rw [hWS6] at hga6 hz3 ⊢
        rw [hWS6] at hz4
        rw [hWS6] at hz5
        clear hWS6
        refine hK.out _ _ (HS.out _ hga6) (fun hHeld => ?_)
        clear hK K
        try simp only [Act.put, List.setIfInBounds_toArray, List.set_cons_zero, List.set_cons_succ]
        refine wpAnyH_ready (rs := [7]) (by kernel_rfl) (by simp) ?_
        refine (AllReadyH.cons (o := { dst := none, op := Op.store 33 (Operand.tmp 13) (Operand.tmp 35), type := 0, pos := "law.go:151", after := #[{ on := 4, ground := Ground.data }, { on := 1, ground := Ground.data }, { on := 6, ground := Ground.chain }, { on := 0, ground := Ground.phase }, { on := 1, ground := Ground.phase }, { on := 2, ground := Ground.textOnly Departure.lateStores }, { on := 3, ground := Ground.phase }, { on := 4, ground := Ground.phase }, { on := 5, ground := Ground.phase }, { on := 6, ground := Ground.phase }], guard := none }) rfl (fun K hK => ?_) AllReadyH.nil)
        rw [if_pos (by rfl)]
        have hzz := hz4
        obtain ⟨⟨x0, x1, x2, x3⟩, xf⟩ := hzz
        have xf0 := xf 0
        have xf1 := xf 1
        have xf2 := xf 2
        have xf3 := xf 3
        clear xf
        go_simp
        clear x0 x1 x2 x3 xf0 xf1 xf2 xf3
        have hst := hz4.put (.slice sa n sc) (.int .i64 st) (.slice (some ⟨tb, tof, none⟩) k tc) (.int .i64 lp)
        have hga7 := grown_own hga6 hst.2 (fun k hk => by cases hk; exact hge4)
        replace hz3 := hz3.off hst.2 (fun x e => by cases e; first | exact hd43 | exact fun h => hd34 h.symm)
        replace hz5 := hz5.off hst.2 (fun x e => by cases e; first | exact hd45 | exact fun h => hd54 h.symm)
        replace hz4 := hst.1
        clear hst
        obtain ⟨WS7, hWS7⟩ : ∃ z, (World.setCell (World.setCell (World.setCell (World.setCell WS6 ⟨p4, 0, none⟩ (.slice sa n sc)) ⟨p4, 1, none⟩ (.int .i64 st)) ⟨p4, 2, none⟩ (.slice (some ⟨tb, tof, none⟩) k tc)) ⟨p4, 3, none⟩ (.int .i64 lp)) = z := ⟨_, rfl⟩
        rw [hWS7] at hga7 hz4 ⊢
        rw [hWS7] at hz3
        rw [hWS7] at hz5
        clear hWS7
        refine hK.out _ _ (HS.out _ hga7) (fun hHeld => ?_)
        clear hK K
        try simp only [Act.put, List.setIfInBounds_toArray, List.set_cons_zero, List.set_cons_succ]
        refine wpAnyH_ready (rs := [8]) (by kernel_rfl) (by simp) ?_
        refine (AllReadyH.cons (o := { dst := none, op := Op.store 33 (Operand.tmp 14) (Operand.tmp 36), type := 0, pos := "law.go:151", after := #[{ on := 5, ground := Ground.data }, { on := 2, ground := Ground.data }, { on := 7, ground := Ground.chain }, { on := 0, ground := Ground.phase }, { on := 1, ground := Ground.phase }, { on := 2, ground := Ground.phase }, { on := 3, ground := Ground.phase }, { on := 4, ground := Ground.phase }, { on := 5, ground := Ground.phase }, { on := 6, ground := Ground.phase }, { on := 7, ground := Ground.phase }], guard := none }) rfl (fun K hK => ?_) AllReadyH.nil)
        rw [if_pos (by rfl)]
        have hzz := hz5
        obtain ⟨⟨x0, x1, x2, x3⟩, xf⟩ := hzz
        have xf0 := xf 0
        have xf1 := xf 1
        have xf2 := xf 2
        have xf3 := xf 3
        clear xf
        go_simp
        clear x0 x1 x2 x3 xf0 xf1 xf2 xf3
        have hst := hz5.put (.slice sa n sc) (.int .i64 st) (.slice (some ⟨tb, tof, none⟩) k tc) (.int .i64 lp)
        have hga8 := grown_own hga7 hst.2 (fun k hk => by cases hk; exact hge5)
        replace hz3 := hz3.off hst.2 (fun x e => by cases e; first | exact hd53 | exact fun h => hd35 h.symm)
        replace hz4 := hz4.off hst.2 (fun x e => by cases e; first | exact hd54 | exact fun h => hd45 h.symm)
        replace hz5 := hst.1
        clear hst
        obtain ⟨WS8, hWS8⟩ : ∃ z, (World.setCell (World.setCell (World.setCell (World.setCell WS7 ⟨p5, 0, none⟩ (.slice sa n sc)) ⟨p5, 1, none⟩ (.int .i64 st)) ⟨p5, 2, none⟩ (.slice (some ⟨tb, tof, none⟩) k tc)) ⟨p5, 3, none⟩ (.int .i64 lp)) = z := ⟨_, rfl⟩
        rw [hWS8] at hga8 hz5 ⊢
        rw [hWS8] at hz3
        rw [hWS8] at hz4
        clear hWS8
        refine hK.out _ _ (HS.out _ hga8) (fun hHeld => ?_)
        clear hK K
        try simp only [Act.put, List.setIfInBounds_toArray, List.set_cons_zero, List.set_cons_succ]
        refine wpAnyH_done (by kernel_rfl) ?_ _
        have hEND := hga8
        clear hHeld
        go_wp2_with fail
        go_meet
        exact ⟨p3, p4, p5, rfl, rfl, rfl, ⟨by first | exact hd34 | exact fun h => hd43 h.symm, by first | exact hd35 | exact fun h => hd53 h.symm, by first | exact hd45 | exact fun h => hd54 h.symm⟩, ⟨hge3, hge4, hge5⟩, hz3, hz4, hz5, hEND⟩
      · rw [if_pos (by rfl)]
        go_simp
        have hga5 : w2.grownBy (World.alloc WA3 (.cells #[.slice none 0 0, .int .i64 0, .slice none 0 0, .int .i64 0] 33)) none := World.grownBy.trans hga3 (World.grownBy_alloc WA3 (.cells #[.slice none 0 0, .int .i64 0, .slice none 0 0, .int .i64 0] 33) none)
        have hz5 := Held4.newZ WA3
        have hgq5 : w2.heap.size ≤ WA3.heap.size := World.grownBy.size hga3
        have hge5 : ∀ p, WA3.heap.size = p → w2.heap.size ≤ p := fun p e => by rw [← e]; exact hgq5
        clear hgq5
        have hd35 : p3 ≠ WA3.heap.size := Nat.ne_of_lt hz3.lt
        replace hz3 := hz3.off (World.grownBy_alloc WA3 (.cells #[.slice none 0 0, .int .i64 0, .slice none 0 0, .int .i64 0] 33) none) (fun x e => by cases e)
        obtain ⟨WA5, hWA5⟩ : ∃ z, World.alloc WA3 (.cells #[.slice none 0 0, .int .i64 0, .slice none 0 0, .int .i64 0] 33) = z := ⟨_, rfl⟩
        rw [hWA5] at hga5 hz5 ⊢
        rw [hWA5] at hz3
        clear hWA5
        obtain ⟨p5, hp5⟩ : ∃ p, WA3.heap.size = p := ⟨_, rfl⟩
        replace hge5 := hge5 p5 hp5
        rw [hp5] at hz5 ⊢
        rw [hp5] at hd35
        clear hp5
        refine hK.out _ _ (HS.out _ hga5) (fun hHeld => ?_)
        clear hK K
        try simp only [Act.put, List.setIfInBounds_toArray, List.set_cons_zero, List.set_cons_succ]
        refine wpAnyH_ready (rs := [4]) (by kernel_rfl) (by simp) ?_
        refine (AllReadyH.cons (o := { dst := some 13, op := Op.alloc 33, type := 0, pos := "law.go:151", after := #[], guard := none }) rfl (fun K hK => ?_) AllReadyH.nil)
        rw [if_pos (by rfl)]
        go_simp
        have hga4 : w2.grownBy (World.alloc WA5 (.cells #[.slice none 0 0, .int .i64 0, .slice none 0 0, .int .i64 0] 33)) none := World.grownBy.trans hga5 (World.grownBy_alloc WA5 (.cells #[.slice none 0 0, .int .i64 0, .slice none 0 0, .int .i64 0] 33) none)
        have hz4 := Held4.newZ WA5
        have hgq4 : w2.heap.size ≤ WA5.heap.size := World.grownBy.size hga5
        have hge4 : ∀ p, WA5.heap.size = p → w2.heap.size ≤ p := fun p e => by rw [← e]; exact hgq4
        clear hgq4
        have hd34 : p3 ≠ WA5.heap.size := Nat.ne_of_lt hz3.lt
        replace hz3 := hz3.off (World.grownBy_alloc WA5 (.cells #[.slice none 0 0, .int .i64 0, .slice none 0 0, .int .i64 0] 33) none) (fun x e => by cases e)
        have hd54 : p5 ≠ WA5.heap.size := Nat.ne_of_lt hz5.lt
        replace hz5 := hz5.off (World.grownBy_alloc WA5 (.cells #[.slice none 0 0, .int .i64 0, .slice none 0 0, .int .i64 0] 33) none) (fun x e => by cases e)
        obtain ⟨WA4, hWA4⟩ : ∃ z, World.alloc WA5 (.cells #[.slice none 0 0, .int .i64 0, .slice none 0 0, .int .i64 0] 33) = z := ⟨_, rfl⟩
        rw [hWA4] at hga4 hz4 ⊢
        rw [hWA4] at hz3
        rw [hWA4] at hz5
        clear hWA4
        obtain ⟨p4, hp4⟩ : ∃ p, WA5.heap.size = p := ⟨_, rfl⟩
        replace hge4 := hge4 p4 hp4
        rw [hp4] at hz4 ⊢
        rw [hp4] at hd34
        rw [hp4] at hd54
        clear hp4
        refine hK.out _ _ (HS.out _ hga4) (fun hHeld => ?_)
        clear hK K
        try simp only [Act.put, List.setIfInBounds_toArray, List.set_cons_zero, List.set_cons_succ]
        refine wpAnyH_ready (rs := [6]) (by kernel_rfl) (by simp) ?_
        refine (AllReadyH.cons (o := { dst := none, op := Op.store 33 (Operand.tmp 12) (Operand.tmp 34), type := 0, pos := "law.go:151", after := #[{ on := 3, ground := Ground.data }, { on := 0, ground := Ground.data }, { on := 0, ground := Ground.phase }, { on := 1, ground := Ground.textOnly Departure.lateStores }, { on := 2, ground := Ground.textOnly Departure.lateStores }, { on := 3, ground := Ground.phase }, { on := 4, ground := Ground.phase }, { on := 5, ground := Ground.phase }], guard := none }) rfl (fun K hK => ?_) AllReadyH.nil)
        rw [if_pos (by rfl)]
        have hzz := hz3
        obtain ⟨⟨x0, x1, x2, x3⟩, xf⟩ := hzz
        have xf0 := xf 0
        have xf1 := xf 1
        have xf2 := xf 2
        have xf3 := xf 3
        clear xf
        go_simp
        clear x0 x1 x2 x3 xf0 xf1 xf2 xf3
        have hst := hz3.put (.slice sa n sc) (.int .i64 st) (.slice (some ⟨tb, tof, none⟩) k tc) (.int .i64 lp)
        have hga6 := grown_own hga4 hst.2 (fun k hk => by cases hk; exact hge3)
        replace hz5 := hz5.off hst.2 (fun x e => by cases e; first | exact hd35 | exact fun h => hd53 h.symm)
        replace hz4 := hz4.off hst.2 (fun x e => by cases e; first | exact hd34 | exact fun h => hd43 h.symm)
        replace hz3 := hst.1
        clear hst
        obtain ⟨WS6, hWS6⟩ : ∃ z, (World.setCell (World.setCell (World.setCell (World.setCell WA4 ⟨p3, 0, none⟩ (.slice sa n sc)) ⟨p3, 1, none⟩ (.int .i64 st)) ⟨p3, 2, none⟩ (.slice (some ⟨tb, tof, none⟩) k tc)) ⟨p3, 3, none⟩ (.int .i64 lp)) = z := ⟨_, rfl⟩
        rw [hWS6] at hga6 hz3 ⊢
        rw [hWS6] at hz5
        rw [hWS6] at hz4
        clear hWS6
        refine hK.out _ _ (HS.out _ hga6) (fun hHeld => ?_)
        clear hK K
        try simp only [Act.put, List.setIfInBounds_toArray, List.set_cons_zero, List.set_cons_succ]
        refine wpAnyH_ready (rs := [7]) (by kernel_rfl) (by simp) ?_
        refine (AllReadyH.cons (o := { dst := none, op := Op.store 33 (Operand.tmp 13) (Operand.tmp 35), type := 0, pos := "law.go:151", after := #[{ on := 4, ground := Ground.data }, { on := 1, ground := Ground.data }, { on := 6, ground := Ground.chain }, { on := 0, ground := Ground.phase }, { on := 1, ground := Ground.phase }, { on := 2, ground := Ground.textOnly Departure.lateStores }, { on := 3, ground := Ground.phase }, { on := 4, ground := Ground.phase }, { on := 5, ground := Ground.phase }, { on := 6, ground := Ground.phase }], guard := none }) rfl (fun K hK => ?_) AllReadyH.nil)
        rw [if_pos (by rfl)]
        have hzz := hz4
        obtain ⟨⟨x0, x1, x2, x3⟩, xf⟩ := hzz
        have xf0 := xf 0
        have xf1 := xf 1
        have xf2 := xf 2
        have xf3 := xf 3
        clear xf
        go_simp
        clear x0 x1 x2 x3 xf0 xf1 xf2 xf3
        have hst := hz4.put (.slice sa n sc) (.int .i64 st) (.slice (some ⟨tb, tof, none⟩) k tc) (.int .i64 lp)
        have hga7 := grown_own hga6 hst.2 (fun k hk => by cases hk; exact hge4)
        replace hz3 := hz3.off hst.2 (fun x e => by cases e; first | exact hd43 | exact fun h => hd34 h.symm)
        replace hz5 := hz5.off hst.2 (fun x e => by cases e; first | exact hd45 | exact fun h => hd54 h.symm)
        replace hz4 := hst.1
        clear hst
        obtain ⟨WS7, hWS7⟩ : ∃ z, (World.setCell (World.setCell (World.setCell (World.setCell WS6 ⟨p4, 0, none⟩ (.slice sa n sc)) ⟨p4, 1, none⟩ (.int .i64 st)) ⟨p4, 2, none⟩ (.slice (some ⟨tb, tof, none⟩) k tc)) ⟨p4, 3, none⟩ (.int .i64 lp)) = z := ⟨_, rfl⟩
        rw [hWS7] at hga7 hz4 ⊢
        rw [hWS7] at hz3
        rw [hWS7] at hz5
        clear hWS7
        refine hK.out _ _ (HS.out _ hga7) (fun hHeld => ?_)
        clear hK K
        try simp only [Act.put, List.setIfInBounds_toArray, List.set_cons_zero, List.set_cons_succ]
        refine wpAnyH_ready (rs := [8]) (by kernel_rfl) (by simp) ?_
        refine (AllReadyH.cons (o := { dst := none, op := Op.store 33 (Operand.tmp 14) (Operand.tmp 36), type := 0, pos := "law.go:151", after := #[{ on := 5, ground := Ground.data }, { on := 2, ground := Ground.data }, { on := 7, ground := Ground.chain }, { on := 0, ground := Ground.phase }, { on := 1, ground := Ground.phase }, { on := 2, ground := Ground.phase }, { on := 3, ground := Ground.phase }, { on := 4, ground := Ground.phase }, { on := 5, ground := Ground.phase }, { on := 6, ground := Ground.phase }, { on := 7, ground := Ground.phase }], guard := none }) rfl (fun K hK => ?_) AllReadyH.nil)
        rw [if_pos (by rfl)]
        have hzz := hz5
        obtain ⟨⟨x0, x1, x2, x3⟩, xf⟩ := hzz
        have xf0 := xf 0
        have xf1 := xf 1
        have xf2 := xf 2
        have xf3 := xf 3
        clear xf
        go_simp
        clear x0 x1 x2 x3 xf0 xf1 xf2 xf3
        have hst := hz5.put (.slice sa n sc) (.int .i64 st) (.slice (some ⟨tb, tof, none⟩) k tc) (.int .i64 lp)
        have hga8 := grown_own hga7 hst.2 (fun k hk => by cases hk; exact hge5)
        replace hz3 := hz3.off hst.2 (fun x e => by cases e; first | exact hd53 | exact fun h => hd35 h.symm)
        replace hz4 := hz4.off hst.2 (fun x e => by cases e; first | exact hd54 | exact fun h => hd45 h.symm)
        replace hz5 := hst.1
        clear hst
        obtain ⟨WS8, hWS8⟩ : ∃ z, (World.setCell (World.setCell (World.setCell (World.setCell WS7 ⟨p5, 0, none⟩ (.slice sa n sc)) ⟨p5, 1, none⟩ (.int .i64 st)) ⟨p5, 2, none⟩ (.slice (some ⟨tb, tof, none⟩) k tc)) ⟨p5, 3, none⟩ (.int .i64 lp)) = z := ⟨_, rfl⟩
        rw [hWS8] at hga8 hz5 ⊢
        rw [hWS8] at hz3
        rw [hWS8] at hz4
        clear hWS8
        refine hK.out _ _ (HS.out _ hga8) (fun hHeld => ?_)
        clear hK K
        try simp only [Act.put, List.setIfInBounds_toArray, List.set_cons_zero, List.set_cons_succ]
        refine wpAnyH_done (by kernel_rfl) ?_ _
        have hEND := hga8
        clear hHeld
        go_wp2_with fail
        go_meet
        exact ⟨p3, p4, p5, rfl, rfl, rfl, ⟨by first | exact hd34 | exact fun h => hd43 h.symm, by first | exact hd35 | exact fun h => hd53 h.symm, by first | exact hd45 | exact fun h => hd54 h.symm⟩, ⟨hge3, hge4, hge5⟩, hz3, hz4, hz5, hEND⟩
    · rw [if_pos (by rfl)]
      go_simp
      have hga4 : w2.grownBy ((World.alloc w2 (.cells #[.slice none 0 0, .int .i64 0, .slice none 0 0, .int .i64 0] 33)).drew) none := World.grownBy.trans (World.grownBy_alloc w2 (.cells #[.slice none 0 0, .int .i64 0, .slice none 0 0, .int .i64 0] 33) none) (⟨rfl, rfl, rfl, Nat.le_refl _, fun _ _ _ => rfl⟩ : (World.alloc w2 (.cells #[.slice none 0 0, .int .i64 0, .slice none 0 0, .int .i64 0] 33)).grownBy (World.alloc w2 (.cells #[.slice none 0 0, .int .i64 0, .slice none 0 0, .int .i64 0] 33)).drew none)
      have hz4 := (Held4.newZ w2).off (⟨rfl, rfl, rfl, Nat.le_refl _, fun _ _ _ => rfl⟩ : (World.alloc w2 (.cells #[.slice none 0 0, .int .i64 0, .slice none 0 0, .int .i64 0] 33)).grownBy (World.alloc w2 (.cells #[.slice none 0 0, .int .i64 0, .slice none 0 0, .int .i64 0] 33)).drew none) (fun x e => by cases e)
      have hgq4 : w2.heap.size ≤ w2.heap.size := Nat.le_refl _
      have hge4 : ∀ p, w2.heap.size = p → w2.heap.size ≤ p := fun p e => by rw [← e]; exact hgq4
      clear hgq4
      obtain ⟨WA4, hWA4⟩ : ∃ z, (World.alloc w2 (.cells #[.slice none 0 0, .int .i64 0, .slice none 0 0, .int .i64 0] 33)).drew = z := ⟨_, rfl⟩
      rw [hWA4] at hga4 hz4 ⊢
      clear hWA4
      obtain ⟨p4, hp4⟩ : ∃ p, w2.heap.size = p := ⟨_, rfl⟩
      replace hge4 := hge4 p4 hp4
      rw [hp4] at hz4 ⊢
      clear hp4
      refine hK.out _ _ (HS.out _ hga4) (fun hHeld => ?_)
      clear hK K
      try simp only [Act.put, List.setIfInBounds_toArray, List.set_cons_zero, List.set_cons_succ]
      refine wpAnyH_ready (rs := [3, 5]) (by kernel_rfl) (by simp) ?_
      refine (AllReadyH.cons (o := { dst := some 12, op := Op.alloc 33, type := 0, pos := "law.go:151", after := #[], guard := none }) rfl (fun K hK => ?_) (AllReadyH.cons (o := { dst := some 14, op := Op.alloc 33, type := 0, pos := "law.go:151", after := #[], guard := none }) rfl (fun K hK => ?_) AllReadyH.nil))
      · rw [if_pos (by rfl)]
        go_simp
        have hga3 : w2.grownBy (World.alloc WA4 (.cells #[.slice none 0 0, .int .i64 0, .slice none 0 0, .int .i64 0] 33)) none := World.grownBy.trans hga4 (World.grownBy_alloc WA4 (.cells #[.slice none 0 0, .int .i64 0, .slice none 0 0, .int .i64 0] 33) none)
        have hz3 := Held4.newZ WA4
        have hgq3 : w2.heap.size ≤ WA4.heap.size := World.grownBy.size hga4
        have hge3 : ∀ p, WA4.heap.size = p → w2.heap.size ≤ p := fun p e => by rw [← e]; exact hgq3
        clear hgq3
        have hd43 : p4 ≠ WA4.heap.size := Nat.ne_of_lt hz4.lt
        replace hz4 := hz4.off (World.grownBy_alloc WA4 (.cells #[.slice none 0 0, .int .i64 0, .slice none 0 0, .int .i64 0] 33) none) (fun x e => by cases e)
        obtain ⟨WA3, hWA3⟩ : ∃ z, World.alloc WA4 (.cells #[.slice none 0 0, .int .i64 0, .slice none 0 0, .int .i64 0] 33) = z := ⟨_, rfl⟩
        rw [hWA3] at hga3 hz3 ⊢
        rw [hWA3] at hz4
        clear hWA3
        obtain ⟨p3, hp3⟩ : ∃ p, WA4.heap.size = p := ⟨_, rfl⟩
        replace hge3 := hge3 p3 hp3
        rw [hp3] at hz3 ⊢
        rw [hp3] at hd43
        clear hp3
        refine hK.out _ _ (HS.out _ hga3) (fun hHeld => ?_)
        clear hK K
        try simp only [Act.put, List.setIfInBounds_toArray, List.set_cons_zero, List.set_cons_succ]
        refine wpAnyH_ready (rs := [5]) (by kernel_rfl) (by simp) ?_
        refine (AllReadyH.cons (o := { dst := some 14, op := Op.alloc 33, type := 0, pos := "law.go:151", after := #[], guard := none }) rfl (fun K hK => ?_) AllReadyH.nil)
        rw [if_pos (by rfl)]
        go_simp
        have hga5 : w2.grownBy (World.alloc WA3 (.cells #[.slice none 0 0, .int .i64 0, .slice none 0 0, .int .i64 0] 33)) none := World.grownBy.trans hga3 (World.grownBy_alloc WA3 (.cells #[.slice none 0 0, .int .i64 0, .slice none 0 0, .int .i64 0] 33) none)
        have hz5 := Held4.newZ WA3
        have hgq5 : w2.heap.size ≤ WA3.heap.size := World.grownBy.size hga3
        have hge5 : ∀ p, WA3.heap.size = p → w2.heap.size ≤ p := fun p e => by rw [← e]; exact hgq5
        clear hgq5
        have hd45 : p4 ≠ WA3.heap.size := Nat.ne_of_lt hz4.lt
        replace hz4 := hz4.off (World.grownBy_alloc WA3 (.cells #[.slice none 0 0, .int .i64 0, .slice none 0 0, .int .i64 0] 33) none) (fun x e => by cases e)
        have hd35 : p3 ≠ WA3.heap.size := Nat.ne_of_lt hz3.lt
        replace hz3 := hz3.off (World.grownBy_alloc WA3 (.cells #[.slice none 0 0, .int .i64 0, .slice none 0 0, .int .i64 0] 33) none) (fun x e => by cases e)
        obtain ⟨WA5, hWA5⟩ : ∃ z, World.alloc WA3 (.cells #[.slice none 0 0, .int .i64 0, .slice none 0 0, .int .i64 0] 33) = z := ⟨_, rfl⟩
        rw [hWA5] at hga5 hz5 ⊢
        rw [hWA5] at hz4
        rw [hWA5] at hz3
        clear hWA5
        obtain ⟨p5, hp5⟩ : ∃ p, WA3.heap.size = p := ⟨_, rfl⟩
        replace hge5 := hge5 p5 hp5
        rw [hp5] at hz5 ⊢
        rw [hp5] at hd45
        rw [hp5] at hd35
        clear hp5
        refine hK.out _ _ (HS.out _ hga5) (fun hHeld => ?_)
        clear hK K
        try simp only [Act.put, List.setIfInBounds_toArray, List.set_cons_zero, List.set_cons_succ]
        refine wpAnyH_ready (rs := [6]) (by kernel_rfl) (by simp) ?_
        refine (AllReadyH.cons (o := { dst := none, op := Op.store 33 (Operand.tmp 12) (Operand.tmp 34), type := 0, pos := "law.go:151", after := #[{ on := 3, ground := Ground.data }, { on := 0, ground := Ground.data }, { on := 0, ground := Ground.phase }, { on := 1, ground := Ground.textOnly Departure.lateStores }, { on := 2, ground := Ground.textOnly Departure.lateStores }, { on := 3, ground := Ground.phase }, { on := 4, ground := Ground.phase }, { on := 5, ground := Ground.phase }], guard := none }) rfl (fun K hK => ?_) AllReadyH.nil)
        rw [if_pos (by rfl)]
        have hzz := hz3
        obtain ⟨⟨x0, x1, x2, x3⟩, xf⟩ := hzz
        have xf0 := xf 0
        have xf1 := xf 1
        have xf2 := xf 2
        have xf3 := xf 3
        clear xf
        go_simp
        clear x0 x1 x2 x3 xf0 xf1 xf2 xf3
        have hst := hz3.put (.slice sa n sc) (.int .i64 st) (.slice (some ⟨tb, tof, none⟩) k tc) (.int .i64 lp)
        have hga6 := grown_own hga5 hst.2 (fun k hk => by cases hk; exact hge3)
        replace hz4 := hz4.off hst.2 (fun x e => by cases e; first | exact hd34 | exact fun h => hd43 h.symm)
        replace hz5 := hz5.off hst.2 (fun x e => by cases e; first | exact hd35 | exact fun h => hd53 h.symm)
        replace hz3 := hst.1
        clear hst
        obtain ⟨WS6, hWS6⟩ : ∃ z, (World.setCell (World.setCell (World.setCell (World.setCell WA5 ⟨p3, 0, none⟩ (.slice sa n sc)) ⟨p3, 1, none⟩ (.int .i64 st)) ⟨p3, 2, none⟩ (.slice (some ⟨tb, tof, none⟩) k tc)) ⟨p3, 3, none⟩ (.int .i64 lp)) = z := ⟨_, rfl⟩
        rw [hWS6] at hga6 hz3 ⊢
        rw [hWS6] at hz4
        rw [hWS6] at hz5
        clear hWS6
        refine hK.out _ _ (HS.out _ hga6) (fun hHeld => ?_)
        clear hK K
        try simp only [Act.put, List.setIfInBounds_toArray, List.set_cons_zero, List.set_cons_succ]
        refine wpAnyH_ready (rs := [7]) (by kernel_rfl) (by simp) ?_
        refine (AllReadyH.cons (o := { dst := none, op := Op.store 33 (Operand.tmp 13) (Operand.tmp 35), type := 0, pos := "law.go:151", after := #[{ on := 4, ground := Ground.data }, { on := 1, ground := Ground.data }, { on := 6, ground := Ground.chain }, { on := 0, ground := Ground.phase }, { on := 1, ground := Ground.phase }, { on := 2, ground := Ground.textOnly Departure.lateStores }, { on := 3, ground := Ground.phase }, { on := 4, ground := Ground.phase }, { on := 5, ground := Ground.phase }, { on := 6, ground := Ground.phase }], guard := none }) rfl (fun K hK => ?_) AllReadyH.nil)
        rw [if_pos (by rfl)]
        have hzz := hz4
        obtain ⟨⟨x0, x1, x2, x3⟩, xf⟩ := hzz
        have xf0 := xf 0
        have xf1 := xf 1
        have xf2 := xf 2
        have xf3 := xf 3
        clear xf
        go_simp
        clear x0 x1 x2 x3 xf0 xf1 xf2 xf3
        have hst := hz4.put (.slice sa n sc) (.int .i64 st) (.slice (some ⟨tb, tof, none⟩) k tc) (.int .i64 lp)
        have hga7 := grown_own hga6 hst.2 (fun k hk => by cases hk; exact hge4)
        replace hz3 := hz3.off hst.2 (fun x e => by cases e; first | exact hd43 | exact fun h => hd34 h.symm)
        replace hz5 := hz5.off hst.2 (fun x e => by cases e; first | exact hd45 | exact fun h => hd54 h.symm)
        replace hz4 := hst.1
        clear hst
        obtain ⟨WS7, hWS7⟩ : ∃ z, (World.setCell (World.setCell (World.setCell (World.setCell WS6 ⟨p4, 0, none⟩ (.slice sa n sc)) ⟨p4, 1, none⟩ (.int .i64 st)) ⟨p4, 2, none⟩ (.slice (some ⟨tb, tof, none⟩) k tc)) ⟨p4, 3, none⟩ (.int .i64 lp)) = z := ⟨_, rfl⟩
        rw [hWS7] at hga7 hz4 ⊢
        rw [hWS7] at hz3
        rw [hWS7] at hz5
        clear hWS7
        refine hK.out _ _ (HS.out _ hga7) (fun hHeld => ?_)
        clear hK K
        try simp only [Act.put, List.setIfInBounds_toArray, List.set_cons_zero, List.set_cons_succ]
        refine wpAnyH_ready (rs := [8]) (by kernel_rfl) (by simp) ?_
        refine (AllReadyH.cons (o := { dst := none, op := Op.store 33 (Operand.tmp 14) (Operand.tmp 36), type := 0, pos := "law.go:151", after := #[{ on := 5, ground := Ground.data }, { on := 2, ground := Ground.data }, { on := 7, ground := Ground.chain }, { on := 0, ground := Ground.phase }, { on := 1, ground := Ground.phase }, { on := 2, ground := Ground.phase }, { on := 3, ground := Ground.phase }, { on := 4, ground := Ground.phase }, { on := 5, ground := Ground.phase }, { on := 6, ground := Ground.phase }, { on := 7, ground := Ground.phase }], guard := none }) rfl (fun K hK => ?_) AllReadyH.nil)
        rw [if_pos (by rfl)]
        have hzz := hz5
        obtain ⟨⟨x0, x1, x2, x3⟩, xf⟩ := hzz
        have xf0 := xf 0
        have xf1 := xf 1
        have xf2 := xf 2
        have xf3 := xf 3
        clear xf
        go_simp
        clear x0 x1 x2 x3 xf0 xf1 xf2 xf3
        have hst := hz5.put (.slice sa n sc) (.int .i64 st) (.slice (some ⟨tb, tof, none⟩) k tc) (.int .i64 lp)
        have hga8 := grown_own hga7 hst.2 (fun k hk => by cases hk; exact hge5)
        replace hz4 := hz4.off hst.2 (fun x e => by cases e; first | exact hd54 | exact fun h => hd45 h.symm)
        replace hz3 := hz3.off hst.2 (fun x e => by cases e; first | exact hd53 | exact fun h => hd35 h.symm)
        replace hz5 := hst.1
        clear hst
        obtain ⟨WS8, hWS8⟩ : ∃ z, (World.setCell (World.setCell (World.setCell (World.setCell WS7 ⟨p5, 0, none⟩ (.slice sa n sc)) ⟨p5, 1, none⟩ (.int .i64 st)) ⟨p5, 2, none⟩ (.slice (some ⟨tb, tof, none⟩) k tc)) ⟨p5, 3, none⟩ (.int .i64 lp)) = z := ⟨_, rfl⟩
        rw [hWS8] at hga8 hz5 ⊢
        rw [hWS8] at hz4
        rw [hWS8] at hz3
        clear hWS8
        refine hK.out _ _ (HS.out _ hga8) (fun hHeld => ?_)
        clear hK K
        try simp only [Act.put, List.setIfInBounds_toArray, List.set_cons_zero, List.set_cons_succ]
        refine wpAnyH_done (by kernel_rfl) ?_ _
        have hEND := hga8
        clear hHeld
        go_wp2_with fail
        go_meet
        exact ⟨p3, p4, p5, rfl, rfl, rfl, ⟨by first | exact hd34 | exact fun h => hd43 h.symm, by first | exact hd35 | exact fun h => hd53 h.symm, by first | exact hd45 | exact fun h => hd54 h.symm⟩, ⟨hge3, hge4, hge5⟩, hz3, hz4, hz5, hEND⟩
      · rw [if_pos (by rfl)]
        go_simp
        have hga5 : w2.grownBy (World.alloc WA4 (.cells #[.slice none 0 0, .int .i64 0, .slice none 0 0, .int .i64 0] 33)) none := World.grownBy.trans hga4 (World.grownBy_alloc WA4 (.cells #[.slice none 0 0, .int .i64 0, .slice none 0 0, .int .i64 0] 33) none)
        have hz5 := Held4.newZ WA4
        have hgq5 : w2.heap.size ≤ WA4.heap.size := World.grownBy.size hga4
        have hge5 : ∀ p, WA4.heap.size = p → w2.heap.size ≤ p := fun p e => by rw [← e]; exact hgq5
        clear hgq5
        have hd45 : p4 ≠ WA4.heap.size := Nat.ne_of_lt hz4.lt
        replace hz4 := hz4.off (World.grownBy_alloc WA4 (.cells #[.slice none 0 0, .int .i64 0, .slice none 0 0, .int .i64 0] 33) none) (fun x e => by cases e)
        obtain ⟨WA5, hWA5⟩ : ∃ z, World.alloc WA4 (.cells #[.slice none 0 0, .int .i64 0, .slice none 0 0, .int .i64 0] 33) = z := ⟨_, rfl⟩
        rw [hWA5] at hga5 hz5 ⊢
        rw [hWA5] at hz4
        clear hWA5
        obtain ⟨p5, hp5⟩ : ∃ p, WA4.heap.size = p := ⟨_, rfl⟩
        replace hge5 := hge5 p5 hp5
        rw [hp5] at hz5 ⊢
        rw [hp5] at hd45
        clear hp5
        refine hK.out _ _ (HS.out _ hga5) (fun hHeld => ?_)
        clear hK K
        try simp only [Act.put, List.setIfInBounds_toArray, List.set_cons_zero, List.set_cons_succ]
        refine wpAnyH_ready (rs := [3]) (by kernel_rfl) (by simp) ?_
        refine (AllReadyH.cons (o := { dst := some 12, op := Op.alloc 33, type := 0, pos := "law.go:151", after := #[], guard := none }) rfl (fun K hK => ?_) AllReadyH.nil)
        rw [if_pos (by rfl)]
        go_simp
        have hga3 : w2.grownBy (World.alloc WA5 (.cells #[.slice none 0 0, .int .i64 0, .slice none 0 0, .int .i64 0] 33)) none := World.grownBy.trans hga5 (World.grownBy_alloc WA5 (.cells #[.slice none 0 0, .int .i64 0, .slice none 0 0, .int .i64 0] 33) none)
        have hz3 := Held4.newZ WA5
        have hgq3 : w2.heap.size ≤ WA5.heap.size := World.grownBy.size hga5
        have hge3 : ∀ p, WA5.heap.size = p → w2.heap.size ≤ p := fun p e => by rw [← e]; exact hgq3
        clear hgq3
        have hd43 : p4 ≠ WA5.heap.size := Nat.ne_of_lt hz4.lt
        replace hz4 := hz4.off (World.grownBy_alloc WA5 (.cells #[.slice none 0 0, .int .i64 0, .slice none 0 0, .int .i64 0] 33) none) (fun x e => by cases e)
        have hd53 : p5 ≠ WA5.heap.size := Nat.ne_of_lt hz5.lt
        replace hz5 := hz5.off (World.grownBy_alloc WA5 (.cells #[.slice none 0 0, .int .i64 0, .slice none 0 0, .int .i64 0] 33) none) (fun x e => by cases e)
        obtain ⟨WA3, hWA3⟩ : ∃ z, World.alloc WA5 (.cells #[.slice none 0 0, .int .i64 0, .slice none 0 0, .int .i64 0] 33) = z := ⟨_, rfl⟩
        rw [hWA3] at hga3 hz3 ⊢
        rw [hWA3] at hz4
        rw [hWA3] at hz5
        clear hWA3
        obtain ⟨p3, hp3⟩ : ∃ p, WA5.heap.size = p := ⟨_, rfl⟩
        replace hge3 := hge3 p3 hp3
        rw [hp3] at hz3 ⊢
        rw [hp3] at hd43
        rw [hp3] at hd53
        clear hp3
        refine hK.out _ _ (HS.out _ hga3) (fun hHeld => ?_)
        clear hK K
        try simp only [Act.put, List.setIfInBounds_toArray, List.set_cons_zero, List.set_cons_succ]
        refine wpAnyH_ready (rs := [6]) (by kernel_rfl) (by simp) ?_
        refine (AllReadyH.cons (o := { dst := none, op := Op.store 33 (Operand.tmp 12) (Operand.tmp 34), type := 0, pos := "law.go:151", after := #[{ on := 3, ground := Ground.data }, { on := 0, ground := Ground.data }, { on := 0, ground := Ground.phase }, { on := 1, ground := Ground.textOnly Departure.lateStores }, { on := 2, ground := Ground.textOnly Departure.lateStores }, { on := 3, ground := Ground.phase }, { on := 4, ground := Ground.phase }, { on := 5, ground := Ground.phase }], guard := none }) rfl (fun K hK => ?_) AllReadyH.nil)
        rw [if_pos (by rfl)]
        have hzz := hz3
        obtain ⟨⟨x0, x1, x2, x3⟩, xf⟩ := hzz
        have xf0 := xf 0
        have xf1 := xf 1
        have xf2 := xf 2
        have xf3 := xf 3
        clear xf
        go_simp
        clear x0 x1 x2 x3 xf0 xf1 xf2 xf3
        have hst := hz3.put (.slice sa n sc) (.int .i64 st) (.slice (some ⟨tb, tof, none⟩) k tc) (.int .i64 lp)
        have hga6 := grown_own hga3 hst.2 (fun k hk => by cases hk; exact hge3)
        replace hz4 := hz4.off hst.2 (fun x e => by cases e; first | exact hd34 | exact fun h => hd43 h.symm)
        replace hz5 := hz5.off hst.2 (fun x e => by cases e; first | exact hd35 | exact fun h => hd53 h.symm)
        replace hz3 := hst.1
        clear hst
        obtain ⟨WS6, hWS6⟩ : ∃ z, (World.setCell (World.setCell (World.setCell (World.setCell WA3 ⟨p3, 0, none⟩ (.slice sa n sc)) ⟨p3, 1, none⟩ (.int .i64 st)) ⟨p3, 2, none⟩ (.slice (some ⟨tb, tof, none⟩) k tc)) ⟨p3, 3, none⟩ (.int .i64 lp)) = z := ⟨_, rfl⟩
        rw [hWS6] at hga6 hz3 ⊢
        rw [hWS6] at hz4
        rw [hWS6] at hz5
        clear hWS6
        refine hK.out _ _ (HS.out _ hga6) (fun hHeld => ?_)
        clear hK K
        try simp only [Act.put, List.setIfInBounds_toArray, List.set_cons_zero, List.set_cons_succ]
        refine wpAnyH_ready (rs := [7]) (by kernel_rfl) (by simp) ?_
        refine (AllReadyH.cons (o := { dst := none, op := Op.store 33 (Operand.tmp 13) (Operand.tmp 35), type := 0, pos := "law.go:151", after := #[{ on := 4, ground := Ground.data }, { on := 1, ground := Ground.data }, { on := 6, ground := Ground.chain }, { on := 0, ground := Ground.phase }, { on := 1, ground := Ground.phase }, { on := 2, ground := Ground.textOnly Departure.lateStores }, { on := 3, ground := Ground.phase }, { on := 4, ground := Ground.phase }, { on := 5, ground := Ground.phase }, { on := 6, ground := Ground.phase }], guard := none }) rfl (fun K hK => ?_) AllReadyH.nil)
        rw [if_pos (by rfl)]
        have hzz := hz4
        obtain ⟨⟨x0, x1, x2, x3⟩, xf⟩ := hzz
        have xf0 := xf 0
        have xf1 := xf 1
        have xf2 := xf 2
        have xf3 := xf 3
        clear xf
        go_simp
        clear x0 x1 x2 x3 xf0 xf1 xf2 xf3
        have hst := hz4.put (.slice sa n sc) (.int .i64 st) (.slice (some ⟨tb, tof, none⟩) k tc) (.int .i64 lp)
        have hga7 := grown_own hga6 hst.2 (fun k hk => by cases hk; exact hge4)
        replace hz5 := hz5.off hst.2 (fun x e => by cases e; first | exact hd45 | exact fun h => hd54 h.symm)
        replace hz3 := hz3.off hst.2 (fun x e => by cases e; first | exact hd43 | exact fun h => hd34 h.symm)
        replace hz4 := hst.1
        clear hst
        obtain ⟨WS7, hWS7⟩ : ∃ z, (World.setCell (World.setCell (World.setCell (World.setCell WS6 ⟨p4, 0, none⟩ (.slice sa n sc)) ⟨p4, 1, none⟩ (.int .i64 st)) ⟨p4, 2, none⟩ (.slice (some ⟨tb, tof, none⟩) k tc)) ⟨p4, 3, none⟩ (.int .i64 lp)) = z := ⟨_, rfl⟩
        rw [hWS7] at hga7 hz4 ⊢
        rw [hWS7] at hz5
        rw [hWS7] at hz3
        clear hWS7
        refine hK.out _ _ (HS.out _ hga7) (fun hHeld => ?_)
        clear hK K
        try simp only [Act.put, List.setIfInBounds_toArray, List.set_cons_zero, List.set_cons_succ]
        refine wpAnyH_ready (rs := [8]) (by kernel_rfl) (by simp) ?_
        refine (AllReadyH.cons (o := { dst := none, op := Op.store 33 (Operand.tmp 14) (Operand.tmp 36), type := 0, pos := "law.go:151", after := #[{ on := 5, ground := Ground.data }, { on := 2, ground := Ground.data }, { on := 7, ground := Ground.chain }, { on := 0, ground := Ground.phase }, { on := 1, ground := Ground.phase }, { on := 2, ground := Ground.phase }, { on := 3, ground := Ground.phase }, { on := 4, ground := Ground.phase }, { on := 5, ground := Ground.phase }, { on := 6, ground := Ground.phase }, { on := 7, ground := Ground.phase }], guard := none }) rfl (fun K hK => ?_) AllReadyH.nil)
        rw [if_pos (by rfl)]
        have hzz := hz5
        obtain ⟨⟨x0, x1, x2, x3⟩, xf⟩ := hzz
        have xf0 := xf 0
        have xf1 := xf 1
        have xf2 := xf 2
        have xf3 := xf 3
        clear xf
        go_simp
        clear x0 x1 x2 x3 xf0 xf1 xf2 xf3
        have hst := hz5.put (.slice sa n sc) (.int .i64 st) (.slice (some ⟨tb, tof, none⟩) k tc) (.int .i64 lp)
        have hga8 := grown_own hga7 hst.2 (fun k hk => by cases hk; exact hge5)
        replace hz4 := hz4.off hst.2 (fun x e => by cases e; first | exact hd54 | exact fun h => hd45 h.symm)
        replace hz3 := hz3.off hst.2 (fun x e => by cases e; first | exact hd53 | exact fun h => hd35 h.symm)
        replace hz5 := hst.1
        clear hst
        obtain ⟨WS8, hWS8⟩ : ∃ z, (World.setCell (World.setCell (World.setCell (World.setCell WS7 ⟨p5, 0, none⟩ (.slice sa n sc)) ⟨p5, 1, none⟩ (.int .i64 st)) ⟨p5, 2, none⟩ (.slice (some ⟨tb, tof, none⟩) k tc)) ⟨p5, 3, none⟩ (.int .i64 lp)) = z := ⟨_, rfl⟩
        rw [hWS8] at hga8 hz5 ⊢
        rw [hWS8] at hz4
        rw [hWS8] at hz3
        clear hWS8
        refine hK.out _ _ (HS.out _ hga8) (fun hHeld => ?_)
        clear hK K
        try simp only [Act.put, List.setIfInBounds_toArray, List.set_cons_zero, List.set_cons_succ]
        refine wpAnyH_done (by kernel_rfl) ?_ _
        have hEND := hga8
        clear hHeld
        go_wp2_with fail
        go_meet
        exact ⟨p3, p4, p5, rfl, rfl, rfl, ⟨by first | exact hd34 | exact fun h => hd43 h.symm, by first | exact hd35 | exact fun h => hd53 h.symm, by first | exact hd45 | exact fun h => hd54 h.symm⟩, ⟨hge3, hge4, hge5⟩, hz3, hz4, hz5, hEND⟩
    · rw [if_pos (by rfl)]
      go_simp
      have hga5 : w2.grownBy ((World.alloc w2 (.cells #[.slice none 0 0, .int .i64 0, .slice none 0 0, .int .i64 0] 33)).drew) none := World.grownBy.trans (World.grownBy_alloc w2 (.cells #[.slice none 0 0, .int .i64 0, .slice none 0 0, .int .i64 0] 33) none) (⟨rfl, rfl, rfl, Nat.le_refl _, fun _ _ _ => rfl⟩ : (World.alloc w2 (.cells #[.slice none 0 0, .int .i64 0, .slice none 0 0, .int .i64 0] 33)).grownBy (World.alloc w2 (.cells #[.slice none 0 0, .int .i64 0, .slice none 0 0, .int .i64 0] 33)).drew none)
      have hz5 := (Held4.newZ w2).off (⟨rfl, rfl, rfl, Nat.le_refl _, fun _ _ _ => rfl⟩ : (World.alloc w2 (.cells #[.slice none 0 0, .int .i64 0, .slice none 0 0, .int .i64 0] 33)).grownBy (World.alloc w2 (.cells #[.slice none 0 0, .int .i64 0, .slice none 0 0, .int .i64 0] 33)).drew none) (fun x e => by cases e)
      have hgq5 : w2.heap.size ≤ w2.heap.size := Nat.le_refl _
      have hge5 : ∀ p, w2.heap.size = p → w2.heap.size ≤ p := fun p e => by rw [← e]; exact hgq5
      clear hgq5
      obtain ⟨WA5, hWA5⟩ : ∃ z, (World.alloc w2 (.cells #[.slice none 0 0, .int .i64 0, .slice none 0 0, .int .i64 0] 33)).drew = z := ⟨_, rfl⟩
      rw [hWA5] at hga5 hz5 ⊢
      clear hWA5
      obtain ⟨p5, hp5⟩ : ∃ p, w2.heap.size = p := ⟨_, rfl⟩
      replace hge5 := hge5 p5 hp5
      rw [hp5] at hz5 ⊢
      clear hp5
      refine hK.out _ _ (HS.out _ hga5) (fun hHeld => ?_)
      clear hK K
      try simp only [Act.put, List.setIfInBounds_toArray, List.set_cons_zero, List.set_cons_succ]
      refine wpAnyH_ready (rs := [3, 4]) (by kernel_rfl) (by simp) ?_
      refine (AllReadyH.cons (o := { dst := some 12, op := Op.alloc 33, type := 0, pos := "law.go:151", after := #[], guard := none }) rfl (fun K hK => ?_) (AllReadyH.cons (o := { dst := some 13, op := Op.alloc 33, type := 0, pos := "law.go:151", after := #[], guard := none }) rfl (fun K hK => ?_) AllReadyH.nil))
      · rw [if_pos (by rfl)]
        go_simp
        have hga3 : w2.grownBy (World.alloc WA5 (.cells #[.slice none 0 0, .int .i64 0, .slice none 0 0, .int .i64 0] 33)) none := World.grownBy.trans hga5 (World.grownBy_alloc WA5 (.cells #[.slice none 0 0, .int .i64 0, .slice none 0 0, .int .i64 0] 33) none)
        have hz3 := Held4.newZ WA5
        have hgq3 : w2.heap.size ≤ WA5.heap.size := World.grownBy.size hga5
        have hge3 : ∀ p, WA5.heap.size = p → w2.heap.size ≤ p := fun p e => by rw [← e]; exact hgq3
        clear hgq3
        have hd53 : p5 ≠ WA5.heap.size := Nat.ne_of_lt hz5.lt
        replace hz5 := hz5.off (World.grownBy_alloc WA5 (.cells #[.slice none 0 0, .int .i64 0, .slice none 0 0, .int .i64 0] 33) none) (fun x e => by cases e)
        obtain ⟨WA3, hWA3⟩ : ∃ z, World.alloc WA5 (.cells #[.slice none 0 0, .int .i64 0, .slice none 0 0, .int .i64 0] 33) = z := ⟨_, rfl⟩
        rw [hWA3] at hga3 hz3 ⊢
        rw [hWA3] at hz5
        clear hWA3
        obtain ⟨p3, hp3⟩ : ∃ p, WA5.heap.size = p := ⟨_, rfl⟩
        replace hge3 := hge3 p3 hp3
        rw [hp3] at hz3 ⊢
        rw [hp3] at hd53
        clear hp3
        refine hK.out _ _ (HS.out _ hga3) (fun hHeld => ?_)
        clear hK K
        try simp only [Act.put, List.setIfInBounds_toArray, List.set_cons_zero, List.set_cons_succ]
        refine wpAnyH_ready (rs := [4]) (by kernel_rfl) (by simp) ?_
        refine (AllReadyH.cons (o := { dst := some 13, op := Op.alloc 33, type := 0, pos := "law.go:151", after := #[], guard := none }) rfl (fun K hK => ?_) AllReadyH.nil)
        rw [if_pos (by rfl)]
        go_simp
        have hga4 : w2.grownBy (World.alloc WA3 (.cells #[.slice none 0 0, .int .i64 0, .slice none 0 0, .int .i64 0] 33)) none := World.grownBy.trans hga3 (World.grownBy_alloc WA3 (.cells #[.slice none 0 0, .int .i64 0, .slice none 0 0, .int .i64 0] 33) none)
        have hz4 := Held4.newZ WA3
        have hgq4 : w2.heap.size ≤ WA3.heap.size := World.grownBy.size hga3
        have hge4 : ∀ p, WA3.heap.size = p → w2.heap.size ≤ p := fun p e => by rw [← e]; exact hgq4
        clear hgq4
        have hd54 : p5 ≠ WA3.heap.size := Nat.ne_of_lt hz5.lt
        replace hz5 := hz5.off (World.grownBy_alloc WA3 (.cells #[.slice none 0 0, .int .i64 0, .slice none 0 0, .int .i64 0] 33) none) (fun x e => by cases e)
        have hd34 : p3 ≠ WA3.heap.size := Nat.ne_of_lt hz3.lt
        replace hz3 := hz3.off (World.grownBy_alloc WA3 (.cells #[.slice none 0 0, .int .i64 0, .slice none 0 0, .int .i64 0] 33) none) (fun x e => by cases e)
        obtain ⟨WA4, hWA4⟩ : ∃ z, World.alloc WA3 (.cells #[.slice none 0 0, .int .i64 0, .slice none 0 0, .int .i64 0] 33) = z := ⟨_, rfl⟩
        rw [hWA4] at hga4 hz4 ⊢
        rw [hWA4] at hz5
        rw [hWA4] at hz3
        clear hWA4
        obtain ⟨p4, hp4⟩ : ∃ p, WA3.heap.size = p := ⟨_, rfl⟩
        replace hge4 := hge4 p4 hp4
        rw [hp4] at hz4 ⊢
        rw [hp4] at hd54
        rw [hp4] at hd34
        clear hp4
        refine hK.out _ _ (HS.out _ hga4) (fun hHeld => ?_)
        clear hK K
        try simp only [Act.put, List.setIfInBounds_toArray, List.set_cons_zero, List.set_cons_succ]
        refine wpAnyH_ready (rs := [6]) (by kernel_rfl) (by simp) ?_
        refine (AllReadyH.cons (o := { dst := none, op := Op.store 33 (Operand.tmp 12) (Operand.tmp 34), type := 0, pos := "law.go:151", after := #[{ on := 3, ground := Ground.data }, { on := 0, ground := Ground.data }, { on := 0, ground := Ground.phase }, { on := 1, ground := Ground.textOnly Departure.lateStores }, { on := 2, ground := Ground.textOnly Departure.lateStores }, { on := 3, ground := Ground.phase }, { on := 4, ground := Ground.phase }, { on := 5, ground := Ground.phase }], guard := none }) rfl (fun K hK => ?_) AllReadyH.nil)
        rw [if_pos (by rfl)]
        have hzz := hz3
        obtain ⟨⟨x0, x1, x2, x3⟩, xf⟩ := hzz
        have xf0 := xf 0
        have xf1 := xf 1
        have xf2 := xf 2
        have xf3 := xf 3
        clear xf
        go_simp
        clear x0 x1 x2 x3 xf0 xf1 xf2 xf3
        have hst := hz3.put (.slice sa n sc) (.int .i64 st) (.slice (some ⟨tb, tof, none⟩) k tc) (.int .i64 lp)
        have hga6 := grown_own hga4 hst.2 (fun k hk => by cases hk; exact hge3)
        replace hz5 := hz5.off hst.2 (fun x e => by cases e; first | exact hd35 | exact fun h => hd53 h.symm)
        replace hz4 := hz4.off hst.2 (fun x e => by cases e; first | exact hd34 | exact fun h => hd43 h.symm)
        replace hz3 := hst.1
        clear hst
        obtain ⟨WS6, hWS6⟩ : ∃ z, (World.setCell (World.setCell (World.setCell (World.setCell WA4 ⟨p3, 0, none⟩ (.slice sa n sc)) ⟨p3, 1, none⟩ (.int .i64 st)) ⟨p3, 2, none⟩ (.slice (some ⟨tb, tof, none⟩) k tc)) ⟨p3, 3, none⟩ (.int .i64 lp)) = z := ⟨_, rfl⟩
        rw [hWS6] at hga6 hz3 ⊢
        rw [hWS6] at hz5
        rw [hWS6] at hz4
        clear hWS6
        refine hK.out _ _ (HS.out _ hga6) (fun hHeld => ?_)
        clear hK K
        try simp only [Act.put, List.setIfInBounds_toArray, List.set_cons_zero, List.set_cons_succ]
        refine wpAnyH_ready (rs := [7]) (by kernel_rfl) (by simp) ?_
        refine (AllReadyH.cons (o := { dst := none, op := Op.store 33 (Operand.tmp 13) (Operand.tmp 35), type := 0, pos := "law.go:151", after := #[{ on := 4, ground := Ground.data }, { on := 1, ground := Ground.data }, { on := 6, ground := Ground.chain }, { on := 0, ground := Ground.phase }, { on := 1, ground := Ground.phase }, { on := 2, ground := Ground.textOnly Departure.lateStores }, { on := 3, ground := Ground.phase }, { on := 4, ground := Ground.phase }, { on := 5, ground := Ground.phase }, { on := 6, ground := Ground.phase }], guard := none }) rfl (fun K hK => ?_) AllReadyH.nil)
        rw [if_pos (by rfl)]
        have hzz := hz4
        obtain ⟨⟨x0, x1, x2, x3⟩, xf⟩ := hzz
        have xf0 := xf 0
        have xf1 := xf 1
        have xf2 := xf 2
        have xf3 := xf 3
        clear xf
        go_simp
        clear x0 x1 x2 x3 xf0 xf1 xf2 xf3
        have hst := hz4.put (.slice sa n sc) (.int .i64 st) (.slice (some ⟨tb, tof, none⟩) k tc) (.int .i64 lp)
        have hga7 := grown_own hga6 hst.2 (fun k hk => by cases hk; exact hge4)
        replace hz5 := hz5.off hst.2 (fun x e => by cases e; first | exact hd45 | exact fun h => hd54 h.symm)
        replace hz3 := hz3.off hst.2 (fun x e => by cases e; first | exact hd43 | exact fun h => hd34 h.symm)
        replace hz4 := hst.1
        clear hst
        obtain ⟨WS7, hWS7⟩ : ∃ z, (World.setCell (World.setCell (World.setCell (World.setCell WS6 ⟨p4, 0, none⟩ (.slice sa n sc)) ⟨p4, 1, none⟩ (.int .i64 st)) ⟨p4, 2, none⟩ (.slice (some ⟨tb, tof, none⟩) k tc)) ⟨p4, 3, none⟩ (.int .i64 lp)) = z := ⟨_, rfl⟩
        rw [hWS7] at hga7 hz4 ⊢
        rw [hWS7] at hz5
        rw [hWS7] at hz3
        clear hWS7
        refine hK.out _ _ (HS.out _ hga7) (fun hHeld => ?_)
        clear hK K
        try simp only [Act.put, List.setIfInBounds_toArray, List.set_cons_zero, List.set_cons_succ]
        refine wpAnyH_ready (rs := [8]) (by kernel_rfl) (by simp) ?_
        refine (AllReadyH.cons (o := { dst := none, op := Op.store 33 (Operand.tmp 14) (Operand.tmp 36), type := 0, pos := "law.go:151", after := #[{ on := 5, ground := Ground.data }, { on := 2, ground := Ground.data }, { on := 7, ground := Ground.chain }, { on := 0, ground := Ground.phase }, { on := 1, ground := Ground.phase }, { on := 2, ground := Ground.phase }, { on := 3, ground := Ground.phase }, { on := 4, ground := Ground.phase }, { on := 5, ground := Ground.phase }, { on := 6, ground := Ground.phase }, { on := 7, ground := Ground.phase }], guard := none }) rfl (fun K hK => ?_) AllReadyH.nil)
        rw [if_pos (by rfl)]
        have hzz := hz5
        obtain ⟨⟨x0, x1, x2, x3⟩, xf⟩ := hzz
        have xf0 := xf 0
        have xf1 := xf 1
        have xf2 := xf 2
        have xf3 := xf 3
        clear xf
        go_simp
        clear x0 x1 x2 x3 xf0 xf1 xf2 xf3
        have hst := hz5.put (.slice sa n sc) (.int .i64 st) (.slice (some ⟨tb, tof, none⟩) k tc) (.int .i64 lp)
        have hga8 := grown_own hga7 hst.2 (fun k hk => by cases hk; exact hge5)
        replace hz3 := hz3.off hst.2 (fun x e => by cases e; first | exact hd53 | exact fun h => hd35 h.symm)
        replace hz4 := hz4.off hst.2 (fun x e => by cases e; first | exact hd54 | exact fun h => hd45 h.symm)
        replace hz5 := hst.1
        clear hst
        obtain ⟨WS8, hWS8⟩ : ∃ z, (World.setCell (World.setCell (World.setCell (World.setCell WS7 ⟨p5, 0, none⟩ (.slice sa n sc)) ⟨p5, 1, none⟩ (.int .i64 st)) ⟨p5, 2, none⟩ (.slice (some ⟨tb, tof, none⟩) k tc)) ⟨p5, 3, none⟩ (.int .i64 lp)) = z := ⟨_, rfl⟩
        rw [hWS8] at hga8 hz5 ⊢
        rw [hWS8] at hz3
        rw [hWS8] at hz4
        clear hWS8
        refine hK.out _ _ (HS.out _ hga8) (fun hHeld => ?_)
        clear hK K
        try simp only [Act.put, List.setIfInBounds_toArray, List.set_cons_zero, List.set_cons_succ]
        refine wpAnyH_done (by kernel_rfl) ?_ _
        have hEND := hga8
        clear hHeld
        go_wp2_with fail
        go_meet
        exact ⟨p3, p4, p5, rfl, rfl, rfl, ⟨by first | exact hd34 | exact fun h => hd43 h.symm, by first | exact hd35 | exact fun h => hd53 h.symm, by first | exact hd45 | exact fun h => hd54 h.symm⟩, ⟨hge3, hge4, hge5⟩, hz3, hz4, hz5, hEND⟩
      · rw [if_pos (by rfl)]
        go_simp
        have hga4 : w2.grownBy (World.alloc WA5 (.cells #[.slice none 0 0, .int .i64 0, .slice none 0 0, .int .i64 0] 33)) none := World.grownBy.trans hga5 (World.grownBy_alloc WA5 (.cells #[.slice none 0 0, .int .i64 0, .slice none 0 0, .int .i64 0] 33) none)
        have hz4 := Held4.newZ WA5
        have hgq4 : w2.heap.size ≤ WA5.heap.size := World.grownBy.size hga5
        have hge4 : ∀ p, WA5.heap.size = p → w2.heap.size ≤ p := fun p e => by rw [← e]; exact hgq4
        clear hgq4
        have hd54 : p5 ≠ WA5.heap.size := Nat.ne_of_lt hz5.lt
        replace hz5 := hz5.off (World.grownBy_alloc WA5 (.cells #[.slice none 0 0, .int .i64 0, .slice none 0 0, .int .i64 0] 33) none) (fun x e => by cases e)
        obtain ⟨WA4, hWA4⟩ : ∃ z, World.alloc WA5 (.cells #[.slice none 0 0, .int .i64 0, .slice none 0 0, .int .i64 0] 33) = z := ⟨_, rfl⟩
        rw [hWA4] at hga4 hz4 ⊢
        rw [hWA4] at hz5
        clear hWA4
        obtain ⟨p4, hp4⟩ : ∃ p, WA5.heap.size = p := ⟨_, rfl⟩
        replace hge4 := hge4 p4 hp4
        rw [hp4] at hz4 ⊢
        rw [hp4] at hd54
        clear hp4
        refine hK.out _ _ (HS.out _ hga4) (fun hHeld => ?_)
        clear hK K
        try simp only [Act.put, List.setIfInBounds_toArray, List.set_cons_zero, List.set_cons_succ]
        refine wpAnyH_ready (rs := [3]) (by kernel_rfl) (by simp) ?_
        refine (AllReadyH.cons (o := { dst := some 12, op := Op.alloc 33, type := 0, pos := "law.go:151", after := #[], guard := none }) rfl (fun K hK => ?_) AllReadyH.nil)
        rw [if_pos (by rfl)]
        go_simp
        have hga3 : w2.grownBy (World.alloc WA4 (.cells #[.slice none 0 0, .int .i64 0, .slice none 0 0, .int .i64 0] 33)) none := World.grownBy.trans hga4 (World.grownBy_alloc WA4 (.cells #[.slice none 0 0, .int .i64 0, .slice none 0 0, .int .i64 0] 33) none)
        have hz3 := Held4.newZ WA4
        have hgq3 : w2.heap.size ≤ WA4.heap.size := World.grownBy.size hga4
        have hge3 : ∀ p, WA4.heap.size = p → w2.heap.size ≤ p := fun p e => by rw [← e]; exact hgq3
        clear hgq3
        have hd53 : p5 ≠ WA4.heap.size := Nat.ne_of_lt hz5.lt
        replace hz5 := hz5.off (World.grownBy_alloc WA4 (.cells #[.slice none 0 0, .int .i64 0, .slice none 0 0, .int .i64 0] 33) none) (fun x e => by cases e)
        have hd43 : p4 ≠ WA4.heap.size := Nat.ne_of_lt hz4.lt
        replace hz4 := hz4.off (World.grownBy_alloc WA4 (.cells #[.slice none 0 0, .int .i64 0, .slice none 0 0, .int .i64 0] 33) none) (fun x e => by cases e)
        obtain ⟨WA3, hWA3⟩ : ∃ z, World.alloc WA4 (.cells #[.slice none 0 0, .int .i64 0, .slice none 0 0, .int .i64 0] 33) = z := ⟨_, rfl⟩
        rw [hWA3] at hga3 hz3 ⊢
        rw [hWA3] at hz5
        rw [hWA3] at hz4
        clear hWA3
        obtain ⟨p3, hp3⟩ : ∃ p, WA4.heap.size = p := ⟨_, rfl⟩
        replace hge3 := hge3 p3 hp3
        rw [hp3] at hz3 ⊢
        rw [hp3] at hd53
        rw [hp3] at hd43
        clear hp3
        refine hK.out _ _ (HS.out _ hga3) (fun hHeld => ?_)
        clear hK K
        try simp only [Act.put, List.setIfInBounds_toArray, List.set_cons_zero, List.set_cons_succ]
        refine wpAnyH_ready (rs := [6]) (by kernel_rfl) (by simp) ?_
        refine (AllReadyH.cons (o := { dst := none, op := Op.store 33 (Operand.tmp 12) (Operand.tmp 34), type := 0, pos := "law.go:151", after := #[{ on := 3, ground := Ground.data }, { on := 0, ground := Ground.data }, { on := 0, ground := Ground.phase }, { on := 1, ground := Ground.textOnly Departure.lateStores }, { on := 2, ground := Ground.textOnly Departure.lateStores }, { on := 3, ground := Ground.phase }, { on := 4, ground := Ground.phase }, { on := 5, ground := Ground.phase }], guard := none }) rfl (fun K hK => ?_) AllReadyH.nil)
        rw [if_pos (by rfl)]
        have hzz := hz3
        obtain ⟨⟨x0, x1, x2, x3⟩, xf⟩ := hzz
        have xf0 := xf 0
        have xf1 := xf 1
        have xf2 := xf 2
        have xf3 := xf 3
        clear xf
        go_simp
        clear x0 x1 x2 x3 xf0 xf1 xf2 xf3
        have hst := hz3.put (.slice sa n sc) (.int .i64 st) (.slice (some ⟨tb, tof, none⟩) k tc) (.int .i64 lp)
        have hga6 := grown_own hga3 hst.2 (fun k hk => by cases hk; exact hge3)
        replace hz5 := hz5.off hst.2 (fun x e => by cases e; first | exact hd35 | exact fun h => hd53 h.symm)
        replace hz4 := hz4.off hst.2 (fun x e => by cases e; first | exact hd34 | exact fun h => hd43 h.symm)
        replace hz3 := hst.1
        clear hst
        obtain ⟨WS6, hWS6⟩ : ∃ z, (World.setCell (World.setCell (World.setCell (World.setCell WA3 ⟨p3, 0, none⟩ (.slice sa n sc)) ⟨p3, 1, none⟩ (.int .i64 st)) ⟨p3, 2, none⟩ (.slice (some ⟨tb, tof, none⟩) k tc)) ⟨p3, 3, none⟩ (.int .i64 lp)) = z := ⟨_, rfl⟩
        rw [hWS6] at hga6 hz3 ⊢
        rw [hWS6] at hz5
        rw [hWS6] at hz4
        clear hWS6
        refine hK.out _ _ (HS.out _ hga6) (fun hHeld => ?_)
        clear hK K
        try simp only [Act.put, List.setIfInBounds_toArray, List.set_cons_zero, List.set_cons_succ]
        refine wpAnyH_ready (rs := [7]) (by kernel_rfl) (by simp) ?_
        refine (AllReadyH.cons (o := { dst := none, op := Op.store 33 (Operand.tmp 13) (Operand.tmp 35), type := 0, pos := "law.go:151", after := #[{ on := 4, ground := Ground.data }, { on := 1, ground := Ground.data }, { on := 6, ground := Ground.chain }, { on := 0, ground := Ground.phase }, { on := 1, ground := Ground.phase }, { on := 2, ground := Ground.textOnly Departure.lateStores }, { on := 3, ground := Ground.phase }, { on := 4, ground := Ground.phase }, { on := 5, ground := Ground.phase }, { on := 6, ground := Ground.phase }], guard := none }) rfl (fun K hK => ?_) AllReadyH.nil)
        rw [if_pos (by rfl)]
        have hzz := hz4
        obtain ⟨⟨x0, x1, x2, x3⟩, xf⟩ := hzz
        have xf0 := xf 0
        have xf1 := xf 1
        have xf2 := xf 2
        have xf3 := xf 3
        clear xf
        go_simp
        clear x0 x1 x2 x3 xf0 xf1 xf2 xf3
        have hst := hz4.put (.slice sa n sc) (.int .i64 st) (.slice (some ⟨tb, tof, none⟩) k tc) (.int .i64 lp)
        have hga7 := grown_own hga6 hst.2 (fun k hk => by cases hk; exact hge4)
        replace hz5 := hz5.off hst.2 (fun x e => by cases e; first | exact hd45 | exact fun h => hd54 h.symm)
        replace hz3 := hz3.off hst.2 (fun x e => by cases e; first | exact hd43 | exact fun h => hd34 h.symm)
        replace hz4 := hst.1
        clear hst
        obtain ⟨WS7, hWS7⟩ : ∃ z, (World.setCell (World.setCell (World.setCell (World.setCell WS6 ⟨p4, 0, none⟩ (.slice sa n sc)) ⟨p4, 1, none⟩ (.int .i64 st)) ⟨p4, 2, none⟩ (.slice (some ⟨tb, tof, none⟩) k tc)) ⟨p4, 3, none⟩ (.int .i64 lp)) = z := ⟨_, rfl⟩
        rw [hWS7] at hga7 hz4 ⊢
        rw [hWS7] at hz5
        rw [hWS7] at hz3
        clear hWS7
        refine hK.out _ _ (HS.out _ hga7) (fun hHeld => ?_)
        clear hK K
        try simp only [Act.put, List.setIfInBounds_toArray, List.set_cons_zero, List.set_cons_succ]
        refine wpAnyH_ready (rs := [8]) (by kernel_rfl) (by simp) ?_
        refine (AllReadyH.cons (o := { dst := none, op := Op.store 33 (Operand.tmp 14) (Operand.tmp 36), type := 0, pos := "law.go:151", after := #[{ on := 5, ground := Ground.data }, { on := 2, ground := Ground.data }, { on := 7, ground := Ground.chain }, { on := 0, ground := Ground.phase }, { on := 1, ground := Ground.phase }, { on := 2, ground := Ground.phase }, { on := 3, ground := Ground.phase }, { on := 4, ground := Ground.phase }, { on := 5, ground := Ground.phase }, { on := 6, ground := Ground.phase }, { on := 7, ground := Ground.phase }], guard := none }) rfl (fun K hK => ?_) AllReadyH.nil)
        rw [if_pos (by rfl)]
        have hzz := hz5
        obtain ⟨⟨x0, x1, x2, x3⟩, xf⟩ := hzz
        have xf0 := xf 0
        have xf1 := xf 1
        have xf2 := xf 2
        have xf3 := xf 3
        clear xf
        go_simp
        clear x0 x1 x2 x3 xf0 xf1 xf2 xf3
        have hst := hz5.put (.slice sa n sc) (.int .i64 st) (.slice (some ⟨tb, tof, none⟩) k tc) (.int .i64 lp)
        have hga8 := grown_own hga7 hst.2 (fun k hk => by cases hk; exact hge5)
        replace hz4 := hz4.off hst.2 (fun x e => by cases e; first | exact hd54 | exact fun h => hd45 h.symm)
        replace hz3 := hz3.off hst.2 (fun x e => by cases e; first | exact hd53 | exact fun h => hd35 h.symm)
        replace hz5 := hst.1
        clear hst
        obtain ⟨WS8, hWS8⟩ : ∃ z, (World.setCell (World.setCell (World.setCell (World.setCell WS7 ⟨p5, 0, none⟩ (.slice sa n sc)) ⟨p5, 1, none⟩ (.int .i64 st)) ⟨p5, 2, none⟩ (.slice (some ⟨tb, tof, none⟩) k tc)) ⟨p5, 3, none⟩ (.int .i64 lp)) = z := ⟨_, rfl⟩
        rw [hWS8] at hga8 hz5 ⊢
        rw [hWS8] at hz4
        rw [hWS8] at hz3
        clear hWS8
        refine hK.out _ _ (HS.out _ hga8) (fun hHeld => ?_)
        clear hK K
        try simp only [Act.put, List.setIfInBounds_toArray, List.set_cons_zero, List.set_cons_succ]
        refine wpAnyH_done (by kernel_rfl) ?_ _
        have hEND := hga8
        clear hHeld
        go_wp2_with fail
        go_meet
        exact ⟨p3, p4, p5, rfl, rfl, rfl, ⟨by first | exact hd34 | exact fun h => hd43 h.symm, by first | exact hd35 | exact fun h => hd53 h.symm, by first | exact hd45 | exact fun h => hd54 h.symm⟩, ⟨hge3, hge4, hge5⟩, hz3, hz4, hz5, hEND⟩
  case rest =>
    obtain ⟨p1, p2, p3, rfl, rfl, rfl, hpp, hge, h1, h2, h3, hgc⟩ := hcut
    have HGC := Lib.hid (HG2.out.trans hgc)
    have HP := Lib.hid (And.intro hpp hge)
    clear hgc hpp hge a0 a1 a2 a3 b0 b1 b2 b3
    have hz1 := h1.2 3
    have hz2 := h2.2 2
    obtain ⟨x0, x1, x2, x3⟩ := h1.1
    obtain ⟨y0, y1, y2, y3⟩ := h2.1
    obtain ⟨⟨a0, a1, a2, a3⟩, b0, b1, b2, b3⟩ := HBX.out wc HGC.out
    go_upto_region 7 with fail
    have g1 := grown_set wc p1 3 (.int .i64 (k : Int))
    have h1a := h1.set3' (.int .i64 (k : Int))
    have h2a := h2.off g1 (fun x e => by cases e; exact HP.out.1.1)
    have h3a := h3.off g1 (fun x e => by cases e; exact HP.out.1.2.1)
    have g2 := grown_set (wc.setCell ⟨p1, 3, none⟩ (.int .i64 (k : Int))) p2 2 (.slice da (k - 1) dc)
    have h2b := h2a.set2' (.slice da (k - 1) dc)
    have h1b := h1a.off g2 (fun x e => by cases e; exact fun e => HP.out.1.1 e.symm)
    have h3b := h3a.off g2 (fun x e => by cases e; exact HP.out.1.2.2)
    have hW2 : W.heap.size ≤ w2.heap.size := HG2.out.size
    have hgx := grown_own (grown_own HGC.out g1 (fun k hk => by cases hk; exact Nat.le_trans hW2 HP.out.2.1)) g2 (fun k hk => by cases hk; exact Nat.le_trans hW2 HP.out.2.2.1)
    obtain ⟨X1, hX1⟩ : ∃ X, ((wc.setCell ⟨p1, 3, none⟩ (.int .i64 (k : Int))).setCell ⟨p2, 2, none⟩ (.slice da (k - 1) dc)) = X := ⟨_, rfl⟩
    rw [hX1] at h1b h2b h3b hgx ⊢
    clear hX1 g1 g2 h1a h2a h3a h1 h2 h3 hz1 hz2 x0 x1 x2 x3 y0 y1 y2 y3 a0 a1 a2 a3 b0 b1 b2 b3 hds hW2
    have HGX := Lib.hid hgx; clear hgx
    have HA := Lib.hid h1b
    have HB := Lib.hid h2b
    have HC := Lib.hid h3b
    clear h1b h2b h3b
    have HFW : Hid (FewM L) := Lib.hid HF.out.2.1
    have HVG : Hid (∀ (U : World) (a : Option Addr) (c m : Nat) (M : List (List Rl)) (o : Int) (B : Bool), W.grownBy U none → Sts U a c M → M.length = m → m ≤ 64 → FewM M → validM ns us st F M o = B → Calls Try.prog 18 #[.agg #[.slice s1 ns c1, .slice fa f fc, .slice s3 n3 q3, .slice s4 n4 q4], .agg #[.slice sa n sc, .int .i64 st, .slice a m c, .int .i64 o]] U (fun e w' => e = .returned (.bool B) ∧ U.grownBy w' none)) := Lib.hid (fun U a c m M o B g hT hm h64 hM hB =>
      validZ (HN.out.2.2.2.1.grown (HG.out.trans g)) (HN.out.2.2.2.2.1.grown (HG.out.trans g)) hT HN.out.1 HN.out.2.2.1 hm HF.out.1.1 HF.out.1.2.1 (by rw [HN.out.1]; exact HF.out.1.2.2.2) (by rw [hm]; exact h64) hM HF.out.2.2 hB)
    have HV1 : Hid (∀ U : World, W.grownBy U none → Calls Try.prog 18 #[.agg #[.slice s1 ns c1, .slice fa f fc, .slice s3 n3 q3, .slice s4 n4 q4], .agg #[.slice sa n sc, .int .i64 st, .slice (some ⟨tb, tof, none⟩) k tc, .int .i64 (k : Int)]] U (fun e w' => e = .returned (.bool false) ∧ U.grownBy w' none)) := Lib.hid (fun U g =>
      HVG.out U _ _ k L _ _ g (HN.out.2.2.2.2.2.grown (HG.out.trans g)) HN.out.2.1 hk64 HFW.out (by rw [← HN.out.2.1]; exact validM_loop))
    have HV2 : Hid (∀ U : World, W.grownBy U none → Calls Try.prog 18 #[.agg #[.slice s1 ns c1, .slice fa f fc, .slice s3 n3 q3, .slice s4 n4 q4], .agg #[.slice sa n sc, .int .i64 st, .slice da (k - 1) dc, .int .i64 lp]] U (fun e w' => e = .returned (.bool false) ∧ U.grownBy w' none)) := Lib.hid (fun U g =>
      HVG.out U _ _ (k - 1) (L.drop 1) _ _ g (HDR.out.grown (HG.out.trans g)) (by rw [List.length_drop, HN.out.2.1]) (by omega) (few_drop HFW.out) (validM_drop HV.out))
    obtain ⟨⟨a0, a1, a2, a3⟩, b0, b1, b2, b3⟩ := HBX.out X1 HGX.out
    by_cases hf0 : f = 0
    · have ff0 : ((f : Int) == 0) = true := by simp; omega
      clear hf0
      obtain ⟨x0, x1, x2, x3⟩ := HA.out.1
      go_wp2_with fail
      refine (HV1.out X1 HGX.out).mono ?_
      rintro e X2 ⟨rfl, g2⟩
      obtain ⟨⟨a0, a1, a2, a3⟩, b0, b1, b2, b3⟩ := HBX.out X2 (HGX.out.trans g2)
      obtain ⟨y0, y1, y2, y3⟩ := (HB.out.off g2 (fun x e => by cases e)).1
      have HG3 := Lib.hid (HGX.out.trans g2); clear g2
      go_wp2_with fail
      refine (HV2.out X2 HG3.out).mono ?_
      rintro e X3 ⟨rfl, g3⟩
      have HG4 := Lib.hid (HG3.out.trans g3); clear g3
      go_wp2_with fail
      go_ret
      exact ⟨rfl, HG.out.trans HG4.out⟩
    have ff0 : ((f : Int) == 0) = false := by simp; omega
    have ff00 : (f : Int) ≠ 0 := by omega
    obtain ⟨i, hi⟩ : ∃ i, fi % f = i := ⟨_, rfl⟩
    have hif : i < f := by rw [← hi]; exact Nat.mod_lt _ (by omega)
    have hiI : (fi : Int) % (f : Int) = (i : Int) := by omega
    have hifI : (i : Int) < (f : Int) := by omega
    clear hi
    obtain ⟨D, hD1, hD2, hD3⟩ := sts_rows HN.out.2.2.2.2.2
    have hDl : D.length = k := by rw [← HN.out.2.1, ← hD1, List.length_map]
    have HD := Lib.hid (And.intro hD1 (And.intro hD2 (And.intro hD3 hDl))); clear hD1 hD2 hD3 hDl
    have HNW : Hid (∀ U, W.grownBy U none → ∀ j u, (rowOf D)[j]? = some u → U.cell? ((⟨tb, tof, none⟩ : Addr).add j) = some u) := Lib.hid (fun U g j u hu => by
      rw [add_offZ]
      exact (HG.out.trans g).cell (HD.out.2.2.1 j u hu) (by simp))
    have b2' := (World.grownBy_alloc X1 (.cells #[] 40) none).cell b2 (by simp)
    go_wp2_with (at_builtin; refine append_sts rfl _ _ rfl X1.heap.size _ rfl (World.ownsRow_made X1 #[] 0 (Nat.le_refl _) (Nat.zero_le _) rfl) ⟨tb, tof, none⟩ k tc D rfl HD.out.2.2.2 (HNW.out _ (HGX.out.trans (World.grownBy_alloc X1 _ none))) (by omega) (World.grownBy.size (World.grownBy_alloc X1 (.cells #[] 40) none)) ?_)
    intro v1 X2 ho1 hg1
    replace ho1 : X2.ownsRow X1.heap.size 40 1 v1 k (rowOf D) := by simpa [rowOf] using ho1
    obtain ⟨gr, cap, rfl, hgr, hgrl, hcap⟩ := own_some ho1 (by omega)
    have hg2 : X1.grownBy X2 none := grown_own (World.grownBy_alloc X1 _ none) hg1 (fun k hk => by simp [Value.ownBlock] at hk; omega)
    have hC2 := HC.out.off hg2 (fun x e => by cases e)
    have hcf := hC2.2 2
    obtain ⟨x0, x1, x2, x3⟩ := hC2.1
    clear a0 a1 a2 a3 b0 b1 b2 b3 b2' hg1
    obtain ⟨⟨a0, a1, a2, a3⟩, b0, b1, b2, b3⟩ := HBX.out X2 (HGX.out.trans hg2)
    go_upto_region 12 with fail
    have hp3 := HC.out.lt
    have gs := grown_set X2 p3 2 (.slice (some ⟨gr, 0, none⟩) k cap)
    have hC3 := hC2.set2' (.slice (some ⟨gr, 0, none⟩) k cap)
    have ho3 := ho1.kept gs (own_ne ho1 hp3)
    have hW2 : W.heap.size ≤ w2.heap.size := HG2.out.size
    have hg3 := grown_own (HGX.out.trans hg2) gs (fun k hk => by cases hk; exact Nat.le_trans hW2 HP.out.2.2.2)
    have hA3 := (HA.out.off hg2 (fun x e => by cases e)).off gs (fun x e => by cases e; exact fun e => HP.out.1.2.1 e.symm)
    have hB3 := (HB.out.off hg2 (fun x e => by cases e)).off gs (fun x e => by cases e; exact fun e => HP.out.1.2.2 e.symm)
    obtain ⟨X3, hX3⟩ : ∃ X, X2.setCell ⟨p3, 2, none⟩ (.slice (some ⟨gr, 0, none⟩) k cap) = X := ⟨_, rfl⟩
    rw [hX3] at hC3 ho3 hg3 hA3 hB3 ⊢
    clear hX3 gs hC2 x0 x1 x2 x3 hcf hp3 a0 a1 a2 a3 b0 b1 b2 b3 ho1 hg2 hgrl
    have HL3 := Lib.hid (And.intro (show p1 < gr from Nat.lt_of_lt_of_le HA.out.lt hgr) (And.intro (show p2 < gr from Nat.lt_of_lt_of_le HB.out.lt hgr) (And.intro (show p3 < gr from Nat.lt_of_lt_of_le HC.out.lt hgr) (show W.heap.size ≤ gr from Nat.le_trans HGX.out.size hgr))))
    have HO3 := Lib.hid ho3
    have HG3 := Lib.hid hg3
    have HA3 := Lib.hid hA3
    have HB3 := Lib.hid hB3
    have HC3 := Lib.hid hC3
    clear ho3 hg3 hA3 hB3 hC3 hgr hW2 HA HB HC
    obtain ⟨d, hdq⟩ : ∃ d, D[q]? = some d := ⟨_, List.getElem?_eq_getElem (by rw [HD.out.2.2.2]; exact hqk)⟩
    have hcs := @World.ownsRow.cells X3 X1.heap.size 40 1 _ k _ HO3.out
    have hcq := hcs (g := gr) rfl q _ (show (rowOf D)[q]? = some (.slice d.2.1 d.1.length d.2.2) by rw [rowOf, List.getElem?_map, hdq]; rfl)
    rw [add_at] at hcq
    clear hcs
    have hfq := HO3.out.frozenAt q
    obtain ⟨ea, ec, hes, her⟩ := rels_drop HL.out.2.2.2 HL.out.2.1 (by omega)
    have HER := Lib.hid her
    have hlc := HG3.out.cell (HG.out.cell HL.out.2.2.1 (by simp)) (by simp)
    have hm0 := HC3.out.1.2.2.1
    have hm1 := (HBX.out X3 HG3.out).2.2.2.1
    clear her hdq
    go_wp2_with fail
    have HS := Lib.hid (fun (Wh : World) (hWh : X3.grownBy Wh none) => (⟨hWh.cell hm0 (by simp), hWh.cell hm1 (by simp), hWh.cell hlc (by simp)⟩ : (fun Wh : World => Wh.cell? ⟨p3, 2, none⟩ = some (.slice (some ⟨gr, 0, none⟩) k cap) ∧ Wh.cell? ⟨w.heap.size + 1, 2, none⟩ = some (.slice (some ⟨tb, tof, none⟩) k tc) ∧ Wh.cell? ⟨tb, tof + q, none⟩ = some (.slice la f lc)) Wh))
    clear hm0 hm1 hlc
    have hdr : X3.grownBy X3.drew none := ⟨rfl, rfl, rfl, Nat.le_refl _, fun _ _ _ => rfl⟩
    refine wp_region_held_drew (S := (fun Wh : World => Wh.cell? ⟨p3, 2, none⟩ = some (.slice (some ⟨gr, 0, none⟩) k cap) ∧ Wh.cell? ⟨w.heap.size + 1, 2, none⟩ = some (.slice (some ⟨tb, tof, none⟩) k tc) ∧ Wh.cell? ⟨tb, tof + q, none⟩ = some (.slice la f lc))) (by kernel_rfl) (HS.out _ hdr) (fun hHeld => ?_)
    refine wpAnyH_take (i := 0) (oi := { dst := some 79, op := Op.fieldAddr 33 (Operand.tmp 14) 1, type := 0, pos := "law.go:160", after := #[], guard := none }) (v := ?_) rfl (by kernel_rfl) (by kernel_rfl) (by kernel_rfl) (fun _ _ _ h => h) (Or.inl ⟨by rfl, ?_⟩) (by assumption) ?_
    rotate_left 1
    · (intro W hSW; (try dsimp only at hSW); first | (go_simp; done) | (go_simp; with_reducible rfl))
    try simp only [Act.put, List.setIfInBounds_toArray, List.set_cons_zero, List.set_cons_succ]
    refine wpAnyH_take (i := 1) (oi := { dst := some 80, op := Op.load 31 (Operand.tmp 79), type := 31, pos := "law.go:160", after := #[{ on := 0, ground := Ground.data }], guard := none }) (v := ?_) rfl (by kernel_rfl) (by kernel_rfl) (by kernel_rfl) (fun _ _ _ h => h) (Or.inl ⟨by rfl, ?_⟩) (by assumption) ?_
    rotate_left 1
    · (intro W hSW; (try dsimp only at hSW); first | (go_simp; done) | (go_simp; with_reducible rfl))
    try simp only [Act.put, List.setIfInBounds_toArray, List.set_cons_zero, List.set_cons_succ]
    refine wpAnyH_take (i := 2) (oi := { dst := some 81, op := Op.move (Operand.tmp 15), type := 3, pos := "law.go:160", after := #[], guard := none }) (v := ?_) rfl (by kernel_rfl) (by kernel_rfl) (by kernel_rfl) (fun _ _ _ h => h) (Or.inl ⟨by rfl, ?_⟩) (by assumption) ?_
    rotate_left 1
    · (intro W hSW; (try dsimp only at hSW); first | (go_simp; done) | (go_simp; with_reducible rfl))
    try simp only [Act.put, List.setIfInBounds_toArray, List.set_cons_zero, List.set_cons_succ]
    refine wpAnyH_take (i := 3) (oi := { dst := some 82, op := Op.fieldAddr 33 (Operand.tmp 6) 1, type := 0, pos := "law.go:160", after := #[], guard := none }) (v := ?_) rfl (by kernel_rfl) (by kernel_rfl) (by kernel_rfl) (fun _ _ _ h => h) (Or.inl ⟨by rfl, ?_⟩) (by assumption) ?_
    rotate_left 1
    · (intro W hSW; (try dsimp only at hSW); first | (go_simp; done) | (go_simp; with_reducible rfl))
    try simp only [Act.put, List.setIfInBounds_toArray, List.set_cons_zero, List.set_cons_succ]
    refine wpAnyH_take (i := 4) (oi := { dst := some 83, op := Op.load 31 (Operand.tmp 82), type := 31, pos := "law.go:160", after := #[{ on := 3, ground := Ground.data }], guard := none }) (v := ?_) rfl (by kernel_rfl) (by kernel_rfl) (by kernel_rfl) (fun _ _ _ h => h) (Or.inl ⟨by rfl, ?_⟩) (by assumption) ?_
    rotate_left 1
    · (intro W hSW; (try dsimp only at hSW); first | (go_simp; done) | (go_simp; with_reducible rfl))
    try simp only [Act.put, List.setIfInBounds_toArray, List.set_cons_zero, List.set_cons_succ]
    refine wpAnyH_take (i := 5) (oi := { dst := some 84, op := Op.move (Operand.tmp 15), type := 3, pos := "law.go:160", after := #[], guard := none }) (v := ?_) rfl (by kernel_rfl) (by kernel_rfl) (by kernel_rfl) (fun _ _ _ h => h) (Or.inl ⟨by rfl, ?_⟩) (by assumption) ?_
    rotate_left 1
    · (intro W hSW; (try dsimp only at hSW); first | (go_simp; done) | (go_simp; with_reducible rfl))
    try simp only [Act.put, List.setIfInBounds_toArray, List.set_cons_zero, List.set_cons_succ]
    refine wpAnyH_take (i := 6) (oi := { dst := some 85, op := Op.indexAddr 31 (Operand.tmp 83) (Operand.tmp 84), type := 0, pos := "law.go:160", after := #[{ on := 4, ground := Ground.data }, { on := 5, ground := Ground.data }], guard := none }) (v := ?_) rfl (by kernel_rfl) (by kernel_rfl) (by kernel_rfl) (fun _ _ _ h => h) (Or.inl ⟨by rfl, ?_⟩) (by assumption) ?_
    rotate_left 1
    · (intro W hSW; (try dsimp only at hSW); first | (go_simp; done) | (go_simp; with_reducible rfl))
    try simp only [Act.put, List.setIfInBounds_toArray, List.set_cons_zero, List.set_cons_succ]
    refine wpAnyH_take (i := 7) (oi := { dst := some 86, op := Op.load 40 (Operand.tmp 85), type := 40, pos := "law.go:160", after := #[{ on := 6, ground := Ground.data }], guard := none }) (v := ?_) rfl (by kernel_rfl) (by kernel_rfl) (by kernel_rfl) (fun _ _ _ h => h) (Or.inl ⟨by rfl, ?_⟩) (by assumption) ?_
    rotate_left 1
    · (intro W hSW; (try dsimp only at hSW); first | (go_simp; done) | (go_simp; with_reducible rfl))
    try simp only [Act.put, List.setIfInBounds_toArray, List.set_cons_zero, List.set_cons_succ]
    refine wpAnyH_take (i := 8) (oi := { dst := some 87, op := Op.slice 40 (Operand.tmp 86) (some (Operand.const (Value.int IntKind.i64 1))) none none, type := 40, pos := "law.go:160", after := #[{ on := 7, ground := Ground.data }], guard := none }) (v := ?_) rfl (by kernel_rfl) (by kernel_rfl) (by kernel_rfl) (fun _ _ _ h => h) (Or.inl ⟨by rfl, ?_⟩) (by assumption) ?_
    rotate_left 1
    · (intro W hSW; (try dsimp only at hSW); first | (go_simp; done) | (go_simp; with_reducible rfl))
    try simp only [Act.put, List.setIfInBounds_toArray, List.set_cons_zero, List.set_cons_succ]
    refine wpAnyH_take (i := 9) (oi := { dst := some 88, op := Op.indexAddr 31 (Operand.tmp 80) (Operand.tmp 81), type := 0, pos := "law.go:160", after := #[{ on := 1, ground := Ground.data }, { on := 2, ground := Ground.data }, { on := 0, ground := Ground.phase }, { on := 1, ground := Ground.phase }, { on := 2, ground := Ground.phase }, { on := 3, ground := Ground.phase }, { on := 4, ground := Ground.phase }, { on := 5, ground := Ground.phase }, { on := 6, ground := Ground.phase }, { on := 7, ground := Ground.phase }, { on := 8, ground := Ground.phase }], guard := none }) (v := ?_) rfl (by kernel_rfl) (by kernel_rfl) (by kernel_rfl) (fun _ _ _ h => h) (Or.inl ⟨by rfl, ?_⟩) (by assumption) ?_
    rotate_left 1
    · (intro W hSW; (try dsimp only at hSW); first | (go_simp; done) | (go_simp; with_reducible rfl))
    try simp only [Act.put, List.setIfInBounds_toArray, List.set_cons_zero, List.set_cons_succ]
    refine wpAnyH_ready (rs := [10]) (by kernel_rfl) (by simp) ?_
    refine (AllReadyH.cons (o := { dst := none, op := Op.store 40 (Operand.tmp 88) (Operand.tmp 87), type := 0, pos := "law.go:160", after := #[{ on := 9, ground := Ground.data }, { on := 8, ground := Ground.data }, { on := 0, ground := Ground.phase }, { on := 1, ground := Ground.phase }, { on := 2, ground := Ground.phase }, { on := 3, ground := Ground.phase }, { on := 4, ground := Ground.phase }, { on := 5, ground := Ground.phase }, { on := 6, ground := Ground.phase }, { on := 7, ground := Ground.phase }, { on := 8, ground := Ground.phase }], guard := none }) rfl (fun K hK => ?_) AllReadyH.nil)
    rw [if_pos (by rfl)]
    have q1 := hcq
    have q2 := hfq
    go_simp
    clear q1 q2
    have gs := grown_set X3 gr q (.slice ea (f - 1) ec)
    have hbl := HL3.out
    have hn1 : tb < W.heap.size := lies_lt (HG.out.cell HL.out.2.2.1 (by simp))
    have hn2 : w.heap.size + 1 < W.heap.size := lies_lt (HBX.out W (grown_refl _ _)).2.2.2.1
    refine hK.out _ _ ⟨gs.cell hHeld.1 (by simp only [ne_eq, Option.some.injEq]; omega), gs.cell hHeld.2.1 (by simp only [ne_eq, Option.some.injEq]; omega), gs.cell hHeld.2.2 (by simp only [ne_eq, Option.some.injEq]; omega)⟩ (fun hHeld => ?_)
    clear hK K
    try simp only [Act.put, List.setIfInBounds_toArray, List.set_cons_zero, List.set_cons_succ]
    refine wpAnyH_done (by kernel_rfl) ?_ _
    have hEND := hdr
    clear hHeld
    clear hEND
    clear hcq hfq hHeld hbl hn1 hn2 HS hes
    have hlen1 : (l.drop 1).length = f - 1 := by rw [List.length_drop, HL.out.2.1]
    have hdw : (X3.setCell ⟨gr, q, none⟩ (.slice ea (f - 1) ec)).grownBy (X3.setCell ⟨gr, q, none⟩ (.slice ea (f - 1) ec)).drew none := ⟨rfl, rfl, rfl, Nat.le_refl _, fun _ _ _ => rfl⟩
    have hgq0 := grown_own HG3.out gs (fun k hk => by cases hk; exact HL3.out.2.2.2)
    have hss := sts_set (q := q) HO3.out HD.out.2.2.2 (d' := (l.drop 1, ea, ec)) (fun d hd => by
      show Rels (X3.setCell ⟨gr, q, none⟩ (.slice ea (l.drop 1).length ec)) d.2.1 d.2.2 d.1
      rw [hlen1]
      rcases List.mem_or_eq_of_mem_set hd with hd | rfl
      · exact (HD.out.2.1 d hd).grown (HG.out.trans hgq0)
      · exact HER.out.grown (HG.out.trans hgq0))
    simp only [hlen1] at hss
    rw [HD.out.1] at hss
    have hgq := hgq0.trans hdw
    have hs4 := hss.1.grown hdw
    have hA4 := (HA3.out.off gs (fun x e => by cases e; have := HL3.out; omega)).off hdw (fun x e => by cases e)
    have hB4 := (HB3.out.off gs (fun x e => by cases e; have := HL3.out; omega)).off hdw (fun x e => by cases e)
    have hC4 := (HC3.out.off gs (fun x e => by cases e; have := HL3.out; omega)).off hdw (fun x e => by cases e)
    obtain ⟨X4, hX4⟩ : ∃ X, (X3.setCell ⟨gr, q, none⟩ (.slice ea (f - 1) ec)).drew = X := ⟨_, rfl⟩
    rw [hX4] at hgq hs4 hA4 hB4 hC4 ⊢
    clear hX4 gs hdw hgq0 hss HO3 HA3 HB3 HC3 HG3 HL3
    have HG4 := Lib.hid hgq
    have HA4 := Lib.hid hA4
    have HB4 := Lib.hid hB4
    have HC4 := Lib.hid hC4
    have HS4 := Lib.hid hs4
    clear hgq hA4 hB4 hC4 hs4 hlen1 hqI hk0 hk00 hiI ff00 t1 t4 hu4 hk4 hlp0 hlpk htc hcap
    have HV3 : Hid (∀ U : World, X4.grownBy U none → Calls Try.prog 18 #[.agg #[.slice s1 ns c1, .slice fa f fc, .slice s3 n3 q3, .slice s4 n4 q4], .agg #[.slice sa n sc, .int .i64 st, .slice (some ⟨gr, 0, none⟩) k cap, .int .i64 lp]] U (fun e w' => e = .returned (.bool false) ∧ U.grownBy w' none)) := Lib.hid (fun U g =>
      HVG.out U _ _ k (L.set q (l.drop 1)) _ _ (HG4.out.trans g) (HS4.out.grown g) (by rw [List.length_set, HN.out.2.1]) hk64 (few_set HFW.out (few_one HFW.out (List.mem_of_getElem? HL.out.1))) (validM_odd (List.mem_set (by rw [HN.out.2.1]; exact hqk) _) (by rw [List.length_drop, HL.out.2.1, HN.out.2.2.1]; omega)))
    obtain ⟨⟨a0, a1, a2, a3⟩, b0, b1, b2, b3⟩ := HBX.out X4 HG4.out
    obtain ⟨x0, x1, x2, x3⟩ := HA4.out.1
    go_wp2_with fail
    refine (HV1.out X4 HG4.out).mono ?_
    rintro e X5 ⟨rfl, g5⟩
    have HG5 := Lib.hid g5; clear g5 a0 a1 a2 a3 b0 b1 b2 b3 x0 x1 x2 x3
    obtain ⟨⟨a0, a1, a2, a3⟩, b0, b1, b2, b3⟩ := HBX.out X5 (HG4.out.trans HG5.out)
    obtain ⟨x0, x1, x2, x3⟩ := (HB4.out.off HG5.out (fun x e => by cases e)).1
    go_wp2_with fail
    refine (HV2.out X5 (HG4.out.trans HG5.out)).mono ?_
    rintro e X6 ⟨rfl, g6⟩
    have HG6 := Lib.hid (HG5.out.trans g6); clear g6 a0 a1 a2 a3 b0 b1 b2 b3 x0 x1 x2 x3
    obtain ⟨⟨a0, a1, a2, a3⟩, b0, b1, b2, b3⟩ := HBX.out X6 (HG4.out.trans HG6.out)
    obtain ⟨x0, x1, x2, x3⟩ := (HC4.out.off HG6.out (fun x e => by cases e)).1
    go_wp2_with fail
    refine (HV3.out X6 HG6.out).mono ?_
    rintro e X7 ⟨rfl, g7⟩
    have HG7 := Lib.hid (HG4.out.trans (HG6.out.trans g7))
    clear g7 a0 a1 a2 a3 b0 b1 b2 b3 x0 x1 x2 x3 HV1 HV2 HV3 HA4 HB4 HC4 HS4 HG4 HG5 HG6 HER HDR HP HGX HGC
    clear hy hfi
    obtain ⟨_, b0, b1, b2, b3⟩ := HBX.out X7 HG7.out
    clear b2 b3
    go_upto_region 15 with fail
    go_wp2_with fail
    clear b0 b1
    obtain ⟨hz0, hz5, hz4⟩ := validI_facts HVI.out
    obtain ⟨zs, hzs⟩ : ∃ zs, us.map Int.toNat = zs := ⟨_, rfl⟩
    obtain ⟨N, hN⟩ : ∃ N, sum zs = N := ⟨_, rfl⟩
    obtain ⟨fd, hfd⟩ : ∃ fd, F[i]? = some fd := ⟨_, List.getElem?_eq_getElem (by rw [HN.out.2.2.1]; exact hif)⟩
    have hcols := validM_cols HV.out hfd
    rw [hzs] at hcols hz5
    have hcols' := hcols
    simp only [Go.Proofs.Ytbddpjofhddilaa.fits, decide_eq_true_eq] at hcols'
    have hpos := validI_pos HVI.out
    rw [hzs] at hpos
    have hzl : zs.length = n := by rw [← hzs, List.length_map]; exact HN.out.1
    have hz4' : zs.length ≤ 4 := by rw [hzl, ← HN.out.1]; exact hz4
    have HZ := Lib.hid (And.intro hzs (And.intro hN (And.intro hz5 (And.intro hz4' (And.intro hpos hzl)))))
    have HNU : Hid (∀ U : World, W.grownBy U none → Nums U sa sc zs) := Lib.hid (fun U g => by rw [← HZ.out.1]; exact (HN.out.2.2.2.2.1.grown (HG.out.trans g)).nums hz0)
    have HFD := Lib.hid (And.intro hfd (And.intro hcols hcols'))
    clear hz0 hz5 hz4 hzs hN hfd hcols hcols' hpos hzl hz4'
    have hN1 : 1 ≤ N := by
      have hc := HFD.out.2.2
      have h0 : 0 < fd.2.1.length := by omega
      have h1 := hc.2.2 _ (List.getElem_mem h0)
      have h2 := sum_first HZ.out.2.2.2.2.1 (m := 0) (by omega)
      have h3 := HZ.out.2.1
      omega
    have hN20 : N ≤ 20 := by
      have h1 := sum_le HZ.out.2.2.1
      have h2 := HZ.out.2.1
      have h3 := HZ.out.2.2.2.1
      omega
    have HAT : Hid (∀ U : World, W.grownBy U none → Calls Try.prog 34 #[.agg #[.slice sa n sc, .int .i64 st]] U (fun e w' => e = .returned (.int .i64 (N : Int)) ∧ U.grownBy w' none)) := Lib.hid (fun U g => by
      have h := atoms_calls zs sa sc st U (HNU.out U g) HZ.out.2.2.1 HZ.out.2.2.2.1
      rw [HZ.out.2.2.2.2.2, HZ.out.2.1] at h
      exact h)
    refine (HAT.out X7 HG7.out).mono ?_
    rintro e X8 ⟨rfl, g8⟩
    have HG8 := Lib.hid (HG7.out.trans g8)
    clear g8 HAT HG7
    have hN0 : ((N : Int) == 0) = false := by simp; omega
    have hN00 : (N : Int) ≠ 0 := by omega
    have hN1B : decide ((N : Int) < 1) = false := by simp; omega
    have hN1C : decide (N < 1) = false := by simp; omega
    obtain ⟨x, hx⟩ : ∃ x, at_ % N = x := ⟨_, rfl⟩
    have hxN : x < N := by rw [← hx]; exact Nat.mod_lt _ (by omega)
    have hxI : (at_ : Int) % (N : Int) = (x : Int) := by omega
    clear hx
    obtain ⟨fb, fo, rfl, fc0, ⟨ya, yk, fc1, yi⟩, fc2⟩ := HN.out.2.2.2.1.2 i fd HFD.out.1
    obtain ⟨p, hp⟩ : ∃ p, fd.2.1.length = p := ⟨_, rfl⟩
    have hp1 : 1 ≤ p := by have := HFD.out.2.2; omega
    have hp3 : p ≤ 3 := by have := HFD.out.2.2; omega
    have hp0 : 0 < p := hp1
    obtain ⟨s0, hs0⟩ : ∃ s, fd.2.1[0]? = some s := ⟨_, List.getElem?_eq_getElem (by omega)⟩
    obtain ⟨yb, yo, rfl, hy0⟩ := yi.at hs0
    rw [hp] at fc1
    have HFC := Lib.hid (And.intro hp (And.intro hs0 (And.intro fc1 (And.intro hy0 yi))))
    clear hp hs0 fc0 fc1 fc2 hy0 yi
    obtain ⟨SV, hSV⟩ : ∃ S, sortI zs (x : Int) = S := ⟨_, rfl⟩
    have HSV := Lib.hid hSV; clear hSV
    have HSO : Hid (∀ U : World, W.grownBy U none → Calls Try.prog 35 #[.agg #[.slice sa n sc, .int .i64 st], .int .i64 (x : Int)] U (fun e w' => e = .returned (.int .i64 SV) ∧ U.grownBy w' none)) := Lib.hid (fun U g => by
      have h := sort_calls zs sa sc st (x : Int) U (HNU.out U g) HZ.out.2.2.1 HZ.out.2.2.2.1
      rw [HZ.out.2.2.2.2.2, HSV.out] at h
      exact h)
    obtain ⟨Q, hQ⟩ : ∃ Q, (SV == s0) = Q := ⟨_, rfl⟩
    obtain ⟨⟨a0, a1, a2, a3⟩, b0, b1, b2, b3⟩ := HBX.out X8 HG8.out
    have f1 := HG8.out.cell (HG.out.cell HFC.out.2.2.1 (by simp)) (by simp)
    have f2 := HG8.out.cell (HG.out.cell HFC.out.2.2.2.1 (by simp)) (by simp)
    go_wp2_with fail
    have HS := Lib.hid (fun (Wh : World) (hWh : X8.grownBy Wh none) => (⟨hWh, hWh.cell a1 (by simp), hWh.cell b0 (by simp), hWh.cell b1 (by simp), hWh.cell f1 (by simp), hWh.cell f2 (by simp)⟩ : (fun Wh : World => X8.grownBy Wh none ∧ Wh.cell? ⟨w.heap.size, 1, none⟩ = some (.slice (some ⟨fb, fo, none⟩) f fc) ∧ Wh.cell? ⟨w.heap.size + 1, 0, none⟩ = some (.slice sa n sc) ∧ Wh.cell? ⟨w.heap.size + 1, 1, none⟩ = some (.int .i64 st) ∧ Wh.cell? ⟨fb, fo + i * 3 + 1, none⟩ = some (.slice (some ⟨yb, yo, none⟩) p yk) ∧ Wh.cell? ⟨yb, yo, none⟩ = some (.int .i64 s0)) Wh))
    clear a1 b0 b1 f1 f2 a0 a2 a3 b2 b3
    have hdr : X8.grownBy X8.drew none := ⟨rfl, rfl, rfl, Nat.le_refl _, fun _ _ _ => rfl⟩
    refine wp_region_held_drew (S := (fun Wh : World => X8.grownBy Wh none ∧ Wh.cell? ⟨w.heap.size, 1, none⟩ = some (.slice (some ⟨fb, fo, none⟩) f fc) ∧ Wh.cell? ⟨w.heap.size + 1, 0, none⟩ = some (.slice sa n sc) ∧ Wh.cell? ⟨w.heap.size + 1, 1, none⟩ = some (.int .i64 st) ∧ Wh.cell? ⟨fb, fo + i * 3 + 1, none⟩ = some (.slice (some ⟨yb, yo, none⟩) p yk) ∧ Wh.cell? ⟨yb, yo, none⟩ = some (.int .i64 s0))) (by kernel_rfl) (HS.out _ hdr) (fun hHeld => ?_)
    refine wpAnyH_take (i := 0) (oi := { dst := some 111, op := Op.fieldAddr 33 (Operand.tmp 6) 0, type := 0, pos := "law.go:169", after := #[], guard := none }) (v := ?_) rfl (by kernel_rfl) (by kernel_rfl) (by kernel_rfl) (fun _ _ _ h => h) (Or.inl ⟨by rfl, ?_⟩) (by assumption) ?_
    rotate_left 1
    · (intro W hSW; (try dsimp only at hSW); first | (go_simp; done) | (go_simp; with_reducible rfl))
    try simp only [Act.put, List.setIfInBounds_toArray, List.set_cons_zero, List.set_cons_succ]
    refine wpAnyH_take (i := 1) (oi := { dst := some 112, op := Op.load 30 (Operand.tmp 111), type := 30, pos := "law.go:169", after := #[{ on := 0, ground := Ground.data }], guard := none }) (v := ?_) rfl (by kernel_rfl) (by kernel_rfl) (by kernel_rfl) (fun _ _ _ h => h) (Or.inl ⟨by rfl, ?_⟩) (by assumption) ?_
    rotate_left 1
    · (intro W hSW; (try dsimp only at hSW); first | (go_simp; done) | (go_simp; with_reducible rfl))
    try simp only [Act.put, List.setIfInBounds_toArray, List.set_cons_zero, List.set_cons_succ]
    refine wpAnyH_take (i := 2) (oi := { dst := some 113, op := Op.move (Operand.tmp 18), type := 3, pos := "law.go:169", after := #[], guard := none }) (v := ?_) rfl (by kernel_rfl) (by kernel_rfl) (by kernel_rfl) (fun _ _ _ h => h) (Or.inl ⟨by rfl, ?_⟩) (by assumption) ?_
    rotate_left 1
    · (intro W hSW; (try dsimp only at hSW); first | (go_simp; done) | (go_simp; with_reducible rfl))
    try simp only [Act.put, List.setIfInBounds_toArray, List.set_cons_zero, List.set_cons_succ]
    refine wpAnyH_take (i := 4) (oi := { dst := some 115, op := Op.fieldAddr 27 (Operand.tmp 5) 1, type := 0, pos := "law.go:169", after := #[], guard := none }) (v := ?_) rfl (by kernel_rfl) (by kernel_rfl) (by kernel_rfl) (fun _ _ _ h => h) (Or.inl ⟨by rfl, ?_⟩) (by assumption) ?_
    rotate_left 1
    · (intro W hSW; (try dsimp only at hSW); first | (go_simp; done) | (go_simp; with_reducible rfl))
    try simp only [Act.put, List.setIfInBounds_toArray, List.set_cons_zero, List.set_cons_succ]
    refine wpAnyH_take (i := 5) (oi := { dst := some 116, op := Op.load 23 (Operand.tmp 115), type := 23, pos := "law.go:169", after := #[{ on := 4, ground := Ground.data }], guard := none }) (v := ?_) rfl (by kernel_rfl) (by kernel_rfl) (by kernel_rfl) (fun _ _ _ h => h) (Or.inl ⟨by rfl, ?_⟩) (by assumption) ?_
    rotate_left 1
    · (intro W hSW; (try dsimp only at hSW); first | (go_simp; done) | (go_simp; with_reducible rfl))
    try simp only [Act.put, List.setIfInBounds_toArray, List.set_cons_zero, List.set_cons_succ]
    refine wpAnyH_take (i := 6) (oi := { dst := some 117, op := Op.move (Operand.tmp 16), type := 3, pos := "law.go:169", after := #[], guard := none }) (v := ?_) rfl (by kernel_rfl) (by kernel_rfl) (by kernel_rfl) (fun _ _ _ h => h) (Or.inl ⟨by rfl, ?_⟩) (by assumption) ?_
    rotate_left 1
    · (intro W hSW; (try dsimp only at hSW); first | (go_simp; done) | (go_simp; with_reducible rfl))
    try simp only [Act.put, List.setIfInBounds_toArray, List.set_cons_zero, List.set_cons_succ]
    refine wpAnyH_take (i := 7) (oi := { dst := some 118, op := Op.indexAddr 23 (Operand.tmp 116) (Operand.tmp 117), type := 0, pos := "law.go:169", after := #[{ on := 5, ground := Ground.data }, { on := 6, ground := Ground.data }], guard := none }) (v := ?_) rfl (by kernel_rfl) (by kernel_rfl) (by kernel_rfl) (fun _ _ _ h => h) (Or.inl ⟨by rfl, ?_⟩) (by assumption) ?_
    rotate_left 1
    · (intro W hSW; (try dsimp only at hSW); first | (go_simp; done) | (go_simp; with_reducible rfl))
    try simp only [Act.put, List.setIfInBounds_toArray, List.set_cons_zero, List.set_cons_succ]
    refine wpAnyH_take (i := 8) (oi := { dst := some 119, op := Op.fieldAddr 51 (Operand.tmp 118) 1, type := 0, pos := "law.go:169", after := #[{ on := 7, ground := Ground.data }], guard := none }) (v := ?_) rfl (by kernel_rfl) (by kernel_rfl) (by kernel_rfl) (fun _ _ _ h => h) (Or.inl ⟨by rfl, ?_⟩) (by assumption) ?_
    rotate_left 1
    · (intro W hSW; (try dsimp only at hSW); first | (go_simp; done) | (go_simp; with_reducible rfl))
    try simp only [Act.put, List.setIfInBounds_toArray, List.set_cons_zero, List.set_cons_succ]
    refine wpAnyH_take (i := 9) (oi := { dst := some 120, op := Op.load 28 (Operand.tmp 119), type := 28, pos := "law.go:169", after := #[{ on := 8, ground := Ground.data }], guard := none }) (v := ?_) rfl (by kernel_rfl) (by kernel_rfl) (by kernel_rfl) (fun _ _ _ h => h) (Or.inl ⟨by rfl, ?_⟩) (by assumption) ?_
    rotate_left 1
    · (intro W hSW; (try dsimp only at hSW); first | (go_simp; done) | (go_simp; with_reducible rfl))
    try simp only [Act.put, List.setIfInBounds_toArray, List.set_cons_zero, List.set_cons_succ]
    refine wpAnyH_take (i := 10) (oi := { dst := some 121, op := Op.indexAddr 28 (Operand.tmp 120) (Operand.const (Value.int IntKind.i64 0)), type := 0, pos := "law.go:169", after := #[{ on := 9, ground := Ground.data }], guard := none }) (v := ?_) rfl (by kernel_rfl) (by kernel_rfl) (by kernel_rfl) (fun _ _ _ h => h) (Or.inl ⟨by rfl, ?_⟩) (by assumption) ?_
    rotate_left 1
    · (intro W hSW; (try dsimp only at hSW); first | (go_simp; done) | (go_simp; with_reducible rfl))
    try simp only [Act.put, List.setIfInBounds_toArray, List.set_cons_zero, List.set_cons_succ]
    refine wpAnyH_take (i := 11) (oi := { dst := some 122, op := Op.load 3 (Operand.tmp 121), type := 3, pos := "law.go:169", after := #[{ on := 10, ground := Ground.data }], guard := none }) (v := ?_) rfl (by kernel_rfl) (by kernel_rfl) (by kernel_rfl) (fun _ _ _ h => h) (Or.inl ⟨by rfl, ?_⟩) (by assumption) ?_
    rotate_left 1
    · (intro W hSW; (try dsimp only at hSW); first | (go_simp; done) | (go_simp; with_reducible rfl))
    try simp only [Act.put, List.setIfInBounds_toArray, List.set_cons_zero, List.set_cons_succ]
    refine wpAnyH_ready (rs := [3]) (by kernel_rfl) (by simp) ?_
    refine (AllReadyH.cons (o := { dst := some 114, op := Op.call { callee := Callee.value (Operand.func 35), args := #[Operand.tmp 112, Operand.tmp 113], argTypes := #[30, 3] }, type := 3, pos := "law.go:169", after := #[{ on := 1, ground := Ground.data }, { on := 2, ground := Ground.data }], guard := none }) rfl (fun K hK => ?_) AllReadyH.nil)
    rw [if_pos (by rfl)]
    go_simp
    go_at_call 35
    refine (HSO.out _ (HG8.out.trans (hdr))).mono ?_
    rintro e wc1 ⟨rfl, gc1⟩
    have hgr1 := World.grownBy.trans hdr gc1
    go_wp2_with fail
    refine hK.out _ _ (HS.out _ hgr1) (fun hHeld => ?_)
    clear hK K
    try simp only [Act.put, List.setIfInBounds_toArray, List.set_cons_zero, List.set_cons_succ]
    refine wpAnyH_take (i := 12) (oi := { dst := some 123, op := Op.binOp BinOp.eql 3 (Operand.tmp 114) (Operand.tmp 122) 3, type := 4, pos := "law.go:169", after := #[{ on := 3, ground := Ground.data }, { on := 11, ground := Ground.data }], guard := none }) (v := ?_) rfl (by kernel_rfl) (by kernel_rfl) (by kernel_rfl) (fun _ _ _ h => h) (Or.inl ⟨by rfl, ?_⟩) (by assumption) ?_
    rotate_left 1
    · (intro W hSW; (try dsimp only at hSW); first | (go_simp; done) | (go_simp; with_reducible rfl))
    try simp only [Act.put, List.setIfInBounds_toArray, List.set_cons_zero, List.set_cons_succ]
    refine wpAnyH_done (by kernel_rfl) ?_ _
    have hEND := hgr1
    clear hHeld
    have HG9 := Lib.hid (HG8.out.trans hEND)
    clear hEND HS
    try (obtain ⟨X9, rfl⟩ : ∃ z, z = wc1 := ⟨_, rfl⟩)
    clear hN0 hN00 hxI hat ff0 hN1B hN1C
    cases Q with
    | true =>
      go_wp2_with fail
      go_ret
      exact ⟨rfl, HG.out.trans HG9.out⟩
    | false =>
    have hne : SV ≠ s0 := by simpa using hQ
    have HNE := Lib.hid hne; clear hne hQ
    obtain ⟨E0, hE0⟩ : ∃ E, X9.heap.size = E := ⟨_, rfl⟩
    have hO0 : (X9.alloc (.cells #[.int .i64 (x : Int)] 3)).ownsRow X9.heap.size 3 1 (.slice (some ⟨X9.heap.size, 0, none⟩) 1 1) 1 (intCells (ints (tupF zs fd.2.1 x 0))) := World.ownsRow_lit X9 #[.int .i64 (x : Int)] 1 (Nat.le_refl _) (by unfold maxLen; omega) rfl
    have HO0 := Lib.hid (And.intro hO0 (HG9.out.trans (World.grownBy_alloc X9 (.cells #[.int .i64 (x : Int)] 3) none)))
    have HE0 := Lib.hid (And.intro hE0 HG9.out.size)
    clear hO0 hE0
    go_wp2_with fail
    go_loopg [19] (p - 1) (fun g s19 wr => ∃ j : Nat, g = p - 1 - j ∧ j + 1 ≤ p ∧ (∃ a c, s19 = .slice a (j + 1) c) ∧ wr.ownsRow X9.heap.size 3 1 s19 (j + 1) (intCells (ints (tupF zs fd.2.1 x j))) ∧ W.grownBy wr none ∧ X9.heap.size ≤ wr.heap.size)
    case atStart => exact ⟨0, rfl, hp1, ⟨_, _, rfl⟩, HO0.out.1, HO0.out.2, World.grownBy.size (World.grownBy_alloc X9 (.cells #[.int .i64 (x : Int)] 3) none)⟩
    case round =>
      obtain ⟨j, hgj, hj, ⟨va, vc, rfl⟩, hown, hgr, hsz⟩ := hrel
      have HJ := Lib.hid (And.intro hgj (And.intro hown (And.intro hgr hsz))); clear hgj hown hgr hsz
      obtain ⟨⟨a0, a1, a2, a3⟩, b0, b1, b2, b3⟩ := HBX.out wr HJ.out.2.2.1
      have f1 := HJ.out.2.2.1.cell (HG.out.cell HFC.out.2.2.1 (by simp)) (by simp)
      by_cases hjp : j + 1 < p
      · have hjB : decide (j + 1 < p) = true := by simpa using hjp
        have hjI : (j : Int) + 1 < (p : Int) := by omega
        have hj1 : (0 : Int) ≤ (j : Int) + 1 := by omega
        obtain ⟨sj, hsj⟩ : ∃ s, fd.2.1[j + 1]? = some s := ⟨_, List.getElem?_eq_getElem (by rw [HFC.out.1]; exact hjp)⟩
        have hsb : 0 ≤ sj ∧ sj < (zs.length : Int) := by
          obtain ⟨hlt, e⟩ := List.getElem?_eq_some_iff.1 hsj
          have := HFD.out.2.2.2.2 _ (List.getElem_mem hlt)
          rw [e] at this
          exact this
        obtain ⟨m, rfl⟩ : ∃ m : Nat, sj = (m : Int) := ⟨sj.toNat, (Int.toNat_of_nonneg hsb.1).symm⟩
        have HTU : Hid (ints (tupF zs fd.2.1 x (j + 1)) = ints (tupF zs fd.2.1 x j) ++ [((sum (zs.take m) : Nat) : Int)]) := Lib.hid (by
          rw [tupF, List.getD_eq_getElem?_getD, hsj, Option.getD_some, Int.toNat_natCast, ints, ints, List.map_append]; rfl)
        obtain ⟨b', o', e', hcs⟩ := HFC.out.2.2.2.2.at hsj
        injection e' with e'
        injection e' with e1 e2 _
        subst e1 e2
        have hcsW := HG.out.cell hcs (by simp)
        have f3 := HJ.out.2.2.1.cell hcsW (by simp)
        obtain ⟨V, hV⟩ : ∃ V, sum (zs.take m) = V := ⟨_, rfl⟩
        have HFI : Hid (∀ U : World, W.grownBy U none → Calls Try.prog 36 #[.agg #[.slice sa n sc, .int .i64 st], .int .i64 (m : Int)] U (fun e w' => e = .returned (.int .i64 (V : Int)) ∧ U.grownBy w' none)) := Lib.hid (fun U g => by
          have h := first_calls zs sa sc st U (HNU.out U g) HZ.out.2.2.1 HZ.out.2.2.2.1 m (by omega)
          rw [HZ.out.2.2.2.2.2, hV] at h
          exact h)
        rw [hV] at HTU
        clear hsj hcs hV hsb
        go_wp2_with fail
        obtain ⟨i0, hi0, hz0, hz1, hz2⟩ := info_parts info3
        have HS := Lib.hid (fun (Wh : World) (hWh : wr.grownBy Wh none) => (⟨hWh.cell a1 (by simp), hWh.cell b0 (by simp), hWh.cell b1 (by simp), hWh.cell f1 (by simp), hWh.cell f3 (by simp)⟩ : (fun Wh : World => Wh.cell? ⟨w.heap.size, 1, none⟩ = some (.slice (some ⟨fb, fo, none⟩) f fc) ∧ Wh.cell? ⟨w.heap.size + 1, 0, none⟩ = some (.slice sa n sc) ∧ Wh.cell? ⟨w.heap.size + 1, 1, none⟩ = some (.int .i64 st) ∧ Wh.cell? ⟨fb, fo + i * 3 + 1, none⟩ = some (.slice (some ⟨yb, yo, none⟩) p yk) ∧ Wh.cell? ⟨yb, yo + (j + 1), none⟩ = some (.int .i64 (m : Int))) Wh))
        have HS6 := Lib.hid (fun (Wh : World) (hWh : W.grownBy Wh none) => (⟨(HBX.out Wh hWh).1.2.1, (HBX.out Wh hWh).2.1, (HBX.out Wh hWh).2.2.1, hWh.cell (HG.out.cell HFC.out.2.2.1 (by simp)) (by simp), hWh.cell hcsW (by simp)⟩ : (fun Wh : World => Wh.cell? ⟨w.heap.size, 1, none⟩ = some (.slice (some ⟨fb, fo, none⟩) f fc) ∧ Wh.cell? ⟨w.heap.size + 1, 0, none⟩ = some (.slice sa n sc) ∧ Wh.cell? ⟨w.heap.size + 1, 1, none⟩ = some (.int .i64 st) ∧ Wh.cell? ⟨fb, fo + i * 3 + 1, none⟩ = some (.slice (some ⟨yb, yo, none⟩) p yk) ∧ Wh.cell? ⟨yb, yo + (j + 1), none⟩ = some (.int .i64 (m : Int))) Wh))
        clear a0 a1 a2 a3 b0 b1 b2 b3 f1 f3
        have hdr : wr.grownBy wr.drew none := ⟨rfl, rfl, rfl, Nat.le_refl _, fun _ _ _ => rfl⟩
        refine wp_region_held_drew (S := (fun Wh : World => Wh.cell? ⟨w.heap.size, 1, none⟩ = some (.slice (some ⟨fb, fo, none⟩) f fc) ∧ Wh.cell? ⟨w.heap.size + 1, 0, none⟩ = some (.slice sa n sc) ∧ Wh.cell? ⟨w.heap.size + 1, 1, none⟩ = some (.int .i64 st) ∧ Wh.cell? ⟨fb, fo + i * 3 + 1, none⟩ = some (.slice (some ⟨yb, yo, none⟩) p yk) ∧ Wh.cell? ⟨yb, yo + (j + 1), none⟩ = some (.int .i64 (m : Int)))) (by kernel_rfl) (HS.out _ hdr) (fun hHeld => ?_)
        refine wpAnyH_take (i := 0) (oi := { dst := some 137, op := Op.move (Operand.tmp 19), type := 28, pos := "law.go:174", after := #[], guard := none }) (v := ?_) rfl (by kernel_rfl) (by kernel_rfl) (by kernel_rfl) (fun _ _ _ h => h) (Or.inl ⟨by rfl, ?_⟩) (by assumption) ?_
        rotate_left 1
        · (intro W hSW; (try dsimp only at hSW); first | (go_simp; done) | (go_simp; with_reducible rfl))
        try simp only [Act.put, List.setIfInBounds_toArray, List.set_cons_zero, List.set_cons_succ]
        refine wpAnyH_take (i := 1) (oi := { dst := some 138, op := Op.fieldAddr 33 (Operand.tmp 6) 0, type := 0, pos := "law.go:174", after := #[], guard := none }) (v := ?_) rfl (by kernel_rfl) (by kernel_rfl) (by kernel_rfl) (fun _ _ _ h => h) (Or.inl ⟨by rfl, ?_⟩) (by assumption) ?_
        rotate_left 1
        · (intro W hSW; (try dsimp only at hSW); first | (go_simp; done) | (go_simp; with_reducible rfl))
        try simp only [Act.put, List.setIfInBounds_toArray, List.set_cons_zero, List.set_cons_succ]
        refine wpAnyH_take (i := 2) (oi := { dst := some 139, op := Op.load 30 (Operand.tmp 138), type := 30, pos := "law.go:174", after := #[{ on := 1, ground := Ground.data }], guard := none }) (v := ?_) rfl (by kernel_rfl) (by kernel_rfl) (by kernel_rfl) (fun _ _ _ h => h) (Or.inl ⟨by rfl, ?_⟩) (by assumption) ?_
        rotate_left 1
        · (intro W hSW; (try dsimp only at hSW); first | (go_simp; done) | (go_simp; with_reducible rfl))
        try simp only [Act.put, List.setIfInBounds_toArray, List.set_cons_zero, List.set_cons_succ]
        refine wpAnyH_take (i := 3) (oi := { dst := some 140, op := Op.fieldAddr 27 (Operand.tmp 5) 1, type := 0, pos := "law.go:174", after := #[], guard := none }) (v := ?_) rfl (by kernel_rfl) (by kernel_rfl) (by kernel_rfl) (fun _ _ _ h => h) (Or.inl ⟨by rfl, ?_⟩) (by assumption) ?_
        rotate_left 1
        · (intro W hSW; (try dsimp only at hSW); first | (go_simp; done) | (go_simp; with_reducible rfl))
        try simp only [Act.put, List.setIfInBounds_toArray, List.set_cons_zero, List.set_cons_succ]
        refine wpAnyH_take (i := 4) (oi := { dst := some 141, op := Op.load 23 (Operand.tmp 140), type := 23, pos := "law.go:174", after := #[{ on := 3, ground := Ground.data }], guard := none }) (v := ?_) rfl (by kernel_rfl) (by kernel_rfl) (by kernel_rfl) (fun _ _ _ h => h) (Or.inl ⟨by rfl, ?_⟩) (by assumption) ?_
        rotate_left 1
        · (intro W hSW; (try dsimp only at hSW); first | (go_simp; done) | (go_simp; with_reducible rfl))
        try simp only [Act.put, List.setIfInBounds_toArray, List.set_cons_zero, List.set_cons_succ]
        refine wpAnyH_take (i := 5) (oi := { dst := some 142, op := Op.move (Operand.tmp 16), type := 3, pos := "law.go:174", after := #[], guard := none }) (v := ?_) rfl (by kernel_rfl) (by kernel_rfl) (by kernel_rfl) (fun _ _ _ h => h) (Or.inl ⟨by rfl, ?_⟩) (by assumption) ?_
        rotate_left 1
        · (intro W hSW; (try dsimp only at hSW); first | (go_simp; done) | (go_simp; with_reducible rfl))
        try simp only [Act.put, List.setIfInBounds_toArray, List.set_cons_zero, List.set_cons_succ]
        refine wpAnyH_take (i := 6) (oi := { dst := some 143, op := Op.indexAddr 23 (Operand.tmp 141) (Operand.tmp 142), type := 0, pos := "law.go:174", after := #[{ on := 4, ground := Ground.data }, { on := 5, ground := Ground.data }], guard := none }) (v := ?_) rfl (by kernel_rfl) (by kernel_rfl) (by kernel_rfl) (fun _ _ _ h => h) (Or.inl ⟨by rfl, ?_⟩) (by assumption) ?_
        rotate_left 1
        · (intro W hSW; (try dsimp only at hSW); first | (go_simp; done) | (go_simp; with_reducible rfl))
        try simp only [Act.put, List.setIfInBounds_toArray, List.set_cons_zero, List.set_cons_succ]
        refine wpAnyH_take (i := 7) (oi := { dst := some 144, op := Op.fieldAddr 51 (Operand.tmp 143) 1, type := 0, pos := "law.go:174", after := #[{ on := 6, ground := Ground.data }], guard := none }) (v := ?_) rfl (by kernel_rfl) (by kernel_rfl) (by kernel_rfl) (fun _ _ _ h => h) (Or.inl ⟨by rfl, ?_⟩) (by assumption) ?_
        rotate_left 1
        · (intro W hSW; (try dsimp only at hSW); first | (go_simp; done) | (go_simp; with_reducible rfl))
        try simp only [Act.put, List.setIfInBounds_toArray, List.set_cons_zero, List.set_cons_succ]
        refine wpAnyH_take (i := 8) (oi := { dst := some 145, op := Op.load 28 (Operand.tmp 144), type := 28, pos := "law.go:174", after := #[{ on := 7, ground := Ground.data }], guard := none }) (v := ?_) rfl (by kernel_rfl) (by kernel_rfl) (by kernel_rfl) (fun _ _ _ h => h) (Or.inl ⟨by rfl, ?_⟩) (by assumption) ?_
        rotate_left 1
        · (intro W hSW; (try dsimp only at hSW); first | (go_simp; done) | (go_simp; with_reducible rfl))
        try simp only [Act.put, List.setIfInBounds_toArray, List.set_cons_zero, List.set_cons_succ]
        refine wpAnyH_take (i := 9) (oi := { dst := some 146, op := Op.move (Operand.tmp 19), type := 28, pos := "law.go:174", after := #[], guard := none }) (v := ?_) rfl (by kernel_rfl) (by kernel_rfl) (by kernel_rfl) (fun _ _ _ h => h) (Or.inl ⟨by rfl, ?_⟩) (by assumption) ?_
        rotate_left 1
        · (intro W hSW; (try dsimp only at hSW); first | (go_simp; done) | (go_simp; with_reducible rfl))
        try simp only [Act.put, List.setIfInBounds_toArray, List.set_cons_zero, List.set_cons_succ]
        refine wpAnyH_take (i := 10) (oi := { dst := some 147, op := Op.call { callee := Callee.builtin Builtin.len, args := #[Operand.tmp 146], argTypes := #[28] }, type := 3, pos := "law.go:174", after := #[{ on := 9, ground := Ground.data }], guard := none }) (v := ?_) rfl (by kernel_rfl) (by kernel_rfl) (by kernel_rfl) (fun _ _ _ h => h) (Or.inl ⟨by rfl, ?_⟩) (by assumption) ?_
        rotate_left 1
        · (intro W hSW; (try dsimp only at hSW); first | (go_simp; done) | (go_simp; with_reducible rfl))
        try simp only [Act.put, List.setIfInBounds_toArray, List.set_cons_zero, List.set_cons_succ]
        refine wpAnyH_take (i := 11) (oi := { dst := some 148, op := Op.indexAddr 28 (Operand.tmp 145) (Operand.tmp 147), type := 0, pos := "law.go:174", after := #[{ on := 8, ground := Ground.data }, { on := 10, ground := Ground.data }], guard := none }) (v := ?_) rfl (by kernel_rfl) (by kernel_rfl) (by kernel_rfl) (fun _ _ _ h => h) (Or.inl ⟨by rfl, ?_⟩) (by assumption) ?_
        rotate_left 1
        · (intro W hSW; (try dsimp only at hSW); first | (go_simp; done) | (go_simp; with_reducible rfl))
        try simp only [Act.put, List.setIfInBounds_toArray, List.set_cons_zero, List.set_cons_succ]
        refine wpAnyH_take (i := 12) (oi := { dst := some 149, op := Op.load 3 (Operand.tmp 148), type := 3, pos := "law.go:174", after := #[{ on := 11, ground := Ground.data }], guard := none }) (v := ?_) rfl (by kernel_rfl) (by kernel_rfl) (by kernel_rfl) (fun _ _ _ h => h) (Or.inl ⟨by rfl, ?_⟩) (by assumption) ?_
        rotate_left 1
        · (intro W hSW; (try dsimp only at hSW); first | (go_simp; done) | (go_simp; with_reducible rfl))
        try simp only [Act.put, List.setIfInBounds_toArray, List.set_cons_zero, List.set_cons_succ]
        refine wpAnyH_ready (rs := [13]) (by kernel_rfl) (by simp) ?_
        refine (AllReadyH.cons (o := { dst := some 150, op := Op.call { callee := Callee.value (Operand.func 36), args := #[Operand.tmp 139, Operand.tmp 149], argTypes := #[30, 3] }, type := 3, pos := "law.go:174", after := #[{ on := 2, ground := Ground.data }, { on := 12, ground := Ground.data }], guard := none }) rfl (fun K hK => ?_) AllReadyH.nil)
        rw [if_pos (by rfl)]
        go_simp
        go_at_call 36
        refine (HFI.out _ (HJ.out.2.2.1.trans (hdr))).mono ?_
        rintro e wc1 ⟨rfl, gc1⟩
        have hgr1 := World.grownBy.trans hdr gc1
        go_wp2_with fail
        refine hK.out _ _ (HS.out _ hgr1) (fun hHeld => ?_)
        clear hK K
        try simp only [Act.put, List.setIfInBounds_toArray, List.set_cons_zero, List.set_cons_succ]
        refine wpAnyH_ready (rs := [14]) (by kernel_rfl) (by simp) ?_
        refine (AllReadyH.cons (o := { dst := some 151, op := Op.buildSlice 28 1 #[(0, Operand.tmp 150)], type := 28, pos := "law.go:174", after := #[{ on := 13, ground := Ground.data }], guard := none }) rfl (fun K hK => ?_) AllReadyH.nil)
        rw [if_pos (by rfl)]
        go_simp
        have hal := World.grownBy_alloc wc1 (.cells #[.int .i64 (V : Int)] 3) none
        have hnA := cell_one_new wc1 (.int .i64 (V : Int)) 3
        have hoA := (own_keptZ HJ.out.2.1 hgr1).alloc (.cells #[.int .i64 (V : Int)] 3)
        have hgA := World.grownBy.trans hgr1 hal
        refine hK.out _ _ (HS.out _ hgA) (fun hHeld => ?_)
        clear hK K
        try simp only [Act.put, List.setIfInBounds_toArray, List.set_cons_zero, List.set_cons_succ]
        refine wpAnyH_ready (rs := [15]) (by kernel_rfl) (by simp) ?_
        refine (AllReadyH.cons (o := { dst := some 152, op := Op.call { callee := Callee.builtin Builtin.append, args := #[Operand.tmp 137, Operand.tmp 151], argTypes := #[28, 28] }, type := 28, pos := "law.go:174", after := #[{ on := 0, ground := Ground.data }, { on := 14, ground := Ground.data }, { on := 13, ground := Ground.chain }], guard := none }) rfl (fun K hK => ?_) AllReadyH.nil)
        refine ready_append_z 28 3 (.tmp 137) (.tmp 151) rfl rfl Try.underlying28 hi0 hz0 hz1 hz2 rfl (by decide) (by omega) X9.heap.size _ _ (intCells _) rfl hoA ⟨wc1.heap.size, 0, none⟩ [.int .i64 (V : Int)] rfl rfl hnA (fun u hu => by simp at hu; subst hu; rfl) (by omega) (Nat.le_trans HJ.out.2.2.2 hgA.size) (fun v' w6 hown' hgrow6 hat6 => ?_)
        have hg6 := grown_own (HJ.out.2.2.1.trans hgA) hgrow6 (fun k hk => Nat.le_trans HE0.out.2 (hoA.lt k hk).1)
        have hg7 : ∀ (a : Addr) (v : Value), W.cell? a = some v → w6.cell? a = some v := fun a v h => hg6.cell h (by simp)
        obtain ⟨va', vc', rfl⟩ := own_shape hown'
        refine hK.out _ _ (HS6.out _ hg6) (fun hHeld => ?_)
        clear hK K
        try simp only [Act.put, List.setIfInBounds_toArray, List.set_cons_zero, List.set_cons_succ]
        refine wpAnyH_take (i := 16) (oi := { dst := some 19, op := Op.assign (Operand.tmp 152), type := 28, pos := "law.go:174", after := #[{ on := 15, ground := Ground.data }, { on := 15, ground := Ground.chain }, { on := 0, ground := Ground.phase }, { on := 1, ground := Ground.phase }, { on := 2, ground := Ground.phase }, { on := 3, ground := Ground.phase }, { on := 4, ground := Ground.phase }, { on := 5, ground := Ground.phase }, { on := 6, ground := Ground.phase }, { on := 7, ground := Ground.phase }, { on := 8, ground := Ground.phase }, { on := 9, ground := Ground.phase }, { on := 10, ground := Ground.phase }, { on := 11, ground := Ground.phase }, { on := 12, ground := Ground.phase }, { on := 13, ground := Ground.phase }, { on := 14, ground := Ground.phase }, { on := 15, ground := Ground.phase }], guard := none }) (v := ?_) rfl (by kernel_rfl) (by kernel_rfl) (by kernel_rfl) (fun _ _ _ h => h) (Or.inl ⟨by rfl, ?_⟩) (by assumption) ?_
        rotate_left 1
        · (intro W hSW; (try dsimp only at hSW); first | (go_simp; done) | (go_simp; with_reducible rfl))
        try simp only [Act.put, List.setIfInBounds_toArray, List.set_cons_zero, List.set_cons_succ]
        refine wpAnyH_done (by kernel_rfl) ?_ _
        have hEND := hg6
        clear hHeld
        have HO6 : Hid (w6.ownsRow X9.heap.size 3 1 (.slice va' (j + 1 + 1) vc') (j + 1 + 1) (intCells (ints (tupF zs fd.2.1 x (j + 1))))) := Lib.hid (by
          rw [HTU.out]; simpa [intCells] using hown')
        have HG6 := Lib.hid (And.intro hg6 (Nat.le_trans (Nat.le_trans HJ.out.2.2.2 hgA.size) hgrow6.size))
        clear hown' hgrow6 hat6 hg6 hg7 hoA hnA hgA hal hEND HS HS6
        go_wp2_with fail
        go_roundg (p - 1 - (j + 1))
        case measure => rw [HJ.out.1]; omega
        case rel => exact ⟨j + 1, rfl, by omega, ⟨_, _, rfl⟩, HO6.out, HG6.out.1, HG6.out.2⟩
      · have hje : j + 1 = p := by omega
        subst hje
        have hjB : decide (j + 1 < j + 1) = false := by simp
        clear hjp
        clear hjB
        obtain ⟨T, hT⟩ : ∃ T, ints (tupF zs fd.2.1 x j) = T := ⟨_, rfl⟩
        have hTl : T.length = j + 1 := by rw [← hT, ints, List.length_map, tupF_len]
        have hTo := HJ.out.2.1
        rw [hT, ← hTl] at hTo
        obtain ⟨a', c', hv, hTi⟩ := ints_span hTo
        rw [hTl] at hv
        injection hv with hv1 _ hv2
        subst hv1 hv2
        have HT := Lib.hid (And.intro hT (And.intro hTl hTi)); clear hT hTl hTo hTi
        obtain ⟨Y0, rfl⟩ : ∃ z, z = wr := ⟨_, rfl⟩
        have HY0 := Lib.hid HJ.out.2.2.1
        go_upto_region 25 with fail
        have hY1 := World.grownBy_alloc Y0 (.cells #[.slice sa n sc, .int .i64 st, .slice (some ⟨tb, tof, none⟩) k tc, .int .i64 lp] 33) none
        have h4 : Held4 (Y0.alloc (.cells #[.slice sa n sc, .int .i64 st, .slice (some ⟨tb, tof, none⟩) k tc, .int .i64 lp] 33)) Y0.heap.size (.slice sa n sc) (.int .i64 st) (.slice (some ⟨tb, tof, none⟩) k tc) (.int .i64 lp) := ⟨⟨by go_simp, by go_simp, by go_simp, by go_simp⟩, fun o => by go_simp⟩
        obtain ⟨Y1, hY1e⟩ : ∃ Y, Y0.alloc (.cells #[.slice sa n sc, .int .i64 st, .slice (some ⟨tb, tof, none⟩) k tc, .int .i64 lp] 33) = Y := ⟨_, rfl⟩
        rw [hY1e] at hY1 h4 ⊢
        clear hY1e
        have hq0 : W.heap.size ≤ Y0.heap.size := HY0.out.size
        obtain ⟨p4, hp4⟩ : ∃ p, Y0.heap.size = p := ⟨_, rfl⟩
        rw [hp4] at h4 hq0 ⊢
        have hp4' := hp4
        clear hp4
        have HY1 := Lib.hid (HY0.out.trans hY1)
        have HD4 := Lib.hid (And.intro h4 (And.intro hq0 hp4'))
        have HY01 := Lib.hid hY1
        clear hY1 h4 hq0 hp4' a0 a1 a2 a3 b0 b1 b2 b3
        obtain ⟨⟨a0, a1, a2, a3⟩, b0, b1, b2, b3⟩ := HBX.out Y1 HY1.out
        have b2' := (World.grownBy_alloc Y1 (.cells #[] 40) none).cell b2 (by simp)
        go_wp2_with (at_builtin; refine append_sts rfl _ _ rfl Y1.heap.size _ rfl (World.ownsRow_made Y1 #[] 0 (Nat.le_refl _) (Nat.zero_le _) rfl) ⟨tb, tof, none⟩ k tc D rfl HD.out.2.2.2 (HNW.out _ (HY1.out.trans (World.grownBy_alloc Y1 _ none))) (by omega) (World.grownBy.size (World.grownBy_alloc Y1 (.cells #[] 40) none)) ?_)
        intro v1 Y2 ho1 hg1
        replace ho1 : Y2.ownsRow Y1.heap.size 40 1 v1 k (rowOf D) := by simpa [rowOf] using ho1
        obtain ⟨gr4, cap4, rfl, hgr, hgrl, hcap⟩ := own_some ho1 (by omega)
        have hg2 : Y1.grownBy Y2 none := grown_own (World.grownBy_alloc Y1 _ none) hg1 (fun k hk => by simp [Value.ownBlock] at hk; omega)
        have hC2 := HD4.out.1.off hg2 (fun x e => by cases e)
        have hcf := hC2.2 2
        obtain ⟨x0, x1, x2, x3⟩ := hC2.1
        clear a0 a1 a2 a3 b0 b1 b2 b3 b2' hg1
        obtain ⟨⟨a0, a1, a2, a3⟩, b0, b1, b2, b3⟩ := HBX.out Y2 (HY1.out.trans hg2)
        go_upto_region 26 with fail
        have hp4 := HD4.out.1.lt
        have gs := grown_set Y2 p4 2 (.slice (some ⟨gr4, 0, none⟩) k cap4)
        have hC3 := hC2.set2' (.slice (some ⟨gr4, 0, none⟩) k cap4)
        have ho3 := ho1.kept gs (own_ne ho1 hp4)
        have hg3 := grown_own (HY1.out.trans hg2) gs (fun k hk => by cases hk; exact HD4.out.2.1)
        have hz3 : Y1.heap.size ≤ (Y2.setCell ⟨p4, 2, none⟩ (.slice (some ⟨gr4, 0, none⟩) k cap4)).heap.size := Nat.le_trans hg2.size gs.size
        have hgl3 : gr4 < (Y2.setCell ⟨p4, 2, none⟩ (.slice (some ⟨gr4, 0, none⟩) k cap4)).heap.size := Nat.lt_of_lt_of_le hgrl gs.size
        have hT3 : Ints (Y2.setCell ⟨p4, 2, none⟩ (.slice (some ⟨gr4, 0, none⟩) k cap4)) va vc T := ((HT.out.2.2.grown (HY01.out.trans hg2)).off gs (fun y e => by cases e; exact .inr (Nat.le_of_eq HD4.out.2.2))).here
        obtain ⟨Y3, hY3⟩ : ∃ X, Y2.setCell ⟨p4, 2, none⟩ (.slice (some ⟨gr4, 0, none⟩) k cap4) = X := ⟨_, rfl⟩
        rw [hY3] at hC3 ho3 hg3 hz3 hgl3 hT3 ⊢
        clear hY3 gs hC2 x0 x1 x2 x3 hcf a0 a1 a2 a3 b0 b1 b2 b3 ho1 hg2 hgrl
        have HY3 := Lib.hid (And.intro hg3 (And.intro hC3 (And.intro ho3 (And.intro hT3 (And.intro hgl3 (And.intro hgr hz3))))))
        clear hg3 hC3 ho3 hT3 hgl3 hz3 hgr hp4 HY01 HY0
        obtain ⟨r, hr⟩ : ∃ r, l[i]? = some r := ⟨_, List.getElem?_eq_getElem (by rw [HL.out.2.1]; exact hif)⟩
        obtain ⟨rb, ro, rfl, hr0, ra, rc, hr1, hri⟩ := HL.out.2.2.2.2 i r hr
        obtain ⟨D2, hE1, hE2, hE3⟩ := rels_rows HL.out.2.2.2
        have hEl : D2.length = f := by rw [← HL.out.2.1, ← hE1, List.length_map]
        obtain ⟨r1, hr1e⟩ : ∃ z, r.1 = z := ⟨_, rfl⟩
        obtain ⟨rn, hrn⟩ : ∃ z, r.2.length = z := ⟨_, rfl⟩
        rw [hr1e] at hr0
        rw [hrn] at hr1
        have HR := Lib.hid (And.intro hr (And.intro hr0 (And.intro hr1 (And.intro hri (And.intro hr1e hrn)))))
        have HE := Lib.hid (And.intro hE1 (And.intro hE2 (And.intro hE3 hEl)))
        have HNE2 : Hid (∀ U, W.grownBy U none → ∀ j u, (relOf D2)[j]? = some u → U.cell? ((⟨rb, ro, none⟩ : Addr).add j) = some u) := Lib.hid (fun U g j u hu => by
          rw [add_offZ]
          exact (HG.out.trans g).cell (HE.out.2.2.1 j u hu) (by simp))
        clear hr hr0 hr1 hri hr1e hrn hE1 hE2 hE3 hEl
        have hal := HY3.out.1.trans (World.grownBy_alloc Y3 (.cells #[] 53) none)
        have b2' := (HBX.out _ hal).2.2.2.1
        have hlc' := hal.cell (HG.out.cell HL.out.2.2.1 (by simp)) (by simp)
        have HF10 : Hid (f ≤ 10) := Lib.hid (by rw [← HN.out.2.2.1]; exact HF.out.1.2.1)
        have hf10 := HF10.out
        clear hal
        go_wp2_with (at_builtin; refine append_rels rfl _ _ rfl Y3.heap.size _ rfl (World.ownsRow_made Y3 #[] 0 (Nat.le_refl _) (Nat.zero_le _) rfl) ⟨rb, ro, none⟩ f lc D2 rfl HE.out.2.2.2 (HNE2.out _ (HY3.out.1.trans (World.grownBy_alloc Y3 _ none))) (by omega) (World.grownBy.size (World.grownBy_alloc Y3 (.cells #[] 53) none)) ?_)
        intro v5 Y4 ho5 hg5
        replace ho5 : Y4.ownsRow Y3.heap.size 53 2 v5 f (relOf D2) := by simpa using ho5
        obtain ⟨gr5, cap5, rfl, hgr5, hgl5, _⟩ := own_some ho5 (by omega)
        have hy4 : Y3.grownBy Y4 none := grown_own (World.grownBy_alloc Y3 _ none) hg5 (fun k hk => by simp [Value.ownBlock] at hk; omega)
        have HO5 := Lib.hid (And.intro ho5 (And.intro hy4 (And.intro hgr5 hgl5)))
        clear b2' hlc' hg5 ho5 hy4 hgr5 hgl5
        obtain ⟨RK, hRK⟩ : ∃ z, rankI (sum zs) T = z := ⟨_, rfl⟩
        have HRK := Lib.hid hRK; clear hRK
        have HRA : Hid (∀ U : World, Y4.grownBy U none → Calls Try.prog 38 #[.agg #[.slice sa n sc, .int .i64 st], .slice va (j + 1) vc] U (fun e w' => e = .returned (.int .i64 RK) ∧ U.grownBy w' none)) := Lib.hid (fun U g => by
          have h := rank_calls zs sa sc st T va vc U (HNU.out U (HY3.out.1.trans (HO5.out.2.1.trans g))) HZ.out.2.2.1 HZ.out.2.2.2.1 (HY3.out.2.2.2.1.grown (HO5.out.2.1.trans g)) (by rw [HT.out.2.1]; omega)
          rw [HZ.out.2.2.2.2.2, HT.out.2.1, HRK.out] at h
          exact h)
        obtain ⟨UL, hUL⟩ : ∃ z, unionL r.2 [RK] = z := ⟨_, rfl⟩
        obtain ⟨un, hun⟩ : ∃ z, UL.length = z := ⟨_, rfl⟩
        have HUL := Lib.hid (And.intro hUL hun); clear hUL hun
        have HUN : Hid (∀ (U : World) (a : Option Addr) (c : Nat), W.grownBy U none → IntsW U a c [RK] → Calls Try.prog 37 #[.agg #[.int .i64 r1, .slice ra rn rc], .agg #[.int .i64 ((j : Int) + 1), .slice a 1 c]] U (fun e w' => ∃ a' c', e = .returned (.agg #[.int .i64 r1, .slice a' un c']) ∧ Span U.heap.size w'.heap.size w' (fun V => IntsW V a' c' UL) ∧ U.grownBy w' none)) := Lib.hid (fun U a c g ho => by
          have hrl := (HF.out.2.1 l (List.mem_of_getElem? HL.out.1)).2 r (List.mem_of_getElem? HR.out.1)
          have h := union_calls r.1 ((j : Int) + 1) r.2 [RK] ra a rc c U (HR.out.2.2.2.1.grown (HG.out.trans g)) ho (by omega) (by simp)
          rw [HUL.out.1, HUL.out.2, HR.out.2.2.2.2.1, HR.out.2.2.2.2.2] at h
          exact h)
        have hgW4 := HY3.out.1.trans HO5.out.2.1
        have HGW4 := Lib.hid hgW4; clear hgW4
        have e0 := (HBX.out W (grown_refl _ _)).2.1
        have e1 := (HBX.out W (grown_refl _ _)).2.2.1
        have e2 := (HBX.out W (grown_refl _ _)).2.2.2.1
        have e3 := HG.out.cell HL.out.2.2.1 (by simp)
        have e4 := HG.out.cell HR.out.2.1 (by simp)
        have e5 := HG.out.cell HR.out.2.2.1 (by simp)
        go_wp2_with fail
        have HS := Lib.hid (fun (Wh : World) (hWh : W.grownBy Wh none) => (⟨hWh, hWh.cell e0 (by simp), hWh.cell e1 (by simp), hWh.cell e2 (by simp), hWh.cell e3 (by simp), hWh.cell e4 (by simp), hWh.cell e5 (by simp)⟩ : (fun Wh : World => W.grownBy Wh none ∧ Wh.cell? ⟨w.heap.size + 1, 0, none⟩ = some (.slice sa n sc) ∧ Wh.cell? ⟨w.heap.size + 1, 1, none⟩ = some (.int .i64 st) ∧ Wh.cell? ⟨w.heap.size + 1, 2, none⟩ = some (.slice (some ⟨tb, tof, none⟩) k tc) ∧ Wh.cell? ⟨tb, tof + q, none⟩ = some (.slice (some ⟨rb, ro, none⟩) f lc) ∧ Wh.cell? ⟨rb, ro + i * 2, none⟩ = some (.int .i64 r1) ∧ Wh.cell? ⟨rb, ro + i * 2 + 1, none⟩ = some (.slice ra rn rc)) Wh))
        clear e0 e1 e2 e3 e4 e5
        have hdr : W.grownBy Y4.drew none := World.grownBy.trans HGW4.out (⟨rfl, rfl, rfl, Nat.le_refl _, fun _ _ _ => rfl⟩ : Y4.grownBy Y4.drew none)
        refine wp_region_held_drew (S := (fun Wh : World => W.grownBy Wh none ∧ Wh.cell? ⟨w.heap.size + 1, 0, none⟩ = some (.slice sa n sc) ∧ Wh.cell? ⟨w.heap.size + 1, 1, none⟩ = some (.int .i64 st) ∧ Wh.cell? ⟨w.heap.size + 1, 2, none⟩ = some (.slice (some ⟨tb, tof, none⟩) k tc) ∧ Wh.cell? ⟨tb, tof + q, none⟩ = some (.slice (some ⟨rb, ro, none⟩) f lc) ∧ Wh.cell? ⟨rb, ro + i * 2, none⟩ = some (.int .i64 r1) ∧ Wh.cell? ⟨rb, ro + i * 2 + 1, none⟩ = some (.slice ra rn rc))) (by kernel_rfl) (HS.out _ hdr) (fun hHeld => ?_)
        refine wpAnyH_take (i := 0) (oi := { dst := some 166, op := Op.move (Operand.tmp 21), type := 40, pos := "law.go:179", after := #[], guard := none }) (v := ?_) rfl (by kernel_rfl) (by kernel_rfl) (by kernel_rfl) (fun _ _ _ h => h) (Or.inl ⟨by rfl, ?_⟩) (by assumption) ?_
        rotate_left 1
        · (intro W hSW; (try dsimp only at hSW); first | (go_simp; done) | (go_simp; with_reducible rfl))
        try simp only [Act.put, List.setIfInBounds_toArray, List.set_cons_zero, List.set_cons_succ]
        refine wpAnyH_take (i := 1) (oi := { dst := some 167, op := Op.move (Operand.tmp 16), type := 3, pos := "law.go:179", after := #[], guard := none }) (v := ?_) rfl (by kernel_rfl) (by kernel_rfl) (by kernel_rfl) (fun _ _ _ h => h) (Or.inl ⟨by rfl, ?_⟩) (by assumption) ?_
        rotate_left 1
        · (intro W hSW; (try dsimp only at hSW); first | (go_simp; done) | (go_simp; with_reducible rfl))
        try simp only [Act.put, List.setIfInBounds_toArray, List.set_cons_zero, List.set_cons_succ]
        refine wpAnyH_take (i := 2) (oi := { dst := some 168, op := Op.fieldAddr 33 (Operand.tmp 6) 1, type := 0, pos := "law.go:179", after := #[], guard := none }) (v := ?_) rfl (by kernel_rfl) (by kernel_rfl) (by kernel_rfl) (fun _ _ _ h => h) (Or.inl ⟨by rfl, ?_⟩) (by assumption) ?_
        rotate_left 1
        · (intro W hSW; (try dsimp only at hSW); first | (go_simp; done) | (go_simp; with_reducible rfl))
        try simp only [Act.put, List.setIfInBounds_toArray, List.set_cons_zero, List.set_cons_succ]
        refine wpAnyH_take (i := 3) (oi := { dst := some 169, op := Op.load 31 (Operand.tmp 168), type := 31, pos := "law.go:179", after := #[{ on := 2, ground := Ground.data }], guard := none }) (v := ?_) rfl (by kernel_rfl) (by kernel_rfl) (by kernel_rfl) (fun _ _ _ h => h) (Or.inl ⟨by rfl, ?_⟩) (by assumption) ?_
        rotate_left 1
        · (intro W hSW; (try dsimp only at hSW); first | (go_simp; done) | (go_simp; with_reducible rfl))
        try simp only [Act.put, List.setIfInBounds_toArray, List.set_cons_zero, List.set_cons_succ]
        refine wpAnyH_take (i := 4) (oi := { dst := some 170, op := Op.move (Operand.tmp 15), type := 3, pos := "law.go:179", after := #[], guard := none }) (v := ?_) rfl (by kernel_rfl) (by kernel_rfl) (by kernel_rfl) (fun _ _ _ h => h) (Or.inl ⟨by rfl, ?_⟩) (by assumption) ?_
        rotate_left 1
        · (intro W hSW; (try dsimp only at hSW); first | (go_simp; done) | (go_simp; with_reducible rfl))
        try simp only [Act.put, List.setIfInBounds_toArray, List.set_cons_zero, List.set_cons_succ]
        refine wpAnyH_take (i := 5) (oi := { dst := some 171, op := Op.indexAddr 31 (Operand.tmp 169) (Operand.tmp 170), type := 0, pos := "law.go:179", after := #[{ on := 3, ground := Ground.data }, { on := 4, ground := Ground.data }], guard := none }) (v := ?_) rfl (by kernel_rfl) (by kernel_rfl) (by kernel_rfl) (fun _ _ _ h => h) (Or.inl ⟨by rfl, ?_⟩) (by assumption) ?_
        rotate_left 1
        · (intro W hSW; (try dsimp only at hSW); first | (go_simp; done) | (go_simp; with_reducible rfl))
        try simp only [Act.put, List.setIfInBounds_toArray, List.set_cons_zero, List.set_cons_succ]
        refine wpAnyH_take (i := 6) (oi := { dst := some 172, op := Op.load 40 (Operand.tmp 171), type := 40, pos := "law.go:179", after := #[{ on := 5, ground := Ground.data }], guard := none }) (v := ?_) rfl (by kernel_rfl) (by kernel_rfl) (by kernel_rfl) (fun _ _ _ h => h) (Or.inl ⟨by rfl, ?_⟩) (by assumption) ?_
        rotate_left 1
        · (intro W hSW; (try dsimp only at hSW); first | (go_simp; done) | (go_simp; with_reducible rfl))
        try simp only [Act.put, List.setIfInBounds_toArray, List.set_cons_zero, List.set_cons_succ]
        refine wpAnyH_take (i := 7) (oi := { dst := some 173, op := Op.move (Operand.tmp 16), type := 3, pos := "law.go:179", after := #[], guard := none }) (v := ?_) rfl (by kernel_rfl) (by kernel_rfl) (by kernel_rfl) (fun _ _ _ h => h) (Or.inl ⟨by rfl, ?_⟩) (by assumption) ?_
        rotate_left 1
        · (intro W hSW; (try dsimp only at hSW); first | (go_simp; done) | (go_simp; with_reducible rfl))
        try simp only [Act.put, List.setIfInBounds_toArray, List.set_cons_zero, List.set_cons_succ]
        refine wpAnyH_take (i := 8) (oi := { dst := some 174, op := Op.indexAddr 40 (Operand.tmp 172) (Operand.tmp 173), type := 0, pos := "law.go:179", after := #[{ on := 6, ground := Ground.data }, { on := 7, ground := Ground.data }], guard := none }) (v := ?_) rfl (by kernel_rfl) (by kernel_rfl) (by kernel_rfl) (fun _ _ _ h => h) (Or.inl ⟨by rfl, ?_⟩) (by assumption) ?_
        rotate_left 1
        · (intro W hSW; (try dsimp only at hSW); first | (go_simp; done) | (go_simp; with_reducible rfl))
        try simp only [Act.put, List.setIfInBounds_toArray, List.set_cons_zero, List.set_cons_succ]
        refine wpAnyH_take (i := 9) (oi := { dst := some 175, op := Op.load 53 (Operand.tmp 174), type := 53, pos := "law.go:179", after := #[{ on := 8, ground := Ground.data }], guard := none }) (v := ?_) rfl (by kernel_rfl) (by kernel_rfl) (by kernel_rfl) (fun _ _ _ h => h) (Or.inl ⟨by rfl, ?_⟩) (by assumption) ?_
        rotate_left 1
        · (intro W hSW; (try dsimp only at hSW); first | (go_simp; done) | (go_simp; with_reducible rfl))
        try simp only [Act.put, List.setIfInBounds_toArray, List.set_cons_zero, List.set_cons_succ]
        refine wpAnyH_take (i := 10) (oi := { dst := some 176, op := Op.move (Operand.tmp 19), type := 28, pos := "law.go:179", after := #[], guard := none }) (v := ?_) rfl (by kernel_rfl) (by kernel_rfl) (by kernel_rfl) (fun _ _ _ h => h) (Or.inl ⟨by rfl, ?_⟩) (by assumption) ?_
        rotate_left 1
        · (intro W hSW; (try dsimp only at hSW); first | (go_simp; done) | (go_simp; with_reducible rfl))
        try simp only [Act.put, List.setIfInBounds_toArray, List.set_cons_zero, List.set_cons_succ]
        refine wpAnyH_take (i := 11) (oi := { dst := some 177, op := Op.call { callee := Callee.builtin Builtin.len, args := #[Operand.tmp 176], argTypes := #[28] }, type := 3, pos := "law.go:179", after := #[{ on := 10, ground := Ground.data }], guard := none }) (v := ?_) rfl (by kernel_rfl) (by kernel_rfl) (by kernel_rfl) (fun _ _ _ h => h) (Or.inl ⟨by rfl, ?_⟩) (by assumption) ?_
        rotate_left 1
        · (intro W hSW; (try dsimp only at hSW); first | (go_simp; done) | (go_simp; with_reducible rfl))
        try simp only [Act.put, List.setIfInBounds_toArray, List.set_cons_zero, List.set_cons_succ]
        refine wpAnyH_take (i := 12) (oi := { dst := some 178, op := Op.fieldAddr 33 (Operand.tmp 6) 0, type := 0, pos := "law.go:179", after := #[], guard := none }) (v := ?_) rfl (by kernel_rfl) (by kernel_rfl) (by kernel_rfl) (fun _ _ _ h => h) (Or.inl ⟨by rfl, ?_⟩) (by assumption) ?_
        rotate_left 1
        · (intro W hSW; (try dsimp only at hSW); first | (go_simp; done) | (go_simp; with_reducible rfl))
        try simp only [Act.put, List.setIfInBounds_toArray, List.set_cons_zero, List.set_cons_succ]
        refine wpAnyH_take (i := 13) (oi := { dst := some 179, op := Op.load 30 (Operand.tmp 178), type := 30, pos := "law.go:179", after := #[{ on := 12, ground := Ground.data }], guard := none }) (v := ?_) rfl (by kernel_rfl) (by kernel_rfl) (by kernel_rfl) (fun _ _ _ h => h) (Or.inl ⟨by rfl, ?_⟩) (by assumption) ?_
        rotate_left 1
        · (intro W hSW; (try dsimp only at hSW); first | (go_simp; done) | (go_simp; with_reducible rfl))
        try simp only [Act.put, List.setIfInBounds_toArray, List.set_cons_zero, List.set_cons_succ]
        refine wpAnyH_take (i := 14) (oi := { dst := some 180, op := Op.move (Operand.tmp 19), type := 28, pos := "law.go:179", after := #[], guard := none }) (v := ?_) rfl (by kernel_rfl) (by kernel_rfl) (by kernel_rfl) (fun _ _ _ h => h) (Or.inl ⟨by rfl, ?_⟩) (by assumption) ?_
        rotate_left 1
        · (intro W hSW; (try dsimp only at hSW); first | (go_simp; done) | (go_simp; with_reducible rfl))
        try simp only [Act.put, List.setIfInBounds_toArray, List.set_cons_zero, List.set_cons_succ]
        refine wpAnyH_ready (rs := [15]) (by kernel_rfl) (by simp) ?_
        refine (AllReadyH.cons (o := { dst := some 181, op := Op.call { callee := Callee.value (Operand.func 38), args := #[Operand.tmp 179, Operand.tmp 180], argTypes := #[30, 28] }, type := 3, pos := "law.go:179", after := #[{ on := 13, ground := Ground.data }, { on := 14, ground := Ground.data }], guard := none }) rfl (fun K hK => ?_) AllReadyH.nil)
        rw [if_pos (by rfl)]
        go_simp
        go_at_call 38
        refine (HRA.out _ (⟨rfl, rfl, rfl, Nat.le_refl _, fun _ _ _ => rfl⟩ : Y4.grownBy Y4.drew none)).mono ?_
        rintro e wc1 ⟨rfl, gc1⟩
        have hgr1 := World.grownBy.trans hdr gc1
        go_wp2_with fail
        refine hK.out _ _ (HS.out _ hgr1) (fun hHeld => ?_)
        clear hK K
        try simp only [Act.put, List.setIfInBounds_toArray, List.set_cons_zero, List.set_cons_succ]
        refine wpAnyH_ready (rs := [16]) (by kernel_rfl) (by simp) ?_
        refine (AllReadyH.cons (o := { dst := some 182, op := Op.buildSlice 28 1 #[(0, Operand.tmp 181)], type := 28, pos := "law.go:179", after := #[{ on := 15, ground := Ground.data }], guard := none }) rfl (fun K hK => ?_) AllReadyH.nil)
        rw [if_pos (by rfl)]
        go_simp
        have hal := World.grownBy_alloc wc1 (.cells #[.int .i64 RK] 3) none
        have hi1 := intsW_oneZ wc1 RK
        have hgA := World.grownBy.trans hgr1 hal
        obtain ⟨WA, hWA⟩ : ∃ z, World.alloc wc1 (.cells #[.int .i64 RK] 3) = z := ⟨_, rfl⟩
        rw [hWA] at hal hi1 hgA ⊢
        clear hWA
        refine hK.out _ _ (HS.out _ hgA) (fun hHeld => ?_)
        clear hK K
        try simp only [Act.put, List.setIfInBounds_toArray, List.set_cons_zero, List.set_cons_succ]
        refine wpAnyH_take (i := 17) (oi := { dst := some 183, op := Op.build 53 #[(0, Operand.tmp 177), (1, Operand.tmp 182)], type := 53, pos := "law.go:179", after := #[{ on := 11, ground := Ground.data }, { on := 16, ground := Ground.data }], guard := none }) (v := ?_) rfl (by kernel_rfl) (by kernel_rfl) (by kernel_rfl) (fun _ _ _ h => h) (Or.inl ⟨by rfl, ?_⟩) (by assumption) ?_
        rotate_left 1
        · (intro W hSW; (try dsimp only at hSW); first | (go_simp; done) | (go_simp; with_reducible rfl))
        try simp only [Act.put, List.setIfInBounds_toArray, List.set_cons_zero, List.set_cons_succ]
        refine wpAnyH_ready (rs := [18]) (by kernel_rfl) (by simp) ?_
        refine (AllReadyH.cons (o := { dst := some 184, op := Op.call { callee := Callee.value (Operand.func 37), args := #[Operand.tmp 175, Operand.tmp 183], argTypes := #[53, 53] }, type := 53, pos := "law.go:179", after := #[{ on := 9, ground := Ground.data }, { on := 17, ground := Ground.data }, { on := 15, ground := Ground.chain }], guard := none }) rfl (fun K hK => ?_) AllReadyH.nil)
        rw [if_pos (by rfl)]
        go_simp
        go_at_call 37
        refine (HUN.out _ _ _ (hgA) hi1).mono ?_
        rintro e wc3 ⟨ua, uc, rfl, hsU, gc3⟩
        have hgr3 := World.grownBy.trans hgA gc3
        go_wp2_with fail
        refine hK.out _ _ (HS.out _ hgr3) (fun hHeld => ?_)
        clear hK K
        try simp only [Act.put, List.setIfInBounds_toArray, List.set_cons_zero, List.set_cons_succ]
        refine wpAnyH_take (i := 19) (oi := { dst := some 185, op := Op.indexAddr 40 (Operand.tmp 166) (Operand.tmp 167), type := 0, pos := "law.go:179", after := #[{ on := 0, ground := Ground.data }, { on := 1, ground := Ground.data }, { on := 0, ground := Ground.phase }, { on := 1, ground := Ground.phase }, { on := 2, ground := Ground.phase }, { on := 3, ground := Ground.phase }, { on := 4, ground := Ground.phase }, { on := 5, ground := Ground.phase }, { on := 6, ground := Ground.phase }, { on := 7, ground := Ground.phase }, { on := 8, ground := Ground.phase }, { on := 9, ground := Ground.phase }, { on := 10, ground := Ground.phase }, { on := 11, ground := Ground.phase }, { on := 12, ground := Ground.phase }, { on := 13, ground := Ground.phase }, { on := 14, ground := Ground.phase }, { on := 15, ground := Ground.phase }, { on := 16, ground := Ground.phase }, { on := 17, ground := Ground.phase }, { on := 18, ground := Ground.phase }], guard := none }) (v := ?_) rfl (by kernel_rfl) (by kernel_rfl) (by kernel_rfl) (fun _ _ _ h => h) (Or.inl ⟨by rfl, ?_⟩) (by assumption) ?_
        rotate_left 1
        · (intro W hSW; (try dsimp only at hSW); first | (go_simp; done) | (go_simp; with_reducible rfl))
        try simp only [Act.put, List.setIfInBounds_toArray, List.set_cons_zero, List.set_cons_succ]
        refine wpAnyH_ready (rs := [20]) (by kernel_rfl) (by simp) ?_
        refine (AllReadyH.cons (o := { dst := none, op := Op.store 53 (Operand.tmp 185) (Operand.tmp 184), type := 0, pos := "law.go:179", after := #[{ on := 19, ground := Ground.data }, { on := 18, ground := Ground.data }, { on := 18, ground := Ground.chain }, { on := 0, ground := Ground.phase }, { on := 1, ground := Ground.phase }, { on := 2, ground := Ground.phase }, { on := 3, ground := Ground.phase }, { on := 4, ground := Ground.phase }, { on := 5, ground := Ground.phase }, { on := 6, ground := Ground.phase }, { on := 7, ground := Ground.phase }, { on := 8, ground := Ground.phase }, { on := 9, ground := Ground.phase }, { on := 10, ground := Ground.phase }, { on := 11, ground := Ground.phase }, { on := 12, ground := Ground.phase }, { on := 13, ground := Ground.phase }, { on := 14, ground := Ground.phase }, { on := 15, ground := Ground.phase }, { on := 16, ground := Ground.phase }, { on := 17, ground := Ground.phase }, { on := 18, ground := Ground.phase }], guard := none }) rfl (fun K hK => ?_) AllReadyH.nil)
        rw [if_pos (by rfl)]
        have hYZ := ((((⟨rfl, rfl, rfl, Nat.le_refl _, fun _ _ _ => rfl⟩ : Y4.grownBy Y4.drew none).trans gc1).trans hal).trans gc3)
        have ho6 := own_keptZ HO5.out.1 hYZ
        obtain ⟨dd, hdd⟩ : ∃ d, D2[i]? = some d := ⟨_, List.getElem?_eq_getElem (by rw [HE.out.2.2.2]; exact hif)⟩
        have q1 := World.ownsRow.cells ho6 (g := gr5) rfl (i * 2 + 0) (.int .i64 dd.1.1) (by rw [relOf, flat_at (k := 2) (cs := relCells) (fun _ => rfl) D2 i dd hdd 0 (by omega)]; rfl)
        have q2 := World.ownsRow.cells ho6 (g := gr5) rfl (i * 2 + 1) (.slice dd.2.1 dd.1.2.length dd.2.2) (by rw [relOf, flat_at (k := 2) (cs := relCells) (fun _ => rfl) D2 i dd hdd 1 (by omega)]; rfl)
        rw [add_at] at q1 q2
        rw [Nat.add_zero] at q1
        have q3 := ho6.frozenAt (i * 2)
        have q4 := ho6.frozenAt (i * 2 + 1)
        go_simp
        clear q1 q2 q3 q4 hdd
        have hst := rels_set ho6 HE.out.2.2.2 hif (d' := ((r1, UL), ua, uc))
        simp only [HUL.out.2] at hst
        have hgs := grown_own hgr3 hst.2 (fun k hk => by cases hk; exact Nat.le_trans HY3.out.1.size HO5.out.2.2.1)
        refine hK.out _ _ (HS.out _ hgs) (fun hHeld => ?_)
        clear hK K
        try simp only [Act.put, List.setIfInBounds_toArray, List.set_cons_zero, List.set_cons_succ]
        refine wpAnyH_done (by kernel_rfl) ?_ _
        have hEND := hgs
        clear hHeld
        have hsz1 : Y4.heap.size ≤ WA.heap.size := World.grownBy.size (((⟨rfl, rfl, rfl, Nat.le_refl _, fun _ _ _ => rfl⟩ : Y4.grownBy Y4.drew none).trans gc1).trans hal)
        have hg5a := HO5.out.2.2.2
        have hg5b := HO5.out.2.2.1
        have hg4a := HY3.out.2.2.2.2.1
        have hg4b := HY3.out.2.2.2.2.2.1
        have hy34 := HO5.out.2.1.size
        have hp4a := HD4.out.1.lt
        have hwy := HY1.out.size
        have hUs := hsU.off hst.2 (fun y e => by cases e; exact .inl (by omega))
        have hY3Z := grown_own (HO5.out.2.1.trans hYZ) hst.2 (fun k hk => by cases hk; exact hg5b)
        have hor := own_keptZ HY3.out.2.2.1 hY3Z
        have h4z := HY3.out.2.1.off hY3Z (fun x e => by cases e)
        obtain ⟨Z1, hZ1⟩ : ∃ Z, ((World.setCell wc3 ⟨gr5, i * 2, none⟩ (.int .i64 r1)).setCell ⟨gr5, i * 2 + 1, none⟩ (.slice ua un uc)) = Z := ⟨_, rfl⟩
        rw [hZ1] at hst hgs hUs hor h4z hEND ⊢
        clear hZ1 hY3Z hYZ ho6 hsU HS hi1 hal hgA
        obtain ⟨d, hdq⟩ : ∃ d, D[q]? = some d := ⟨_, List.getElem?_eq_getElem (by rw [HD.out.2.2.2]; exact hqk)⟩
        have hcq := World.ownsRow.cells hor (g := gr4) rfl q _ (show (rowOf D)[q]? = some (.slice d.2.1 d.1.length d.2.2) by rw [rowOf, List.getElem?_map, hdq]; rfl)
        rw [add_at] at hcq
        have hfq := hor.frozenAt q
        obtain ⟨z0, z1, z2, z3⟩ := h4z.1
        have HZ1 := Lib.hid (And.intro hst.1 (And.intro hgs (And.intro hUs (And.intro hor h4z))))
        clear hdq hst hgs hUs hor h4z hEND
        go_upto_region 29 with fail
        clear hcq hfq z0 z1 z2 z3
        have gs := grown_set Z1 gr4 q (.slice (some ⟨gr5, 0, none⟩) f cap5)
        have hgZ2 := grown_own HZ1.out.2.1 gs (fun k hk => by cases hk; omega)
        have ho7 := HZ1.out.1.kept gs (own_ne HZ1.out.1 hg4a)
        have hui := (HZ1.out.2.2.1.off gs (fun y e => by cases e; exact .inl (by omega))).here
        obtain ⟨a7, c7, hv7, hR7⟩ := rels_of_row ho7 (by rw [List.length_set]; exact HE.out.2.2.2) (fun d hd => by
          rcases List.mem_or_eq_of_mem_set hd with hd | rfl
          · exact (HE.out.2.1 d hd).grown (HG.out.trans hgZ2)
          · exact hui)
        injection hv7 with hv1 _ hv2
        subst hv1 hv2
        rw [List.map_set, HE.out.1] at hR7
        have hlen7 : (l.set i (r1, UL)).length = f := by rw [List.length_set]; exact HL.out.2.1
        have hss := sts_set (q := q) HZ1.out.2.2.2.1 HD.out.2.2.2 (d' := (l.set i (r1, UL), some ⟨gr5, 0, none⟩, cap5)) (fun d hd => by
          show Rels (Z1.setCell ⟨gr4, q, none⟩ (.slice (some ⟨gr5, 0, none⟩) (l.set i (r1, UL)).length cap5)) d.2.1 d.2.2 d.1
          rw [hlen7]
          rcases List.mem_or_eq_of_mem_set hd with hd | rfl
          · exact (HD.out.2.1 d hd).grown (HG.out.trans hgZ2)
          · exact hR7)
        simp only [hlen7] at hss
        rw [HD.out.1] at hss
        have h4f := HZ1.out.2.2.2.2.off gs (fun x e => by cases e; omega)
        obtain ⟨Z2, hZ2⟩ : ∃ Z, Z1.setCell ⟨gr4, q, none⟩ (.slice (some ⟨gr5, 0, none⟩) f cap5) = Z := ⟨_, rfl⟩
        rw [hZ2] at hgZ2 hss h4f ⊢
        clear hZ2 gs ho7 hui hR7 hlen7
        have hbad : validM ns us st F (L.set q (l.set i (r1, UL))) lp = false := by
          have h := validM_sort (lp' := lp) HV.out HFD.out.1 HL.out.1 HR.out.1 (x := x) (by rw [HZ.out.1, HZ.out.2.1]; exact hxN) HFC.out.2.1 (by rw [HZ.out.1, HSV.out]; exact HNE.out)
          rw [HZ.out.1, HFC.out.1, Nat.add_sub_cancel, HT.out.1, HRK.out, HUL.out.1, HR.out.2.2.2.2.1] at h
          exact h
        have hfew : FewM (L.set q (l.set i (r1, UL))) := by
          have h := few_rel (x := r1) (z := RK) HFW.out (List.mem_of_getElem? HL.out.1) (i := i) (valid_short HV.out HFD.out.1 HL.out.1 HR.out.1)
          rw [HUL.out.1] at h
          exact few_set HFW.out h
        have HFIN := Lib.hid (HVG.out Z2 _ _ k (L.set q (l.set i (r1, UL))) lp false hgZ2 hss.1 (by rw [List.length_set]; exact HN.out.2.1) hk64 hfew hbad)
        have HGZ := Lib.hid hgZ2
        obtain ⟨z0, z1, z2, z3⟩ := h4f.1
        obtain ⟨⟨a0, a1, a2, a3⟩, b0, b1, b2, b3⟩ := HBX.out Z2 hgZ2
        clear hss h4f hbad hfew hgZ2 hsz1 hg5a hg5b hg4a hg4b hy34 hp4a hwy
        go_wp2_with fail
        refine HFIN.out.mono ?_
        rintro e Z3 ⟨rfl, gZ⟩
        have HG9z := Lib.hid (HGZ.out.trans gZ); clear gZ
        go_wp2_with fail
        go_ret
        exact ⟨rfl, HG.out.trans HG9z.out⟩
end Go.Proofs.Ytbddpjofhddilaa
