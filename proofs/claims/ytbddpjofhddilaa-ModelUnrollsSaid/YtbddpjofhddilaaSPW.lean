/- The law of unrolling. -/
import Derived.Test.YtbddpjofhddilaaSWX
import Derived.Deep.RegionHeld3
namespace Go.Proofs.Ytbddpjofhddilaa
open Go.RowKit

theorem held_next16 {wr W W' : World} {a0 a1 a2 a3 a4 a5 a6 a7 a8 a9 a10 a11 a12 a13 a14 a15 : Addr} {v0 v1 v2 v3 v4 v5 v6 v7 v8 v9 v10 v11 v12 v13 v14 v15 : Value} (g : W.grownBy W' none) (h : wr.grownBy W none) (h0 : W.cell? a0 = some v0) (h1 : W.cell? a1 = some v1) (h2 : W.cell? a2 = some v2) (h3 : W.cell? a3 = some v3) (h4 : W.cell? a4 = some v4) (h5 : W.cell? a5 = some v5) (h6 : W.cell? a6 = some v6) (h7 : W.cell? a7 = some v7) (h8 : W.cell? a8 = some v8) (h9 : W.cell? a9 = some v9) (h10 : W.cell? a10 = some v10) (h11 : W.cell? a11 = some v11) (h12 : W.cell? a12 = some v12) (h13 : W.cell? a13 = some v13) (h14 : W.cell? a14 = some v14) (h15 : W.cell? a15 = some v15) :
    wr.grownBy W' none ∧ W'.cell? a0 = some v0 ∧ W'.cell? a1 = some v1 ∧ W'.cell? a2 = some v2 ∧ W'.cell? a3 = some v3 ∧ W'.cell? a4 = some v4 ∧ W'.cell? a5 = some v5 ∧ W'.cell? a6 = some v6 ∧ W'.cell? a7 = some v7 ∧ W'.cell? a8 = some v8 ∧ W'.cell? a9 = some v9 ∧ W'.cell? a10 = some v10 ∧ W'.cell? a11 = some v11 ∧ W'.cell? a12 = some v12 ∧ W'.cell? a13 = some v13 ∧ W'.cell? a14 = some v14 ∧ W'.cell? a15 = some v15 :=
  ⟨h.trans g, g.cell h0 (by simp), g.cell h1 (by simp), g.cell h2 (by simp), g.cell h3 (by simp), g.cell h4 (by simp), g.cell h5 (by simp), g.cell h6 (by simp), g.cell h7 (by simp), g.cell h8 (by simp), g.cell h9 (by simp), g.cell h10 (by simp), g.cell h11 (by simp), g.cell h12 (by simp), g.cell h13 (by simp), g.cell h14 (by simp), g.cell h15 (by simp)⟩
/-- A model's zero value. -/
theorem held4_new (w : World) : Held4 (w.alloc (.cells #[.slice none 0 0, .int .i64 0, .slice none 0 0, .int .i64 0] 33)) w.heap.size (.slice none 0 0) (.int .i64 0) (.slice none 0 0) (.int .i64 0) :=
  ⟨⟨by go_simp, by go_simp, by go_simp, by go_simp⟩, fun o => by go_simp⟩
theorem own_off {v : Value} {g : Nat} (h : ∀ k, v.ownBlock = some k → k ≠ g) : v.ownBlock = none ∨ v.ownBlock ≠ some g := by
  cases hv : v.ownBlock with
  | none => exact .inl rfl
  | some k => exact .inr (fun e => by injection e with e; exact h k hv e)

set_option maxRecDepth 100000 in
set_option maxHeartbeats 20000000 in
theorem unrolls_calls (hh : HeadSays) (us : List Int) (sa : Option Addr) (sc : Nat) (st : Int) (ta : Option Addr) (L : List (List Rl)) (tc : Nat) (lp : Int) (w : World) (hu : Ints w sa sc us) (hT : Sts w ta tc L) :
    Calls Try.prog 6 #[.agg #[.slice sa us.length sc, .int .i64 st, .slice ta L.length tc, .int .i64 lp]] w fun e w' => e = .returned (.bool true) ∧ w.grownBy w' none := by
  obtain ⟨n, hn⟩ : ∃ n, us.length = n := ⟨_, rfl⟩
  obtain ⟨k, hk⟩ : ∃ k, L.length = k := ⟨_, rfl⟩
  have HSM := Lib.hid (fun (W' : World) (hW' : w.grownBy W' none) => small_calls none none none none 0 0 0 0 0 0 0 [] sa us.length sc st ta L tc lp W' ⟨Nat.le_refl _, fun j f hj => by simp at hj⟩ (hT.grown hW'))
  simp only [List.length_nil] at HSM
  have HLO := Lib.hid (fun (W' : World) (sa : Option Addr) (n sc : Nat) (st : Int) (ta : Option Addr) (k tc : Nat) (lp : Int) => rLooped_calls sa n sc st ta k tc lp W')
  rw [hn, hk] at HSM
  rw [hn, hk]
  have HN := Lib.hid (And.intro hn (And.intro hk (And.intro hu hT))); clear hn hk hu hT
  have hg := World.grownBy_alloc w (.cells #[.slice sa n sc, .int .i64 st, .slice ta k tc, .int .i64 lp] 33) none
  have hc := four_cells w (.slice sa n sc) (.int .i64 st) (.slice ta k tc) (.int .i64 lp) 33
  obtain ⟨W, hW⟩ : ∃ W, w.alloc (.cells #[.slice sa n sc, .int .i64 st, .slice ta k tc, .int .i64 lp] 33) = W := ⟨_, rfl⟩
  rw [hW] at hg hc
  have HBX := Lib.hid (fun (W' : World) (g : W.grownBy W' none) => (⟨g.cell hc.1 (by simp), g.cell hc.2.1 (by simp), g.cell hc.2.2.1 (by simp), g.cell hc.2.2.2 (by simp)⟩ : Box W' w.heap.size sa n sc st ta k tc lp))
  clear hc
  have HG := Lib.hid hg; clear hg
  have HW := Lib.hid hW; clear hW
  go_enter Try.func6, Try.ntmps6
  go_wp2_with fail
  rw [HW.out]
  clear HW
  refine (hh W).mono ?_
  rintro e w0 ⟨rfl, g0⟩
  have HG0 := Lib.hid g0; clear g0
  obtain ⟨c0, c1, c2, c3⟩ := HBX.out w0 HG0.out
  go_wp2_with fail
  refine (HSM.out _ (HG.out.trans HG0.out)).mono ?_
  rintro e w1 ⟨rfl, g1⟩
  have HG1 := Lib.hid (HG0.out.trans g1); clear g1 c0 c1 c2 c3
  obtain ⟨c0, c1, c2, c3⟩ := HBX.out w1 HG1.out
  obtain ⟨B, hB⟩ : ∃ B, smallB 0 n [] L = B := ⟨_, rfl⟩
  rw [hB]
  cases B with
  | false =>
    clear hB
    go_wp2_with fail
    go_ret
    exact ⟨rfl, HG.out.trans HG1.out⟩
  | true =>
  have HF := Lib.hid (And.intro (smallB_iff.1 hB).1.2.2.2 (small_facts hB)); clear hB
  go_wp2_with fail
  refine (HLO.out _ _ _ _ _ _ _ _ _).mono ?_
  rintro e w2 ⟨rfl, g2⟩
  have HG2 := Lib.hid (HG1.out.trans g2); clear g2 c0 c1 c2 c3
  obtain ⟨c0, c1, c2, c3⟩ := HBX.out w2 HG2.out
  obtain ⟨B, hB⟩ : ∃ B, loopedB k lp = B := ⟨_, rfl⟩
  rw [hB]
  cases B with
  | false =>
    clear hB
    go_wp2_with fail
    go_ret
    exact ⟨rfl, HG.out.trans HG2.out⟩
  | true =>
  obtain ⟨hk1, hk64, hlp0, hlpk⟩ := loopedB_iff.1 hB
  have HB := Lib.hid hB; clear hB
  obtain ⟨p, rfl⟩ : ∃ p : Nat, lp = (p : Int) := ⟨lp.toNat, (Int.toNat_of_nonneg hlp0).symm⟩
  have hlpk' : p < k := by omega
  have HP : Hid (p < L.length) := Lib.hid (by rw [HN.out.2.1]; omega)
  have HU := Lib.hid (show us.length ≤ 100000 by have := HN.out.1; have := HF.out.1; omega)
  by_cases hk30 : 30 < k
  · have f0 : decide (30 < (k : Int)) = true := decide_eq_true (by omega)
    have f1 : decide (30 < k) = true := decide_eq_true hk30
    go_wp2_with fail
    go_ret
    exact ⟨rfl, HG.out.trans HG2.out⟩
  have f0 : decide (30 < (k : Int)) = false := decide_eq_false (by omega)
  have f1 : decide (30 < k) = false := decide_eq_false hk30
  obtain ⟨l0, hl0⟩ : ∃ l, L[0]? = some l := ⟨_, List.getElem?_eq_getElem (by have := HP.out; omega)⟩
  obtain ⟨tb, to, rfl, _⟩ := HN.out.2.2.2.2 0 l0 hl0
  clear hl0
  obtain ⟨D, hD1, hD2, hD3⟩ := sts_rows (HN.out.2.2.2.grown (HG.out.trans HG2.out))
  have HD := Lib.hid (And.intro hD1 hD2)
  have htc : L.length ≤ tc := HN.out.2.2.2.1
  have HRP := Lib.hid (fun (W' : World) (g : w2.grownBy W' none) => by
    have h := repeated_calls n sa sc st tb to L D tc p W' hD1 (fun j u hu => g.cell (hD3 j u hu) (by simp)) htc HP.out (by rw [HN.out.2.1]; omega)
    rw [HN.out.2.1] at h
    exact h)
  have HSF := Lib.hid (fun (W' : World) (g : w2.grownBy W' none) => by
    have h := shifted_calls n sa sc st tb to L D tc p W' hD1 (fun j u hu => g.cell (hD3 j u hu) (by simp)) htc HP.out (by rw [HN.out.2.1]; omega)
    rw [HN.out.2.1] at h
    exact h)
  clear hD1 hD2 hD3 htc
  obtain ⟨m, hm⟩ : ∃ m, (L ++ L.drop p).length = m := ⟨_, rfl⟩
  rw [hm] at HRP
  have HM := Lib.hid hm; clear hm
  obtain ⟨N, hNN⟩ : ∃ N, (shSts L p).length = N := ⟨_, rfl⟩
  obtain ⟨l, hll⟩ : ∃ l, shLoop L p = l := ⟨_, rfl⟩
  obtain ⟨M, hMM⟩ : ∃ M, shSts L p = M := ⟨_, rfl⟩
  rw [hMM] at hNN
  have hN64 : N ≤ 64 := by rw [← hNN, ← hMM, sh_len]; have h1 := sh_loop_le HP.out; have h2 := sh_per_le HP.out; have h3 := HN.out.2.1; omega
  have HMN := Lib.hid (And.intro hMM (And.intro hll (And.intro hNN (show ∀ r ∈ M, r.length ≤ 10 ∧ ∀ x ∈ r, x.2.length ≤ 200 by rw [← hMM]; exact sh_sts_small HP.out HF.out.2.2))))
  clear hNN hll hMM
  have hn10 : n ≤ 100000 := by have := HF.out.1; omega
  have HM60 : Hid (m = k + (k - p)) := Lib.hid (by rw [← HM.out, List.length_append, List.length_drop, HN.out.2.1])
  have hm1 : p < m := by have := HM60.out; omega
  have hm2 : m ≤ 60 := by have := HM60.out; omega
  go_wp2_with fail
  have HS := Lib.hid (fun (X : World) (hX : w2.grownBy X none) => (⟨hX, hX.cell c0 (by simp), hX.cell c1 (by simp), hX.cell c2 (by simp), hX.cell c3 (by simp)⟩ : (fun X : World => w2.grownBy X none ∧ X.cell? ⟨w.heap.size, 0, none⟩ = some (.slice sa n sc) ∧ X.cell? ⟨w.heap.size, 1, none⟩ = some (.int .i64 st) ∧ X.cell? ⟨w.heap.size, 2, none⟩ = some (.slice (some ⟨tb, to, none⟩) k tc) ∧ X.cell? ⟨w.heap.size, 3, none⟩ = some (.int .i64 p)) X))
  have HGq00 : Hid (w2.grownBy w2.drew none) := Lib.hid ⟨rfl, rfl, rfl, Nat.le_refl _, fun _ _ _ => rfl⟩
  refine wp_region_held_drew (S := (fun X : World => w2.grownBy X none ∧ X.cell? ⟨w.heap.size, 0, none⟩ = some (.slice sa n sc) ∧ X.cell? ⟨w.heap.size, 1, none⟩ = some (.int .i64 st) ∧ X.cell? ⟨w.heap.size, 2, none⟩ = some (.slice (some ⟨tb, to, none⟩) k tc) ∧ X.cell? ⟨w.heap.size, 3, none⟩ = some (.int .i64 p))) (by kernel_rfl) (HS.out _ HGq00.out) (fun hHeld => ?_)
  refine wpAnyH_take (i := 0) (oi := { dst := some 24, op := Op.load 33 (Operand.tmp 1), type := 33, pos := "law.go:107", after := #[], guard := none }) (v := ?_) rfl (by kernel_rfl) (by kernel_rfl) (by kernel_rfl) (fun _ _ _ h => h) (Or.inl ⟨by rfl, ?_⟩) (by assumption) ?_
  rotate_left 1
  · (intro W hSW; (try dsimp only at hSW); first | (go_simp; done) | (go_simp; with_reducible rfl))
  try simp only [Act.put, List.setIfInBounds_toArray, List.set_cons_zero, List.set_cons_succ]
  refine wpAnyH_take (i := 2) (oi := { dst := some 26, op := Op.load 33 (Operand.tmp 1), type := 33, pos := "law.go:107", after := #[], guard := none }) (v := ?_) rfl (by kernel_rfl) (by kernel_rfl) (by kernel_rfl) (fun _ _ _ h => h) (Or.inl ⟨by rfl, ?_⟩) (by assumption) ?_
  rotate_left 1
  · (intro W hSW; (try dsimp only at hSW); first | (go_simp; done) | (go_simp; with_reducible rfl))
  try simp only [Act.put, List.setIfInBounds_toArray, List.set_cons_zero, List.set_cons_succ]
  refine wpAnyH_ready (rs := [1, 4, 5]) (by kernel_rfl) (by simp) ?_
  refine (AllReadyH.cons (o := { dst := some 25, op := Op.call { callee := Callee.value (Operand.func 32), args := #[Operand.tmp 24], argTypes := #[33] }, type := 33, pos := "law.go:107", after := #[{ on := 0, ground := Ground.data }], guard := none }) rfl (fun K hK => ?_) (AllReadyH.cons (o := { dst := some 4, op := Op.alloc 33, type := 0, pos := "law.go:107", after := #[], guard := none }) rfl (fun K hK => ?_) (AllReadyH.cons (o := { dst := some 5, op := Op.alloc 33, type := 0, pos := "law.go:107", after := #[], guard := none }) rfl (fun K hK => ?_) AllReadyH.nil)))
  · go_simp
    go_at_call 32
    refine (HRP.out _ HGq00.out).mono ?_
    rintro e y1 ⟨va, vc, rfl, hr, g⟩
    have HGq1 := Lib.hid (HGq00.out.trans g)
    have HKA : Hid (∀ x, (Value.slice va _ vc).ownBlock = some x → w2.heap.size + 1 + 1 + 1 ≤ x ∧ x < y1.heap.size) := Lib.hid (by have h := hr.lt; (try simp only [World.size_alloc] at h); exact h)
    have HRA1 := Lib.hid hr; clear hr
    have HZ1 : Hid (w2.heap.size ≤ y1.heap.size) := Lib.hid (by have h := g.size; (try simp only [World.size_alloc] at h); exact h)
    clear g
    go_wp2_with fail
    refine hK.out _ _ (HS.out _ HGq1.out) (fun hHeld => ?_)
    clear hK K
    try simp only [Act.put, List.setIfInBounds_toArray, List.set_cons_zero, List.set_cons_succ]
    refine wpAnyH_ready (rs := [3, 4, 5]) (by kernel_rfl) (by simp) ?_
    refine (AllReadyH.cons (o := { dst := some 27, op := Op.call { callee := Callee.value (Operand.func 33), args := #[Operand.tmp 26], argTypes := #[33] }, type := 33, pos := "law.go:107", after := #[{ on := 2, ground := Ground.data }, { on := 1, ground := Ground.chain }], guard := none }) rfl (fun K hK => ?_) (AllReadyH.cons (o := { dst := some 4, op := Op.alloc 33, type := 0, pos := "law.go:107", after := #[], guard := none }) rfl (fun K hK => ?_) (AllReadyH.cons (o := { dst := some 5, op := Op.alloc 33, type := 0, pos := "law.go:107", after := #[], guard := none }) rfl (fun K hK => ?_) AllReadyH.nil)))
    · go_simp
      go_at_call 33
      refine (HSF.out _ HGq1.out).mono ?_
      rintro e y2 ⟨vb, vd, rfl, hr, g⟩
      have HGq2 := Lib.hid (HGq1.out.trans g)
      have HRA2 := Lib.hid (own_grown HRA1.out g)
      have HKB : Hid (∀ x, (Value.slice vb _ vd).ownBlock = some x → y1.heap.size + 1 + 1 + 1 ≤ x ∧ x < y2.heap.size) := Lib.hid (by have h := hr.lt; (try simp only [World.size_alloc] at h); exact h)
      have HRB2 := Lib.hid hr; clear hr
      have HZ2 : Hid (y1.heap.size ≤ y2.heap.size) := Lib.hid (by have h := g.size; (try simp only [World.size_alloc] at h); exact h)
      clear g
      go_wp2_with fail
      refine hK.out _ _ (HS.out _ HGq2.out) (fun hHeld => ?_)
      clear hK K
      try simp only [Act.put, List.setIfInBounds_toArray, List.set_cons_zero, List.set_cons_succ]
      refine wpAnyH_ready (rs := [4, 5]) (by kernel_rfl) (by simp) ?_
      refine (AllReadyH.cons (o := { dst := some 4, op := Op.alloc 33, type := 0, pos := "law.go:107", after := #[], guard := none }) rfl (fun K hK => ?_) (AllReadyH.cons (o := { dst := some 5, op := Op.alloc 33, type := 0, pos := "law.go:107", after := #[], guard := none }) rfl (fun K hK => ?_) AllReadyH.nil))
      · go_simp
        have HGq3 := Lib.hid (HGq2.out.trans (World.grownBy_alloc y2 (.cells #[.slice none 0 0, .int .i64 0, .slice none 0 0, .int .i64 0] 33) none))
        have HRA3 := Lib.hid (HRA2.out.alloc (.cells #[.slice none 0 0, .int .i64 0, .slice none 0 0, .int .i64 0] 33))
        have HRB3 := Lib.hid (HRB2.out.alloc (.cells #[.slice none 0 0, .int .i64 0, .slice none 0 0, .int .i64 0] 33))
        have HA3 : Hid (Held4 (y2.alloc (.cells #[.slice none 0 0, .int .i64 0, .slice none 0 0, .int .i64 0] 33)) (y2.heap.size) (.slice none 0 0) (.int .i64 0) (.slice none 0 0) (.int .i64 0)) := Lib.hid (by have h := held4_new y2; (try rw [World.size_alloc] at h); exact h)
        refine hK.out _ _ (HS.out _ HGq3.out) (fun hHeld => ?_)
        clear hK K
        try simp only [Act.put, List.setIfInBounds_toArray, List.set_cons_zero, List.set_cons_succ]
        refine wpAnyH_ready (rs := [5]) (by kernel_rfl) (by simp) ?_
        refine (AllReadyH.cons (o := { dst := some 5, op := Op.alloc 33, type := 0, pos := "law.go:107", after := #[], guard := none }) rfl (fun K hK => ?_) AllReadyH.nil)
        · go_simp
          have HGq4 := Lib.hid (HGq3.out.trans (World.grownBy_alloc (y2.alloc (.cells #[.slice none 0 0, .int .i64 0, .slice none 0 0, .int .i64 0] 33)) (.cells #[.slice none 0 0, .int .i64 0, .slice none 0 0, .int .i64 0] 33) none))
          have HA4 := Lib.hid (Held4.off HA3.out (World.grownBy_alloc (y2.alloc (.cells #[.slice none 0 0, .int .i64 0, .slice none 0 0, .int .i64 0] 33)) (.cells #[.slice none 0 0, .int .i64 0, .slice none 0 0, .int .i64 0] 33) none) (fun x e => by cases e))
          have HRA4 := Lib.hid (HRA3.out.alloc (.cells #[.slice none 0 0, .int .i64 0, .slice none 0 0, .int .i64 0] 33))
          have HRB4 := Lib.hid (HRB3.out.alloc (.cells #[.slice none 0 0, .int .i64 0, .slice none 0 0, .int .i64 0] 33))
          have HB4 : Hid (Held4 ((y2.alloc (.cells #[.slice none 0 0, .int .i64 0, .slice none 0 0, .int .i64 0] 33)).alloc (.cells #[.slice none 0 0, .int .i64 0, .slice none 0 0, .int .i64 0] 33)) (y2.heap.size + 1) (.slice none 0 0) (.int .i64 0) (.slice none 0 0) (.int .i64 0)) := Lib.hid (by have h := held4_new (y2.alloc (.cells #[.slice none 0 0, .int .i64 0, .slice none 0 0, .int .i64 0] 33)); (try rw [World.size_alloc] at h); exact h)
          refine hK.out _ _ (HS.out _ HGq4.out) (fun hHeld => ?_)
          clear hK K
          try simp only [Act.put, List.setIfInBounds_toArray, List.set_cons_zero, List.set_cons_succ]
          have FIN : ∃ (Y : World) (ga gb : Nat), Y = ((y2.alloc (.cells #[.slice none 0 0, .int .i64 0, .slice none 0 0, .int .i64 0] 33)).alloc (.cells #[.slice none 0 0, .int .i64 0, .slice none 0 0, .int .i64 0] 33)) ∧ ga = y2.heap.size ∧ gb = y2.heap.size + 1 ∧ Hid (w2.grownBy Y none ∧ Held4 Y ga (.slice none 0 0) (.int .i64 0) (.slice none 0 0) (.int .i64 0) ∧ Held4 Y gb (.slice none 0 0) (.int .i64 0) (.slice none 0 0) (.int .i64 0) ∧ (∃ b, Y.ownsRow b 40 1 (.slice va m vc) m (rowOf (D ++ D.drop p))) ∧ (∃ b, Y.ownsRow b 40 1 (.slice vb (k + 1) vd) (k + 1) (rowOf (D ++ [D.getD p ([], none, 0)]))) ∧ ga ≠ gb ∧ w2.heap.size ≤ ga ∧ w2.heap.size ≤ gb ∧ (∀ x, (Value.slice va m vc).ownBlock = some x → x ≠ ga ∧ x ≠ gb) ∧ (∀ x, (Value.slice vb (k + 1) vd).ownBlock = some x → x ≠ ga ∧ x ≠ gb)) := ⟨_, _, _, rfl, rfl, rfl, Lib.hid ⟨HGq4.out, HA4.out, HB4.out, ⟨_, HRA4.out⟩, ⟨_, HRB4.out⟩, (by have := HZ1.out; have := HZ2.out; omega), (by have := HZ1.out; have := HZ2.out; omega), (by have := HZ1.out; have := HZ2.out; omega), (fun x hx => by have := HZ1.out; have := HZ2.out; have := HKA.out x hx; omega), (fun x hx => by have := HZ1.out; have := HZ2.out; have := HKB.out x hx; omega)⟩⟩
          obtain ⟨Y, ga, gb, hY, hga, hgb, HF⟩ := FIN
          rw [← hgb]
          rw [← hga]
          rw [← hY]
          clear hY hga hgb
          clear hHeld
          obtain ⟨hY, kA, kB, ⟨bA, rA⟩, ⟨bB, rB⟩, hab, hga2, hgb2, nA, nB⟩ := HF.out
          obtain ⟨⟨a0, a1, a2, a3⟩, af⟩ := kA
          have af0 := af 0
          have af1 := af 1
          have af2 := af 2
          have af3 := af 3
          clear af
          have hHeld := HS.out _ hY
          refine wpAnyH_ready (rs := [6]) (by kernel_rfl) (by simp) ?_
          refine AllReadyH.cons (o := { dst := none, op := Op.store 33 (Operand.tmp 4) (Operand.tmp 25), type := 0, pos := "law.go:107", after := #[{ on := 4, ground := Ground.data }, { on := 1, ground := Ground.data }, { on := 3, ground := Ground.chain }, { on := 0, ground := Ground.phase }, { on := 1, ground := Ground.phase }, { on := 2, ground := Ground.textOnly Departure.lateStores }, { on := 3, ground := Ground.textOnly Departure.lateStoresUnsure }, { on := 4, ground := Ground.phase }, { on := 5, ground := Ground.phase }], guard := none }) rfl (fun K hK => ?_) AllReadyH.nil
          go_simp
          obtain ⟨p0, p1, p2, p3, pg⟩ := four_sets (.slice sa n sc) (.int .i64 m) (.slice va m vc) (.int .i64 p) a0 a1 a2 a3
          have hX1 := grown_own hY pg (fun x hx => by cases hx; exact hga2)
          refine hK.out _ _ (HS.out _ hX1) (fun hHeld => ?_)
          clear hK K
          try simp only [Act.put, List.setIfInBounds_toArray, List.set_cons_zero, List.set_cons_succ]
          have kB1 := kB.off pg (fun x hx => by cases hx; exact hab)
          have rA1 := rA.kept pg (own_off (fun x hx => (nA x hx).1))
          have rB1 := rB.kept pg (own_off (fun x hx => (nB x hx).1))
          obtain ⟨X1, hXe⟩ : ∃ X1, ((((Y.setCell ⟨ga, 0, none⟩ (.slice sa n sc)).setCell ⟨ga, 1, none⟩ (.int .i64 m)).setCell ⟨ga, 2, none⟩ (.slice va m vc)).setCell ⟨ga, 3, none⟩ (.int .i64 p)) = X1 := ⟨_, rfl⟩
          rw [hXe] at p0 p1 p2 p3 hX1 kB1 rA1 rB1 hHeld ⊢
          clear hXe pg a0 a1 a2 a3 af0 af1 af2 af3 kB rA rB
          obtain ⟨⟨b0, b1, b2, b3⟩, bf⟩ := kB1
          have bf0 := bf 0
          have bf1 := bf 1
          have bf2 := bf 2
          have bf3 := bf 3
          clear bf
          refine wpAnyH_ready (rs := [7]) (by kernel_rfl) (by simp) ?_
          refine AllReadyH.cons (o := { dst := none, op := Op.store 33 (Operand.tmp 5) (Operand.tmp 27), type := 0, pos := "law.go:107", after := #[{ on := 5, ground := Ground.data }, { on := 3, ground := Ground.data }, { on := 6, ground := Ground.chain }, { on := 0, ground := Ground.phase }, { on := 1, ground := Ground.phase }, { on := 2, ground := Ground.phase }, { on := 3, ground := Ground.phase }, { on := 4, ground := Ground.phase }, { on := 5, ground := Ground.phase }, { on := 6, ground := Ground.phase }], guard := none }) rfl (fun K hK => ?_) AllReadyH.nil
          go_simp
          obtain ⟨q0, q1, q2, q3, qg⟩ := four_sets (.slice sa n sc) (.int .i64 ((k : Int) + 1)) (.slice vb (k + 1) vd) (.int .i64 ((p : Int) + 1)) b0 b1 b2 b3
          have hX2 := grown_own hX1 qg (fun x hx => by cases hx; exact hgb2)
          refine hK.out _ _ (HS.out _ hX2) (fun hHeld => ?_)
          clear hK K
          try simp only [Act.put, List.setIfInBounds_toArray, List.set_cons_zero, List.set_cons_succ]
          have ne : (some ga : Option Nat) ≠ some gb := fun e => by injection e with e; exact hab e
          have HA := Lib.hid (And.intro (qg.cell p0 ne) (And.intro (qg.cell p1 ne) (And.intro (qg.cell p2 ne) (qg.cell p3 ne))))
          have rA2 := rA1.kept qg (own_off (fun x hx => (nA x hx).2))
          have rB2 := rB1.kept qg (own_off (fun x hx => (nB x hx).2))
          have HBq := Lib.hid (And.intro q0 (And.intro q1 (And.intro q2 q3)))
          have HR := Lib.hid (And.intro rA2 rB2)
          have HXX := Lib.hid hX2
          obtain ⟨X2, hXe⟩ : ∃ X2, ((((X1.setCell ⟨gb, 0, none⟩ (.slice sa n sc)).setCell ⟨gb, 1, none⟩ (.int .i64 ((k : Int) + 1))).setCell ⟨gb, 2, none⟩ (.slice vb (k + 1) vd)).setCell ⟨gb, 3, none⟩ (.int .i64 ((p : Int) + 1))) = X2 := ⟨_, rfl⟩
          rw [hXe] at HA HBq HR HXX hHeld ⊢
          clear hXe qg b0 b1 b2 b3 bf0 bf1 bf2 bf3 rA1 rB1 rA2 rB2 p0 p1 p2 p3 q0 q1 q2 q3 hX1 hX2 nA nB hY ne
          refine wpAnyH_done (by kernel_rfl) ?_ _
          clear hHeld HF
          have hX := HXX.out
          obtain ⟨-, c0, c1, c2, c3⟩ := HS.out X2 hX
          have hrel : ∀ d ∈ D, Rels X2 d.2.1 d.2.2 d.1 := fun d hd => (HD.out.2 d hd).grown hX
          have hDl : D.length = k := by rw [← HN.out.2.1, ← HD.out.1, List.length_map]
          obtain ⟨dp, hdp⟩ : ∃ d, D[p]? = some d := ⟨_, List.getElem?_eq_getElem (by omega)⟩
          have hgd : D.getD p ([], none, 0) = dp := by rw [List.getD_eq_getElem?_getD, hdp]; rfl
          have hld : L.getD p [] = dp.1 := by rw [← HD.out.1, List.getD_eq_getElem?_getD, List.getElem?_map, hdp]; rfl
          obtain ⟨za, zc, hv, hsA⟩ := sts_of_row HR.out.1 (by rw [List.length_append, List.length_drop, hDl]; exact HM60.out.symm) (fun d hd => by
            rw [List.mem_append] at hd
            rcases hd with hd | hd
            · exact hrel d hd
            · exact hrel d (List.mem_of_mem_drop hd))
          injection hv with e1 _ e3
          subst e1 e3
          rw [List.map_append, List.map_drop, HD.out.1] at hsA
          obtain ⟨zb, zd, hv, hsB⟩ := sts_of_row HR.out.2 (by rw [List.length_append, hDl]; rfl) (fun d hd => by
            rw [List.mem_append, List.mem_singleton] at hd
            rcases hd with hd | rfl
            · exact hrel d hd
            · rw [hgd]; exact hrel dp (List.mem_of_getElem? hdp))
          injection hv with e1 _ e3
          subst e1 e3
          rw [List.map_append, HD.out.1, hgd, show List.map (fun x : Ds => x.1) [dp] = [L.getD p []] from by rw [hld]; rfl] at hsB
          have hsmA : ∀ r ∈ L ++ L.drop p, r.length ≤ 10 ∧ ∀ x ∈ r, x.2.length ≤ 200 := fun r hr => by
            rw [List.mem_append] at hr
            rcases hr with hr | hr
            · exact HF.out.2.2 r hr
            · exact HF.out.2.2 r (List.mem_of_mem_drop hr)
          have hsmB : ∀ r ∈ L ++ [L.getD p []], r.length ≤ 10 ∧ ∀ x ∈ r, x.2.length ≤ 200 := fun r hr => by
            rw [List.mem_append, List.mem_singleton] at hr
            rcases hr with hr | rfl
            · exact HF.out.2.2 r hr
            · exact HF.out.2.2 _ (by rw [hld]; have h := List.mem_map_of_mem (f := fun x : Ds => x.1) (List.mem_of_getElem? hdp); rw [HD.out.1] at h; exact h)
          have HAB := Lib.hid (And.intro hsA (And.intro hsB (And.intro hsmA hsmB))); clear hsA hsB hsmA hsmB hrel hdp hgd hld
          have HUV := Lib.hid (fun (W' : World) (g : X2.grownBy W' none) => And.intro (HN.out.2.2.1.grown (HG.out.trans (HG2.out.trans (hX.trans g)))).weak (HN.out.2.2.2.grown (HG.out.trans (HG2.out.trans (hX.trans g)))))
          have hpL := HP.out
          have hkL := HN.out.2.1
          have hlb : (L ++ [L.getD p []]).length = k + 1 := by rw [List.length_append, hkL]; rfl
          have HC1 := Lib.hid (fun (W' : World) (g : X2.grownBy W' none) => short_same (st := st) (HUV.out W' g).1 (HUV.out W' g).2 HN.out.1 hkL hn10 hk64 (by omega) hpL HF.out.2.2 (fun _ => rfl) rfl HMN.out.1 HMN.out.2.1 HMN.out.2.2.1)
          have HC2 := Lib.hid (fun (W' : World) (g : X2.grownBy W' none) => same_true (st := st) (st' := m) (HUV.out W' g).1 (HUV.out W' g).1 (HUV.out W' g).2 (HAB.out.1.grown g) HN.out.1 hkL HM.out hn10 hk64 (by omega) (by omega) (by omega) HF.out.2.2 (fun t => (trL_repeat hpL t).symm) rfl rfl)
          have HC3 := Lib.hid (fun (W' : World) (g : X2.grownBy W' none) => same_true (lp' := (p : Int) + 1) (st := st) (st' := (k : Int) + 1) (HUV.out W' g).1 (HUV.out W' g).1 (HUV.out W' g).2 (HAB.out.2.1.grown g) HN.out.1 hkL hlb hn10 hk64 (by omega) (by omega) (by omega) HF.out.2.2 (fun t => (trL_shift hpL t).symm) rfl (by omega))
          have HC4 := Lib.hid (fun (W' : World) (g : X2.grownBy W' none) => same_true (lp' := (p : Int) + 1) (st := m) (st' := (k : Int) + 1) (HUV.out W' g).1 (HUV.out W' g).1 (HAB.out.1.grown g) (HAB.out.2.1.grown g) HN.out.1 HM.out hlb hn10 (by omega) (by omega) (by omega) (by omega) HAB.out.2.2.1 (fun t => (trL_repeat hpL t).trans (trL_shift hpL t).symm) rfl (by omega))
          have HC5 := Lib.hid (fun (W' : World) (g : X2.grownBy W' none) => short_same (st := m) (HUV.out W' g).1 (HAB.out.1.grown g) HN.out.1 HM.out hn10 (by omega) (by omega) hpL HAB.out.2.2.1 (trL_repeat hpL) rfl HMN.out.1 HMN.out.2.1 HMN.out.2.2.1)
          have HC6 := Lib.hid (fun (W' : World) (g : X2.grownBy W' none) => short_same (lp := (p : Int) + 1) (st := (k : Int) + 1) (HUV.out W' g).1 (HAB.out.2.1.grown g) HN.out.1 hlb hn10 (by omega) (by omega) hpL HAB.out.2.2.2 (trL_shift hpL) (by omega) HMN.out.1 HMN.out.2.1 HMN.out.2.2.1)
          have HC7 := Lib.hid (fun (x z x' z' : Option Addr) (c d c' d' : Nat) (W' : World) (hx : Ints W' x c us) (hz : Sts W' z d M) (hx' : Ints W' x' c' us) (hz' : Sts W' z' d' M) => req_true (st := (N : Int)) (lp := (l : Int)) hx.weak hx'.weak hz hz' HN.out.1 HMN.out.2.2.1 hn10 hN64 HMN.out.2.2.2)
          clear hpL hkL hlb
          go_wp2_with fail
          refine (HC1.out X2 (grown_refl _ _)).mono ?_
          rintro e X3 ⟨ma, mc, mb, md, rfl, hms, g3⟩
          have HX3 := Lib.hid g3; clear g3 c0 c1 c2 c3
          have hgs := World.grownBy_alloc X3 (.cells #[.slice ma n mc, .int .i64 N, .slice mb N md, .int .i64 l] 33) none
          have hcs := four_cells X3 (.slice ma n mc) (.int .i64 N) (.slice mb N md) (.int .i64 l) 33
          obtain ⟨V, hV⟩ : ∃ V, X3.alloc (.cells #[.slice ma n mc, .int .i64 N, .slice mb N md, .int .i64 l] 33) = V := ⟨_, rfl⟩
          rw [hV] at hgs hcs
          have hXV := HX3.out.trans hgs
          have HMV := Lib.hid (fun (W' : World) (g : V.grownBy W' none) => And.intro (hms.1.grown (hgs.trans g)) (hms.2.grown (hgs.trans g)))
          have HVV := Lib.hid hV; clear hV
          go_wp2_with fail
          rw [HVV.out]
          clear HVV
          obtain ⟨-, c0, c1, c2, c3⟩ := HS.out V (hX.trans hXV)
          have a0 := hXV.cell HA.out.1 (by simp)
          have a1 := hXV.cell HA.out.2.1 (by simp)
          have a2 := hXV.cell HA.out.2.2.1 (by simp)
          have a3 := hXV.cell HA.out.2.2.2 (by simp)
          have b0 := hXV.cell HBq.out.1 (by simp)
          have b1 := hXV.cell HBq.out.2.1 (by simp)
          have b2 := hXV.cell HBq.out.2.2.1 (by simp)
          have b3 := hXV.cell HBq.out.2.2.2 (by simp)
          obtain ⟨s0, s1, s2, s3⟩ := hcs
          have HXV := Lib.hid hXV; clear hXV hgs hms
          go_region_held3 (fun w' : World => V.grownBy w' none ∧ w'.cell? ⟨w.heap.size, 0, none⟩ = some (.slice sa n sc) ∧ w'.cell? ⟨w.heap.size, 1, none⟩ = some (.int .i64 st) ∧ w'.cell? ⟨w.heap.size, 2, none⟩ = some (.slice (some ⟨tb, to, none⟩) k tc) ∧ w'.cell? ⟨w.heap.size, 3, none⟩ = some (.int .i64 p) ∧ w'.cell? ⟨ga, 0, none⟩ = some (.slice sa n sc) ∧ w'.cell? ⟨ga, 1, none⟩ = some (.int .i64 m) ∧ w'.cell? ⟨ga, 2, none⟩ = some (.slice va m vc) ∧ w'.cell? ⟨ga, 3, none⟩ = some (.int .i64 p) ∧ w'.cell? ⟨gb, 0, none⟩ = some (.slice sa n sc) ∧ w'.cell? ⟨gb, 1, none⟩ = some (.int .i64 ((k : Int) + 1)) ∧ w'.cell? ⟨gb, 2, none⟩ = some (.slice vb (k + 1) vd) ∧ w'.cell? ⟨gb, 3, none⟩ = some (.int .i64 ((p : Int) + 1)) ∧ w'.cell? ⟨X3.heap.size, 0, none⟩ = some (.slice ma n mc) ∧ w'.cell? ⟨X3.heap.size, 1, none⟩ = some (.int .i64 N) ∧ w'.cell? ⟨X3.heap.size, 2, none⟩ = some (.slice mb N md) ∧ w'.cell? ⟨X3.heap.size, 3, none⟩ = some (.int .i64 l))
            (first | exact ⟨⟨rfl, rfl, rfl, Nat.le_refl _, fun _ _ _ => rfl⟩, c0, c1, c2, c3, a0, a1, a2, a3, b0, b1, b2, b3, s0, s1, s2, s3⟩ | (go_split_ands; exact held_next16 g3 (by assumption) (by assumption) (by assumption) (by assumption) (by assumption) (by assumption) (by assumption) (by assumption) (by assumption) (by assumption) (by assumption) (by assumption) (by assumption) (by assumption) (by assumption) (by assumption) (by assumption)) | assumption | fail)
            (first | (go_at_call 28; with_reducible refine (HC2.out _ (HXV.out.trans ?_)).mono ?_; (go_split_ands; assumption); rintro e u1 ⟨rfl, g3⟩) | (go_at_call 28; with_reducible refine (HC3.out _ (HXV.out.trans ?_)).mono ?_; (go_split_ands; assumption); rintro e u2 ⟨rfl, g3⟩) | (go_at_call 28; with_reducible refine (HC4.out _ (HXV.out.trans ?_)).mono ?_; (go_split_ands; assumption); rintro e u3 ⟨rfl, g3⟩) | (go_at_call 30; with_reducible refine (HC5.out _ (HXV.out.trans ?_)).mono ?_; (go_split_ands; assumption); rintro e u4 ⟨x1, y1, x2, y2, rfl, hin, g3⟩; have hmv := HMV.out u4 (by go_split_ands; exact World.grownBy.trans (by assumption) g3)) | (go_at_call 30; with_reducible refine (HC6.out _ (HXV.out.trans ?_)).mono ?_; (go_split_ands; assumption); rintro e u6 ⟨x3, y3, x4, y4, rfl, hin2, g3⟩; have hmv2 := HMV.out u6 (by go_split_ands; exact World.grownBy.trans (by assumption) g3)) | (go_at_call 21; with_reducible refine (HC7.out _ _ _ _ _ _ _ _ _ hin.1 hin.2 hmv.1 hmv.2).mono ?_; rintro e u5 ⟨rfl, g3⟩) | (go_at_call 21; with_reducible refine (HC7.out _ _ _ _ _ _ _ _ _ hin2.1 hin2.2 hmv2.1 hmv2.2).mono ?_; rintro e u7 ⟨rfl, g3⟩) | fail)
          all_goals
            have h7 : V.grownBy u7 none := by go_split_ands; assumption
            have HE := Lib.hid (HG.out.trans (HG2.out.trans (hX.trans (HXV.out.trans h7)))); clear h7
            go_wp2_with fail
            go_ret
            exact ⟨rfl, HE.out⟩
      · go_simp
        have HGq5 := Lib.hid (HGq2.out.trans (World.grownBy_alloc y2 (.cells #[.slice none 0 0, .int .i64 0, .slice none 0 0, .int .i64 0] 33) none))
        have HRA5 := Lib.hid (HRA2.out.alloc (.cells #[.slice none 0 0, .int .i64 0, .slice none 0 0, .int .i64 0] 33))
        have HRB5 := Lib.hid (HRB2.out.alloc (.cells #[.slice none 0 0, .int .i64 0, .slice none 0 0, .int .i64 0] 33))
        have HB5 : Hid (Held4 (y2.alloc (.cells #[.slice none 0 0, .int .i64 0, .slice none 0 0, .int .i64 0] 33)) (y2.heap.size) (.slice none 0 0) (.int .i64 0) (.slice none 0 0) (.int .i64 0)) := Lib.hid (by have h := held4_new y2; (try rw [World.size_alloc] at h); exact h)
        refine hK.out _ _ (HS.out _ HGq5.out) (fun hHeld => ?_)
        clear hK K
        try simp only [Act.put, List.setIfInBounds_toArray, List.set_cons_zero, List.set_cons_succ]
        refine wpAnyH_ready (rs := [4]) (by kernel_rfl) (by simp) ?_
        refine (AllReadyH.cons (o := { dst := some 4, op := Op.alloc 33, type := 0, pos := "law.go:107", after := #[], guard := none }) rfl (fun K hK => ?_) AllReadyH.nil)
        · go_simp
          have HGq6 := Lib.hid (HGq5.out.trans (World.grownBy_alloc (y2.alloc (.cells #[.slice none 0 0, .int .i64 0, .slice none 0 0, .int .i64 0] 33)) (.cells #[.slice none 0 0, .int .i64 0, .slice none 0 0, .int .i64 0] 33) none))
          have HB6 := Lib.hid (Held4.off HB5.out (World.grownBy_alloc (y2.alloc (.cells #[.slice none 0 0, .int .i64 0, .slice none 0 0, .int .i64 0] 33)) (.cells #[.slice none 0 0, .int .i64 0, .slice none 0 0, .int .i64 0] 33) none) (fun x e => by cases e))
          have HRA6 := Lib.hid (HRA5.out.alloc (.cells #[.slice none 0 0, .int .i64 0, .slice none 0 0, .int .i64 0] 33))
          have HRB6 := Lib.hid (HRB5.out.alloc (.cells #[.slice none 0 0, .int .i64 0, .slice none 0 0, .int .i64 0] 33))
          have HA6 : Hid (Held4 ((y2.alloc (.cells #[.slice none 0 0, .int .i64 0, .slice none 0 0, .int .i64 0] 33)).alloc (.cells #[.slice none 0 0, .int .i64 0, .slice none 0 0, .int .i64 0] 33)) (y2.heap.size + 1) (.slice none 0 0) (.int .i64 0) (.slice none 0 0) (.int .i64 0)) := Lib.hid (by have h := held4_new (y2.alloc (.cells #[.slice none 0 0, .int .i64 0, .slice none 0 0, .int .i64 0] 33)); (try rw [World.size_alloc] at h); exact h)
          refine hK.out _ _ (HS.out _ HGq6.out) (fun hHeld => ?_)
          clear hK K
          try simp only [Act.put, List.setIfInBounds_toArray, List.set_cons_zero, List.set_cons_succ]
          have FIN : ∃ (Y : World) (ga gb : Nat), Y = ((y2.alloc (.cells #[.slice none 0 0, .int .i64 0, .slice none 0 0, .int .i64 0] 33)).alloc (.cells #[.slice none 0 0, .int .i64 0, .slice none 0 0, .int .i64 0] 33)) ∧ ga = y2.heap.size + 1 ∧ gb = y2.heap.size ∧ Hid (w2.grownBy Y none ∧ Held4 Y ga (.slice none 0 0) (.int .i64 0) (.slice none 0 0) (.int .i64 0) ∧ Held4 Y gb (.slice none 0 0) (.int .i64 0) (.slice none 0 0) (.int .i64 0) ∧ (∃ b, Y.ownsRow b 40 1 (.slice va m vc) m (rowOf (D ++ D.drop p))) ∧ (∃ b, Y.ownsRow b 40 1 (.slice vb (k + 1) vd) (k + 1) (rowOf (D ++ [D.getD p ([], none, 0)]))) ∧ ga ≠ gb ∧ w2.heap.size ≤ ga ∧ w2.heap.size ≤ gb ∧ (∀ x, (Value.slice va m vc).ownBlock = some x → x ≠ ga ∧ x ≠ gb) ∧ (∀ x, (Value.slice vb (k + 1) vd).ownBlock = some x → x ≠ ga ∧ x ≠ gb)) := ⟨_, _, _, rfl, rfl, rfl, Lib.hid ⟨HGq6.out, HA6.out, HB6.out, ⟨_, HRA6.out⟩, ⟨_, HRB6.out⟩, (by have := HZ1.out; have := HZ2.out; omega), (by have := HZ1.out; have := HZ2.out; omega), (by have := HZ1.out; have := HZ2.out; omega), (fun x hx => by have := HZ1.out; have := HZ2.out; have := HKA.out x hx; omega), (fun x hx => by have := HZ1.out; have := HZ2.out; have := HKB.out x hx; omega)⟩⟩
          obtain ⟨Y, ga, gb, hY, hga, hgb, HF⟩ := FIN
          rw [← hga]
          rw [← hgb]
          rw [← hY]
          clear hY hga hgb
          clear hHeld
          obtain ⟨hY, kA, kB, ⟨bA, rA⟩, ⟨bB, rB⟩, hab, hga2, hgb2, nA, nB⟩ := HF.out
          obtain ⟨⟨a0, a1, a2, a3⟩, af⟩ := kA
          have af0 := af 0
          have af1 := af 1
          have af2 := af 2
          have af3 := af 3
          clear af
          have hHeld := HS.out _ hY
          refine wpAnyH_ready (rs := [6]) (by kernel_rfl) (by simp) ?_
          refine AllReadyH.cons (o := { dst := none, op := Op.store 33 (Operand.tmp 4) (Operand.tmp 25), type := 0, pos := "law.go:107", after := #[{ on := 4, ground := Ground.data }, { on := 1, ground := Ground.data }, { on := 3, ground := Ground.chain }, { on := 0, ground := Ground.phase }, { on := 1, ground := Ground.phase }, { on := 2, ground := Ground.textOnly Departure.lateStores }, { on := 3, ground := Ground.textOnly Departure.lateStoresUnsure }, { on := 4, ground := Ground.phase }, { on := 5, ground := Ground.phase }], guard := none }) rfl (fun K hK => ?_) AllReadyH.nil
          go_simp
          obtain ⟨p0, p1, p2, p3, pg⟩ := four_sets (.slice sa n sc) (.int .i64 m) (.slice va m vc) (.int .i64 p) a0 a1 a2 a3
          have hX1 := grown_own hY pg (fun x hx => by cases hx; exact hga2)
          refine hK.out _ _ (HS.out _ hX1) (fun hHeld => ?_)
          clear hK K
          try simp only [Act.put, List.setIfInBounds_toArray, List.set_cons_zero, List.set_cons_succ]
          have kB1 := kB.off pg (fun x hx => by cases hx; exact hab)
          have rA1 := rA.kept pg (own_off (fun x hx => (nA x hx).1))
          have rB1 := rB.kept pg (own_off (fun x hx => (nB x hx).1))
          obtain ⟨X1, hXe⟩ : ∃ X1, ((((Y.setCell ⟨ga, 0, none⟩ (.slice sa n sc)).setCell ⟨ga, 1, none⟩ (.int .i64 m)).setCell ⟨ga, 2, none⟩ (.slice va m vc)).setCell ⟨ga, 3, none⟩ (.int .i64 p)) = X1 := ⟨_, rfl⟩
          rw [hXe] at p0 p1 p2 p3 hX1 kB1 rA1 rB1 hHeld ⊢
          clear hXe pg a0 a1 a2 a3 af0 af1 af2 af3 kB rA rB
          obtain ⟨⟨b0, b1, b2, b3⟩, bf⟩ := kB1
          have bf0 := bf 0
          have bf1 := bf 1
          have bf2 := bf 2
          have bf3 := bf 3
          clear bf
          refine wpAnyH_ready (rs := [7]) (by kernel_rfl) (by simp) ?_
          refine AllReadyH.cons (o := { dst := none, op := Op.store 33 (Operand.tmp 5) (Operand.tmp 27), type := 0, pos := "law.go:107", after := #[{ on := 5, ground := Ground.data }, { on := 3, ground := Ground.data }, { on := 6, ground := Ground.chain }, { on := 0, ground := Ground.phase }, { on := 1, ground := Ground.phase }, { on := 2, ground := Ground.phase }, { on := 3, ground := Ground.phase }, { on := 4, ground := Ground.phase }, { on := 5, ground := Ground.phase }, { on := 6, ground := Ground.phase }], guard := none }) rfl (fun K hK => ?_) AllReadyH.nil
          go_simp
          obtain ⟨q0, q1, q2, q3, qg⟩ := four_sets (.slice sa n sc) (.int .i64 ((k : Int) + 1)) (.slice vb (k + 1) vd) (.int .i64 ((p : Int) + 1)) b0 b1 b2 b3
          have hX2 := grown_own hX1 qg (fun x hx => by cases hx; exact hgb2)
          refine hK.out _ _ (HS.out _ hX2) (fun hHeld => ?_)
          clear hK K
          try simp only [Act.put, List.setIfInBounds_toArray, List.set_cons_zero, List.set_cons_succ]
          have ne : (some ga : Option Nat) ≠ some gb := fun e => by injection e with e; exact hab e
          have HA := Lib.hid (And.intro (qg.cell p0 ne) (And.intro (qg.cell p1 ne) (And.intro (qg.cell p2 ne) (qg.cell p3 ne))))
          have rA2 := rA1.kept qg (own_off (fun x hx => (nA x hx).2))
          have rB2 := rB1.kept qg (own_off (fun x hx => (nB x hx).2))
          have HBq := Lib.hid (And.intro q0 (And.intro q1 (And.intro q2 q3)))
          have HR := Lib.hid (And.intro rA2 rB2)
          have HXX := Lib.hid hX2
          obtain ⟨X2, hXe⟩ : ∃ X2, ((((X1.setCell ⟨gb, 0, none⟩ (.slice sa n sc)).setCell ⟨gb, 1, none⟩ (.int .i64 ((k : Int) + 1))).setCell ⟨gb, 2, none⟩ (.slice vb (k + 1) vd)).setCell ⟨gb, 3, none⟩ (.int .i64 ((p : Int) + 1))) = X2 := ⟨_, rfl⟩
          rw [hXe] at HA HBq HR HXX hHeld ⊢
          clear hXe qg b0 b1 b2 b3 bf0 bf1 bf2 bf3 rA1 rB1 rA2 rB2 p0 p1 p2 p3 q0 q1 q2 q3 hX1 hX2 nA nB hY ne
          refine wpAnyH_done (by kernel_rfl) ?_ _
          clear hHeld HF
          have hX := HXX.out
          obtain ⟨-, c0, c1, c2, c3⟩ := HS.out X2 hX
          have hrel : ∀ d ∈ D, Rels X2 d.2.1 d.2.2 d.1 := fun d hd => (HD.out.2 d hd).grown hX
          have hDl : D.length = k := by rw [← HN.out.2.1, ← HD.out.1, List.length_map]
          obtain ⟨dp, hdp⟩ : ∃ d, D[p]? = some d := ⟨_, List.getElem?_eq_getElem (by omega)⟩
          have hgd : D.getD p ([], none, 0) = dp := by rw [List.getD_eq_getElem?_getD, hdp]; rfl
          have hld : L.getD p [] = dp.1 := by rw [← HD.out.1, List.getD_eq_getElem?_getD, List.getElem?_map, hdp]; rfl
          obtain ⟨za, zc, hv, hsA⟩ := sts_of_row HR.out.1 (by rw [List.length_append, List.length_drop, hDl]; exact HM60.out.symm) (fun d hd => by
            rw [List.mem_append] at hd
            rcases hd with hd | hd
            · exact hrel d hd
            · exact hrel d (List.mem_of_mem_drop hd))
          injection hv with e1 _ e3
          subst e1 e3
          rw [List.map_append, List.map_drop, HD.out.1] at hsA
          obtain ⟨zb, zd, hv, hsB⟩ := sts_of_row HR.out.2 (by rw [List.length_append, hDl]; rfl) (fun d hd => by
            rw [List.mem_append, List.mem_singleton] at hd
            rcases hd with hd | rfl
            · exact hrel d hd
            · rw [hgd]; exact hrel dp (List.mem_of_getElem? hdp))
          injection hv with e1 _ e3
          subst e1 e3
          rw [List.map_append, HD.out.1, hgd, show List.map (fun x : Ds => x.1) [dp] = [L.getD p []] from by rw [hld]; rfl] at hsB
          have hsmA : ∀ r ∈ L ++ L.drop p, r.length ≤ 10 ∧ ∀ x ∈ r, x.2.length ≤ 200 := fun r hr => by
            rw [List.mem_append] at hr
            rcases hr with hr | hr
            · exact HF.out.2.2 r hr
            · exact HF.out.2.2 r (List.mem_of_mem_drop hr)
          have hsmB : ∀ r ∈ L ++ [L.getD p []], r.length ≤ 10 ∧ ∀ x ∈ r, x.2.length ≤ 200 := fun r hr => by
            rw [List.mem_append, List.mem_singleton] at hr
            rcases hr with hr | rfl
            · exact HF.out.2.2 r hr
            · exact HF.out.2.2 _ (by rw [hld]; have h := List.mem_map_of_mem (f := fun x : Ds => x.1) (List.mem_of_getElem? hdp); rw [HD.out.1] at h; exact h)
          have HAB := Lib.hid (And.intro hsA (And.intro hsB (And.intro hsmA hsmB))); clear hsA hsB hsmA hsmB hrel hdp hgd hld
          have HUV := Lib.hid (fun (W' : World) (g : X2.grownBy W' none) => And.intro (HN.out.2.2.1.grown (HG.out.trans (HG2.out.trans (hX.trans g)))).weak (HN.out.2.2.2.grown (HG.out.trans (HG2.out.trans (hX.trans g)))))
          have hpL := HP.out
          have hkL := HN.out.2.1
          have hlb : (L ++ [L.getD p []]).length = k + 1 := by rw [List.length_append, hkL]; rfl
          have HC1 := Lib.hid (fun (W' : World) (g : X2.grownBy W' none) => short_same (st := st) (HUV.out W' g).1 (HUV.out W' g).2 HN.out.1 hkL hn10 hk64 (by omega) hpL HF.out.2.2 (fun _ => rfl) rfl HMN.out.1 HMN.out.2.1 HMN.out.2.2.1)
          have HC2 := Lib.hid (fun (W' : World) (g : X2.grownBy W' none) => same_true (st := st) (st' := m) (HUV.out W' g).1 (HUV.out W' g).1 (HUV.out W' g).2 (HAB.out.1.grown g) HN.out.1 hkL HM.out hn10 hk64 (by omega) (by omega) (by omega) HF.out.2.2 (fun t => (trL_repeat hpL t).symm) rfl rfl)
          have HC3 := Lib.hid (fun (W' : World) (g : X2.grownBy W' none) => same_true (lp' := (p : Int) + 1) (st := st) (st' := (k : Int) + 1) (HUV.out W' g).1 (HUV.out W' g).1 (HUV.out W' g).2 (HAB.out.2.1.grown g) HN.out.1 hkL hlb hn10 hk64 (by omega) (by omega) (by omega) HF.out.2.2 (fun t => (trL_shift hpL t).symm) rfl (by omega))
          have HC4 := Lib.hid (fun (W' : World) (g : X2.grownBy W' none) => same_true (lp' := (p : Int) + 1) (st := m) (st' := (k : Int) + 1) (HUV.out W' g).1 (HUV.out W' g).1 (HAB.out.1.grown g) (HAB.out.2.1.grown g) HN.out.1 HM.out hlb hn10 (by omega) (by omega) (by omega) (by omega) HAB.out.2.2.1 (fun t => (trL_repeat hpL t).trans (trL_shift hpL t).symm) rfl (by omega))
          have HC5 := Lib.hid (fun (W' : World) (g : X2.grownBy W' none) => short_same (st := m) (HUV.out W' g).1 (HAB.out.1.grown g) HN.out.1 HM.out hn10 (by omega) (by omega) hpL HAB.out.2.2.1 (trL_repeat hpL) rfl HMN.out.1 HMN.out.2.1 HMN.out.2.2.1)
          have HC6 := Lib.hid (fun (W' : World) (g : X2.grownBy W' none) => short_same (lp := (p : Int) + 1) (st := (k : Int) + 1) (HUV.out W' g).1 (HAB.out.2.1.grown g) HN.out.1 hlb hn10 (by omega) (by omega) hpL HAB.out.2.2.2 (trL_shift hpL) (by omega) HMN.out.1 HMN.out.2.1 HMN.out.2.2.1)
          have HC7 := Lib.hid (fun (x z x' z' : Option Addr) (c d c' d' : Nat) (W' : World) (hx : Ints W' x c us) (hz : Sts W' z d M) (hx' : Ints W' x' c' us) (hz' : Sts W' z' d' M) => req_true (st := (N : Int)) (lp := (l : Int)) hx.weak hx'.weak hz hz' HN.out.1 HMN.out.2.2.1 hn10 hN64 HMN.out.2.2.2)
          clear hpL hkL hlb
          go_wp2_with fail
          refine (HC1.out X2 (grown_refl _ _)).mono ?_
          rintro e X3 ⟨ma, mc, mb, md, rfl, hms, g3⟩
          have HX3 := Lib.hid g3; clear g3 c0 c1 c2 c3
          have hgs := World.grownBy_alloc X3 (.cells #[.slice ma n mc, .int .i64 N, .slice mb N md, .int .i64 l] 33) none
          have hcs := four_cells X3 (.slice ma n mc) (.int .i64 N) (.slice mb N md) (.int .i64 l) 33
          obtain ⟨V, hV⟩ : ∃ V, X3.alloc (.cells #[.slice ma n mc, .int .i64 N, .slice mb N md, .int .i64 l] 33) = V := ⟨_, rfl⟩
          rw [hV] at hgs hcs
          have hXV := HX3.out.trans hgs
          have HMV := Lib.hid (fun (W' : World) (g : V.grownBy W' none) => And.intro (hms.1.grown (hgs.trans g)) (hms.2.grown (hgs.trans g)))
          have HVV := Lib.hid hV; clear hV
          go_wp2_with fail
          rw [HVV.out]
          clear HVV
          obtain ⟨-, c0, c1, c2, c3⟩ := HS.out V (hX.trans hXV)
          have a0 := hXV.cell HA.out.1 (by simp)
          have a1 := hXV.cell HA.out.2.1 (by simp)
          have a2 := hXV.cell HA.out.2.2.1 (by simp)
          have a3 := hXV.cell HA.out.2.2.2 (by simp)
          have b0 := hXV.cell HBq.out.1 (by simp)
          have b1 := hXV.cell HBq.out.2.1 (by simp)
          have b2 := hXV.cell HBq.out.2.2.1 (by simp)
          have b3 := hXV.cell HBq.out.2.2.2 (by simp)
          obtain ⟨s0, s1, s2, s3⟩ := hcs
          have HXV := Lib.hid hXV; clear hXV hgs hms
          go_region_held3 (fun w' : World => V.grownBy w' none ∧ w'.cell? ⟨w.heap.size, 0, none⟩ = some (.slice sa n sc) ∧ w'.cell? ⟨w.heap.size, 1, none⟩ = some (.int .i64 st) ∧ w'.cell? ⟨w.heap.size, 2, none⟩ = some (.slice (some ⟨tb, to, none⟩) k tc) ∧ w'.cell? ⟨w.heap.size, 3, none⟩ = some (.int .i64 p) ∧ w'.cell? ⟨ga, 0, none⟩ = some (.slice sa n sc) ∧ w'.cell? ⟨ga, 1, none⟩ = some (.int .i64 m) ∧ w'.cell? ⟨ga, 2, none⟩ = some (.slice va m vc) ∧ w'.cell? ⟨ga, 3, none⟩ = some (.int .i64 p) ∧ w'.cell? ⟨gb, 0, none⟩ = some (.slice sa n sc) ∧ w'.cell? ⟨gb, 1, none⟩ = some (.int .i64 ((k : Int) + 1)) ∧ w'.cell? ⟨gb, 2, none⟩ = some (.slice vb (k + 1) vd) ∧ w'.cell? ⟨gb, 3, none⟩ = some (.int .i64 ((p : Int) + 1)) ∧ w'.cell? ⟨X3.heap.size, 0, none⟩ = some (.slice ma n mc) ∧ w'.cell? ⟨X3.heap.size, 1, none⟩ = some (.int .i64 N) ∧ w'.cell? ⟨X3.heap.size, 2, none⟩ = some (.slice mb N md) ∧ w'.cell? ⟨X3.heap.size, 3, none⟩ = some (.int .i64 l))
            (first | exact ⟨⟨rfl, rfl, rfl, Nat.le_refl _, fun _ _ _ => rfl⟩, c0, c1, c2, c3, a0, a1, a2, a3, b0, b1, b2, b3, s0, s1, s2, s3⟩ | (go_split_ands; exact held_next16 g3 (by assumption) (by assumption) (by assumption) (by assumption) (by assumption) (by assumption) (by assumption) (by assumption) (by assumption) (by assumption) (by assumption) (by assumption) (by assumption) (by assumption) (by assumption) (by assumption) (by assumption)) | assumption | fail)
            (first | (go_at_call 28; with_reducible refine (HC2.out _ (HXV.out.trans ?_)).mono ?_; (go_split_ands; assumption); rintro e u1 ⟨rfl, g3⟩) | (go_at_call 28; with_reducible refine (HC3.out _ (HXV.out.trans ?_)).mono ?_; (go_split_ands; assumption); rintro e u2 ⟨rfl, g3⟩) | (go_at_call 28; with_reducible refine (HC4.out _ (HXV.out.trans ?_)).mono ?_; (go_split_ands; assumption); rintro e u3 ⟨rfl, g3⟩) | (go_at_call 30; with_reducible refine (HC5.out _ (HXV.out.trans ?_)).mono ?_; (go_split_ands; assumption); rintro e u4 ⟨x1, y1, x2, y2, rfl, hin, g3⟩; have hmv := HMV.out u4 (by go_split_ands; exact World.grownBy.trans (by assumption) g3)) | (go_at_call 30; with_reducible refine (HC6.out _ (HXV.out.trans ?_)).mono ?_; (go_split_ands; assumption); rintro e u6 ⟨x3, y3, x4, y4, rfl, hin2, g3⟩; have hmv2 := HMV.out u6 (by go_split_ands; exact World.grownBy.trans (by assumption) g3)) | (go_at_call 21; with_reducible refine (HC7.out _ _ _ _ _ _ _ _ _ hin.1 hin.2 hmv.1 hmv.2).mono ?_; rintro e u5 ⟨rfl, g3⟩) | (go_at_call 21; with_reducible refine (HC7.out _ _ _ _ _ _ _ _ _ hin2.1 hin2.2 hmv2.1 hmv2.2).mono ?_; rintro e u7 ⟨rfl, g3⟩) | fail)
          all_goals
            have h7 : V.grownBy u7 none := by go_split_ands; assumption
            have HE := Lib.hid (HG.out.trans (HG2.out.trans (hX.trans (HXV.out.trans h7)))); clear h7
            go_wp2_with fail
            go_ret
            exact ⟨rfl, HE.out⟩
    · go_simp
      have HGq7 := Lib.hid (HGq1.out.trans (World.grownBy_alloc y1 (.cells #[.slice none 0 0, .int .i64 0, .slice none 0 0, .int .i64 0] 33) none))
      have HRA7 := Lib.hid (HRA1.out.alloc (.cells #[.slice none 0 0, .int .i64 0, .slice none 0 0, .int .i64 0] 33))
      have HA7 : Hid (Held4 (y1.alloc (.cells #[.slice none 0 0, .int .i64 0, .slice none 0 0, .int .i64 0] 33)) (y1.heap.size) (.slice none 0 0) (.int .i64 0) (.slice none 0 0) (.int .i64 0)) := Lib.hid (by have h := held4_new y1; (try rw [World.size_alloc] at h); exact h)
      refine hK.out _ _ (HS.out _ HGq7.out) (fun hHeld => ?_)
      clear hK K
      try simp only [Act.put, List.setIfInBounds_toArray, List.set_cons_zero, List.set_cons_succ]
      refine wpAnyH_ready (rs := [3, 5]) (by kernel_rfl) (by simp) ?_
      refine (AllReadyH.cons (o := { dst := some 27, op := Op.call { callee := Callee.value (Operand.func 33), args := #[Operand.tmp 26], argTypes := #[33] }, type := 33, pos := "law.go:107", after := #[{ on := 2, ground := Ground.data }, { on := 1, ground := Ground.chain }], guard := none }) rfl (fun K hK => ?_) (AllReadyH.cons (o := { dst := some 5, op := Op.alloc 33, type := 0, pos := "law.go:107", after := #[], guard := none }) rfl (fun K hK => ?_) AllReadyH.nil))
      · go_simp
        go_at_call 33
        refine (HSF.out _ HGq7.out).mono ?_
        rintro e y8 ⟨vb, vd, rfl, hr, g⟩
        have HGq8 := Lib.hid (HGq7.out.trans g)
        have HA8 := Lib.hid (Held4.off HA7.out g (fun x e => by cases e))
        have HRA8 := Lib.hid (own_grown HRA7.out g)
        have HKB : Hid (∀ x, (Value.slice vb _ vd).ownBlock = some x → y1.heap.size + 1 + 1 + 1 + 1 ≤ x ∧ x < y8.heap.size) := Lib.hid (by have h := hr.lt; (try simp only [World.size_alloc] at h); exact h)
        have HRB8 := Lib.hid hr; clear hr
        have HZ8 : Hid (y1.heap.size + 1 ≤ y8.heap.size) := Lib.hid (by have h := g.size; (try simp only [World.size_alloc] at h); exact h)
        clear g
        go_wp2_with fail
        refine hK.out _ _ (HS.out _ HGq8.out) (fun hHeld => ?_)
        clear hK K
        try simp only [Act.put, List.setIfInBounds_toArray, List.set_cons_zero, List.set_cons_succ]
        refine wpAnyH_ready (rs := [5]) (by kernel_rfl) (by simp) ?_
        refine (AllReadyH.cons (o := { dst := some 5, op := Op.alloc 33, type := 0, pos := "law.go:107", after := #[], guard := none }) rfl (fun K hK => ?_) AllReadyH.nil)
        · go_simp
          have HGq9 := Lib.hid (HGq8.out.trans (World.grownBy_alloc y8 (.cells #[.slice none 0 0, .int .i64 0, .slice none 0 0, .int .i64 0] 33) none))
          have HA9 := Lib.hid (Held4.off HA8.out (World.grownBy_alloc y8 (.cells #[.slice none 0 0, .int .i64 0, .slice none 0 0, .int .i64 0] 33) none) (fun x e => by cases e))
          have HRA9 := Lib.hid (HRA8.out.alloc (.cells #[.slice none 0 0, .int .i64 0, .slice none 0 0, .int .i64 0] 33))
          have HRB9 := Lib.hid (HRB8.out.alloc (.cells #[.slice none 0 0, .int .i64 0, .slice none 0 0, .int .i64 0] 33))
          have HB9 : Hid (Held4 (y8.alloc (.cells #[.slice none 0 0, .int .i64 0, .slice none 0 0, .int .i64 0] 33)) (y8.heap.size) (.slice none 0 0) (.int .i64 0) (.slice none 0 0) (.int .i64 0)) := Lib.hid (by have h := held4_new y8; (try rw [World.size_alloc] at h); exact h)
          refine hK.out _ _ (HS.out _ HGq9.out) (fun hHeld => ?_)
          clear hK K
          try simp only [Act.put, List.setIfInBounds_toArray, List.set_cons_zero, List.set_cons_succ]
          have FIN : ∃ (Y : World) (ga gb : Nat), Y = (y8.alloc (.cells #[.slice none 0 0, .int .i64 0, .slice none 0 0, .int .i64 0] 33)) ∧ ga = y1.heap.size ∧ gb = y8.heap.size ∧ Hid (w2.grownBy Y none ∧ Held4 Y ga (.slice none 0 0) (.int .i64 0) (.slice none 0 0) (.int .i64 0) ∧ Held4 Y gb (.slice none 0 0) (.int .i64 0) (.slice none 0 0) (.int .i64 0) ∧ (∃ b, Y.ownsRow b 40 1 (.slice va m vc) m (rowOf (D ++ D.drop p))) ∧ (∃ b, Y.ownsRow b 40 1 (.slice vb (k + 1) vd) (k + 1) (rowOf (D ++ [D.getD p ([], none, 0)]))) ∧ ga ≠ gb ∧ w2.heap.size ≤ ga ∧ w2.heap.size ≤ gb ∧ (∀ x, (Value.slice va m vc).ownBlock = some x → x ≠ ga ∧ x ≠ gb) ∧ (∀ x, (Value.slice vb (k + 1) vd).ownBlock = some x → x ≠ ga ∧ x ≠ gb)) := ⟨_, _, _, rfl, rfl, rfl, Lib.hid ⟨HGq9.out, HA9.out, HB9.out, ⟨_, HRA9.out⟩, ⟨_, HRB9.out⟩, (by have := HZ1.out; have := HZ8.out; omega), (by have := HZ1.out; have := HZ8.out; omega), (by have := HZ1.out; have := HZ8.out; omega), (fun x hx => by have := HZ1.out; have := HZ8.out; have := HKA.out x hx; omega), (fun x hx => by have := HZ1.out; have := HZ8.out; have := HKB.out x hx; omega)⟩⟩
          obtain ⟨Y, ga, gb, hY, hga, hgb, HF⟩ := FIN
          rw [← hga]
          rw [← hgb]
          rw [← hY]
          clear hY hga hgb
          clear hHeld
          obtain ⟨hY, kA, kB, ⟨bA, rA⟩, ⟨bB, rB⟩, hab, hga2, hgb2, nA, nB⟩ := HF.out
          obtain ⟨⟨a0, a1, a2, a3⟩, af⟩ := kA
          have af0 := af 0
          have af1 := af 1
          have af2 := af 2
          have af3 := af 3
          clear af
          have hHeld := HS.out _ hY
          refine wpAnyH_ready (rs := [6]) (by kernel_rfl) (by simp) ?_
          refine AllReadyH.cons (o := { dst := none, op := Op.store 33 (Operand.tmp 4) (Operand.tmp 25), type := 0, pos := "law.go:107", after := #[{ on := 4, ground := Ground.data }, { on := 1, ground := Ground.data }, { on := 3, ground := Ground.chain }, { on := 0, ground := Ground.phase }, { on := 1, ground := Ground.phase }, { on := 2, ground := Ground.textOnly Departure.lateStores }, { on := 3, ground := Ground.textOnly Departure.lateStoresUnsure }, { on := 4, ground := Ground.phase }, { on := 5, ground := Ground.phase }], guard := none }) rfl (fun K hK => ?_) AllReadyH.nil
          go_simp
          obtain ⟨p0, p1, p2, p3, pg⟩ := four_sets (.slice sa n sc) (.int .i64 m) (.slice va m vc) (.int .i64 p) a0 a1 a2 a3
          have hX1 := grown_own hY pg (fun x hx => by cases hx; exact hga2)
          refine hK.out _ _ (HS.out _ hX1) (fun hHeld => ?_)
          clear hK K
          try simp only [Act.put, List.setIfInBounds_toArray, List.set_cons_zero, List.set_cons_succ]
          have kB1 := kB.off pg (fun x hx => by cases hx; exact hab)
          have rA1 := rA.kept pg (own_off (fun x hx => (nA x hx).1))
          have rB1 := rB.kept pg (own_off (fun x hx => (nB x hx).1))
          obtain ⟨X1, hXe⟩ : ∃ X1, ((((Y.setCell ⟨ga, 0, none⟩ (.slice sa n sc)).setCell ⟨ga, 1, none⟩ (.int .i64 m)).setCell ⟨ga, 2, none⟩ (.slice va m vc)).setCell ⟨ga, 3, none⟩ (.int .i64 p)) = X1 := ⟨_, rfl⟩
          rw [hXe] at p0 p1 p2 p3 hX1 kB1 rA1 rB1 hHeld ⊢
          clear hXe pg a0 a1 a2 a3 af0 af1 af2 af3 kB rA rB
          obtain ⟨⟨b0, b1, b2, b3⟩, bf⟩ := kB1
          have bf0 := bf 0
          have bf1 := bf 1
          have bf2 := bf 2
          have bf3 := bf 3
          clear bf
          refine wpAnyH_ready (rs := [7]) (by kernel_rfl) (by simp) ?_
          refine AllReadyH.cons (o := { dst := none, op := Op.store 33 (Operand.tmp 5) (Operand.tmp 27), type := 0, pos := "law.go:107", after := #[{ on := 5, ground := Ground.data }, { on := 3, ground := Ground.data }, { on := 6, ground := Ground.chain }, { on := 0, ground := Ground.phase }, { on := 1, ground := Ground.phase }, { on := 2, ground := Ground.phase }, { on := 3, ground := Ground.phase }, { on := 4, ground := Ground.phase }, { on := 5, ground := Ground.phase }, { on := 6, ground := Ground.phase }], guard := none }) rfl (fun K hK => ?_) AllReadyH.nil
          go_simp
          obtain ⟨q0, q1, q2, q3, qg⟩ := four_sets (.slice sa n sc) (.int .i64 ((k : Int) + 1)) (.slice vb (k + 1) vd) (.int .i64 ((p : Int) + 1)) b0 b1 b2 b3
          have hX2 := grown_own hX1 qg (fun x hx => by cases hx; exact hgb2)
          refine hK.out _ _ (HS.out _ hX2) (fun hHeld => ?_)
          clear hK K
          try simp only [Act.put, List.setIfInBounds_toArray, List.set_cons_zero, List.set_cons_succ]
          have ne : (some ga : Option Nat) ≠ some gb := fun e => by injection e with e; exact hab e
          have HA := Lib.hid (And.intro (qg.cell p0 ne) (And.intro (qg.cell p1 ne) (And.intro (qg.cell p2 ne) (qg.cell p3 ne))))
          have rA2 := rA1.kept qg (own_off (fun x hx => (nA x hx).2))
          have rB2 := rB1.kept qg (own_off (fun x hx => (nB x hx).2))
          have HBq := Lib.hid (And.intro q0 (And.intro q1 (And.intro q2 q3)))
          have HR := Lib.hid (And.intro rA2 rB2)
          have HXX := Lib.hid hX2
          obtain ⟨X2, hXe⟩ : ∃ X2, ((((X1.setCell ⟨gb, 0, none⟩ (.slice sa n sc)).setCell ⟨gb, 1, none⟩ (.int .i64 ((k : Int) + 1))).setCell ⟨gb, 2, none⟩ (.slice vb (k + 1) vd)).setCell ⟨gb, 3, none⟩ (.int .i64 ((p : Int) + 1))) = X2 := ⟨_, rfl⟩
          rw [hXe] at HA HBq HR HXX hHeld ⊢
          clear hXe qg b0 b1 b2 b3 bf0 bf1 bf2 bf3 rA1 rB1 rA2 rB2 p0 p1 p2 p3 q0 q1 q2 q3 hX1 hX2 nA nB hY ne
          refine wpAnyH_done (by kernel_rfl) ?_ _
          clear hHeld HF
          have hX := HXX.out
          obtain ⟨-, c0, c1, c2, c3⟩ := HS.out X2 hX
          have hrel : ∀ d ∈ D, Rels X2 d.2.1 d.2.2 d.1 := fun d hd => (HD.out.2 d hd).grown hX
          have hDl : D.length = k := by rw [← HN.out.2.1, ← HD.out.1, List.length_map]
          obtain ⟨dp, hdp⟩ : ∃ d, D[p]? = some d := ⟨_, List.getElem?_eq_getElem (by omega)⟩
          have hgd : D.getD p ([], none, 0) = dp := by rw [List.getD_eq_getElem?_getD, hdp]; rfl
          have hld : L.getD p [] = dp.1 := by rw [← HD.out.1, List.getD_eq_getElem?_getD, List.getElem?_map, hdp]; rfl
          obtain ⟨za, zc, hv, hsA⟩ := sts_of_row HR.out.1 (by rw [List.length_append, List.length_drop, hDl]; exact HM60.out.symm) (fun d hd => by
            rw [List.mem_append] at hd
            rcases hd with hd | hd
            · exact hrel d hd
            · exact hrel d (List.mem_of_mem_drop hd))
          injection hv with e1 _ e3
          subst e1 e3
          rw [List.map_append, List.map_drop, HD.out.1] at hsA
          obtain ⟨zb, zd, hv, hsB⟩ := sts_of_row HR.out.2 (by rw [List.length_append, hDl]; rfl) (fun d hd => by
            rw [List.mem_append, List.mem_singleton] at hd
            rcases hd with hd | rfl
            · exact hrel d hd
            · rw [hgd]; exact hrel dp (List.mem_of_getElem? hdp))
          injection hv with e1 _ e3
          subst e1 e3
          rw [List.map_append, HD.out.1, hgd, show List.map (fun x : Ds => x.1) [dp] = [L.getD p []] from by rw [hld]; rfl] at hsB
          have hsmA : ∀ r ∈ L ++ L.drop p, r.length ≤ 10 ∧ ∀ x ∈ r, x.2.length ≤ 200 := fun r hr => by
            rw [List.mem_append] at hr
            rcases hr with hr | hr
            · exact HF.out.2.2 r hr
            · exact HF.out.2.2 r (List.mem_of_mem_drop hr)
          have hsmB : ∀ r ∈ L ++ [L.getD p []], r.length ≤ 10 ∧ ∀ x ∈ r, x.2.length ≤ 200 := fun r hr => by
            rw [List.mem_append, List.mem_singleton] at hr
            rcases hr with hr | rfl
            · exact HF.out.2.2 r hr
            · exact HF.out.2.2 _ (by rw [hld]; have h := List.mem_map_of_mem (f := fun x : Ds => x.1) (List.mem_of_getElem? hdp); rw [HD.out.1] at h; exact h)
          have HAB := Lib.hid (And.intro hsA (And.intro hsB (And.intro hsmA hsmB))); clear hsA hsB hsmA hsmB hrel hdp hgd hld
          have HUV := Lib.hid (fun (W' : World) (g : X2.grownBy W' none) => And.intro (HN.out.2.2.1.grown (HG.out.trans (HG2.out.trans (hX.trans g)))).weak (HN.out.2.2.2.grown (HG.out.trans (HG2.out.trans (hX.trans g)))))
          have hpL := HP.out
          have hkL := HN.out.2.1
          have hlb : (L ++ [L.getD p []]).length = k + 1 := by rw [List.length_append, hkL]; rfl
          have HC1 := Lib.hid (fun (W' : World) (g : X2.grownBy W' none) => short_same (st := st) (HUV.out W' g).1 (HUV.out W' g).2 HN.out.1 hkL hn10 hk64 (by omega) hpL HF.out.2.2 (fun _ => rfl) rfl HMN.out.1 HMN.out.2.1 HMN.out.2.2.1)
          have HC2 := Lib.hid (fun (W' : World) (g : X2.grownBy W' none) => same_true (st := st) (st' := m) (HUV.out W' g).1 (HUV.out W' g).1 (HUV.out W' g).2 (HAB.out.1.grown g) HN.out.1 hkL HM.out hn10 hk64 (by omega) (by omega) (by omega) HF.out.2.2 (fun t => (trL_repeat hpL t).symm) rfl rfl)
          have HC3 := Lib.hid (fun (W' : World) (g : X2.grownBy W' none) => same_true (lp' := (p : Int) + 1) (st := st) (st' := (k : Int) + 1) (HUV.out W' g).1 (HUV.out W' g).1 (HUV.out W' g).2 (HAB.out.2.1.grown g) HN.out.1 hkL hlb hn10 hk64 (by omega) (by omega) (by omega) HF.out.2.2 (fun t => (trL_shift hpL t).symm) rfl (by omega))
          have HC4 := Lib.hid (fun (W' : World) (g : X2.grownBy W' none) => same_true (lp' := (p : Int) + 1) (st := m) (st' := (k : Int) + 1) (HUV.out W' g).1 (HUV.out W' g).1 (HAB.out.1.grown g) (HAB.out.2.1.grown g) HN.out.1 HM.out hlb hn10 (by omega) (by omega) (by omega) (by omega) HAB.out.2.2.1 (fun t => (trL_repeat hpL t).trans (trL_shift hpL t).symm) rfl (by omega))
          have HC5 := Lib.hid (fun (W' : World) (g : X2.grownBy W' none) => short_same (st := m) (HUV.out W' g).1 (HAB.out.1.grown g) HN.out.1 HM.out hn10 (by omega) (by omega) hpL HAB.out.2.2.1 (trL_repeat hpL) rfl HMN.out.1 HMN.out.2.1 HMN.out.2.2.1)
          have HC6 := Lib.hid (fun (W' : World) (g : X2.grownBy W' none) => short_same (lp := (p : Int) + 1) (st := (k : Int) + 1) (HUV.out W' g).1 (HAB.out.2.1.grown g) HN.out.1 hlb hn10 (by omega) (by omega) hpL HAB.out.2.2.2 (trL_shift hpL) (by omega) HMN.out.1 HMN.out.2.1 HMN.out.2.2.1)
          have HC7 := Lib.hid (fun (x z x' z' : Option Addr) (c d c' d' : Nat) (W' : World) (hx : Ints W' x c us) (hz : Sts W' z d M) (hx' : Ints W' x' c' us) (hz' : Sts W' z' d' M) => req_true (st := (N : Int)) (lp := (l : Int)) hx.weak hx'.weak hz hz' HN.out.1 HMN.out.2.2.1 hn10 hN64 HMN.out.2.2.2)
          clear hpL hkL hlb
          go_wp2_with fail
          refine (HC1.out X2 (grown_refl _ _)).mono ?_
          rintro e X3 ⟨ma, mc, mb, md, rfl, hms, g3⟩
          have HX3 := Lib.hid g3; clear g3 c0 c1 c2 c3
          have hgs := World.grownBy_alloc X3 (.cells #[.slice ma n mc, .int .i64 N, .slice mb N md, .int .i64 l] 33) none
          have hcs := four_cells X3 (.slice ma n mc) (.int .i64 N) (.slice mb N md) (.int .i64 l) 33
          obtain ⟨V, hV⟩ : ∃ V, X3.alloc (.cells #[.slice ma n mc, .int .i64 N, .slice mb N md, .int .i64 l] 33) = V := ⟨_, rfl⟩
          rw [hV] at hgs hcs
          have hXV := HX3.out.trans hgs
          have HMV := Lib.hid (fun (W' : World) (g : V.grownBy W' none) => And.intro (hms.1.grown (hgs.trans g)) (hms.2.grown (hgs.trans g)))
          have HVV := Lib.hid hV; clear hV
          go_wp2_with fail
          rw [HVV.out]
          clear HVV
          obtain ⟨-, c0, c1, c2, c3⟩ := HS.out V (hX.trans hXV)
          have a0 := hXV.cell HA.out.1 (by simp)
          have a1 := hXV.cell HA.out.2.1 (by simp)
          have a2 := hXV.cell HA.out.2.2.1 (by simp)
          have a3 := hXV.cell HA.out.2.2.2 (by simp)
          have b0 := hXV.cell HBq.out.1 (by simp)
          have b1 := hXV.cell HBq.out.2.1 (by simp)
          have b2 := hXV.cell HBq.out.2.2.1 (by simp)
          have b3 := hXV.cell HBq.out.2.2.2 (by simp)
          obtain ⟨s0, s1, s2, s3⟩ := hcs
          have HXV := Lib.hid hXV; clear hXV hgs hms
          go_region_held3 (fun w' : World => V.grownBy w' none ∧ w'.cell? ⟨w.heap.size, 0, none⟩ = some (.slice sa n sc) ∧ w'.cell? ⟨w.heap.size, 1, none⟩ = some (.int .i64 st) ∧ w'.cell? ⟨w.heap.size, 2, none⟩ = some (.slice (some ⟨tb, to, none⟩) k tc) ∧ w'.cell? ⟨w.heap.size, 3, none⟩ = some (.int .i64 p) ∧ w'.cell? ⟨ga, 0, none⟩ = some (.slice sa n sc) ∧ w'.cell? ⟨ga, 1, none⟩ = some (.int .i64 m) ∧ w'.cell? ⟨ga, 2, none⟩ = some (.slice va m vc) ∧ w'.cell? ⟨ga, 3, none⟩ = some (.int .i64 p) ∧ w'.cell? ⟨gb, 0, none⟩ = some (.slice sa n sc) ∧ w'.cell? ⟨gb, 1, none⟩ = some (.int .i64 ((k : Int) + 1)) ∧ w'.cell? ⟨gb, 2, none⟩ = some (.slice vb (k + 1) vd) ∧ w'.cell? ⟨gb, 3, none⟩ = some (.int .i64 ((p : Int) + 1)) ∧ w'.cell? ⟨X3.heap.size, 0, none⟩ = some (.slice ma n mc) ∧ w'.cell? ⟨X3.heap.size, 1, none⟩ = some (.int .i64 N) ∧ w'.cell? ⟨X3.heap.size, 2, none⟩ = some (.slice mb N md) ∧ w'.cell? ⟨X3.heap.size, 3, none⟩ = some (.int .i64 l))
            (first | exact ⟨⟨rfl, rfl, rfl, Nat.le_refl _, fun _ _ _ => rfl⟩, c0, c1, c2, c3, a0, a1, a2, a3, b0, b1, b2, b3, s0, s1, s2, s3⟩ | (go_split_ands; exact held_next16 g3 (by assumption) (by assumption) (by assumption) (by assumption) (by assumption) (by assumption) (by assumption) (by assumption) (by assumption) (by assumption) (by assumption) (by assumption) (by assumption) (by assumption) (by assumption) (by assumption) (by assumption)) | assumption | fail)
            (first | (go_at_call 28; with_reducible refine (HC2.out _ (HXV.out.trans ?_)).mono ?_; (go_split_ands; assumption); rintro e u1 ⟨rfl, g3⟩) | (go_at_call 28; with_reducible refine (HC3.out _ (HXV.out.trans ?_)).mono ?_; (go_split_ands; assumption); rintro e u2 ⟨rfl, g3⟩) | (go_at_call 28; with_reducible refine (HC4.out _ (HXV.out.trans ?_)).mono ?_; (go_split_ands; assumption); rintro e u3 ⟨rfl, g3⟩) | (go_at_call 30; with_reducible refine (HC5.out _ (HXV.out.trans ?_)).mono ?_; (go_split_ands; assumption); rintro e u4 ⟨x1, y1, x2, y2, rfl, hin, g3⟩; have hmv := HMV.out u4 (by go_split_ands; exact World.grownBy.trans (by assumption) g3)) | (go_at_call 30; with_reducible refine (HC6.out _ (HXV.out.trans ?_)).mono ?_; (go_split_ands; assumption); rintro e u6 ⟨x3, y3, x4, y4, rfl, hin2, g3⟩; have hmv2 := HMV.out u6 (by go_split_ands; exact World.grownBy.trans (by assumption) g3)) | (go_at_call 21; with_reducible refine (HC7.out _ _ _ _ _ _ _ _ _ hin.1 hin.2 hmv.1 hmv.2).mono ?_; rintro e u5 ⟨rfl, g3⟩) | (go_at_call 21; with_reducible refine (HC7.out _ _ _ _ _ _ _ _ _ hin2.1 hin2.2 hmv2.1 hmv2.2).mono ?_; rintro e u7 ⟨rfl, g3⟩) | fail)
          all_goals
            have h7 : V.grownBy u7 none := by go_split_ands; assumption
            have HE := Lib.hid (HG.out.trans (HG2.out.trans (hX.trans (HXV.out.trans h7)))); clear h7
            go_wp2_with fail
            go_ret
            exact ⟨rfl, HE.out⟩
      · go_simp
        have HGq10 := Lib.hid (HGq7.out.trans (World.grownBy_alloc (y1.alloc (.cells #[.slice none 0 0, .int .i64 0, .slice none 0 0, .int .i64 0] 33)) (.cells #[.slice none 0 0, .int .i64 0, .slice none 0 0, .int .i64 0] 33) none))
        have HA10 := Lib.hid (Held4.off HA7.out (World.grownBy_alloc (y1.alloc (.cells #[.slice none 0 0, .int .i64 0, .slice none 0 0, .int .i64 0] 33)) (.cells #[.slice none 0 0, .int .i64 0, .slice none 0 0, .int .i64 0] 33) none) (fun x e => by cases e))
        have HRA10 := Lib.hid (HRA7.out.alloc (.cells #[.slice none 0 0, .int .i64 0, .slice none 0 0, .int .i64 0] 33))
        have HB10 : Hid (Held4 ((y1.alloc (.cells #[.slice none 0 0, .int .i64 0, .slice none 0 0, .int .i64 0] 33)).alloc (.cells #[.slice none 0 0, .int .i64 0, .slice none 0 0, .int .i64 0] 33)) (y1.heap.size + 1) (.slice none 0 0) (.int .i64 0) (.slice none 0 0) (.int .i64 0)) := Lib.hid (by have h := held4_new (y1.alloc (.cells #[.slice none 0 0, .int .i64 0, .slice none 0 0, .int .i64 0] 33)); (try rw [World.size_alloc] at h); exact h)
        refine hK.out _ _ (HS.out _ HGq10.out) (fun hHeld => ?_)
        clear hK K
        try simp only [Act.put, List.setIfInBounds_toArray, List.set_cons_zero, List.set_cons_succ]
        refine wpAnyH_ready (rs := [3]) (by kernel_rfl) (by simp) ?_
        refine (AllReadyH.cons (o := { dst := some 27, op := Op.call { callee := Callee.value (Operand.func 33), args := #[Operand.tmp 26], argTypes := #[33] }, type := 33, pos := "law.go:107", after := #[{ on := 2, ground := Ground.data }, { on := 1, ground := Ground.chain }], guard := none }) rfl (fun K hK => ?_) AllReadyH.nil)
        · go_simp
          go_at_call 33
          refine (HSF.out _ HGq10.out).mono ?_
          rintro e y11 ⟨vb, vd, rfl, hr, g⟩
          have HGq11 := Lib.hid (HGq10.out.trans g)
          have HA11 := Lib.hid (Held4.off HA10.out g (fun x e => by cases e))
          have HB11 := Lib.hid (Held4.off HB10.out g (fun x e => by cases e))
          have HRA11 := Lib.hid (own_grown HRA10.out g)
          have HKB : Hid (∀ x, (Value.slice vb _ vd).ownBlock = some x → y1.heap.size + 1 + 1 + 1 + 1 + 1 ≤ x ∧ x < y11.heap.size) := Lib.hid (by have h := hr.lt; (try simp only [World.size_alloc] at h); exact h)
          have HRB11 := Lib.hid hr; clear hr
          have HZ11 : Hid (y1.heap.size + 1 + 1 ≤ y11.heap.size) := Lib.hid (by have h := g.size; (try simp only [World.size_alloc] at h); exact h)
          clear g
          go_wp2_with fail
          refine hK.out _ _ (HS.out _ HGq11.out) (fun hHeld => ?_)
          clear hK K
          try simp only [Act.put, List.setIfInBounds_toArray, List.set_cons_zero, List.set_cons_succ]
          have FIN : ∃ (Y : World) (ga gb : Nat), Y = y11 ∧ ga = y1.heap.size ∧ gb = y1.heap.size + 1 ∧ Hid (w2.grownBy Y none ∧ Held4 Y ga (.slice none 0 0) (.int .i64 0) (.slice none 0 0) (.int .i64 0) ∧ Held4 Y gb (.slice none 0 0) (.int .i64 0) (.slice none 0 0) (.int .i64 0) ∧ (∃ b, Y.ownsRow b 40 1 (.slice va m vc) m (rowOf (D ++ D.drop p))) ∧ (∃ b, Y.ownsRow b 40 1 (.slice vb (k + 1) vd) (k + 1) (rowOf (D ++ [D.getD p ([], none, 0)]))) ∧ ga ≠ gb ∧ w2.heap.size ≤ ga ∧ w2.heap.size ≤ gb ∧ (∀ x, (Value.slice va m vc).ownBlock = some x → x ≠ ga ∧ x ≠ gb) ∧ (∀ x, (Value.slice vb (k + 1) vd).ownBlock = some x → x ≠ ga ∧ x ≠ gb)) := ⟨_, _, _, rfl, rfl, rfl, Lib.hid ⟨HGq11.out, HA11.out, HB11.out, ⟨_, HRA11.out⟩, ⟨_, HRB11.out⟩, (by have := HZ1.out; have := HZ11.out; omega), (by have := HZ1.out; have := HZ11.out; omega), (by have := HZ1.out; have := HZ11.out; omega), (fun x hx => by have := HZ1.out; have := HZ11.out; have := HKA.out x hx; omega), (fun x hx => by have := HZ1.out; have := HZ11.out; have := HKB.out x hx; omega)⟩⟩
          obtain ⟨Y, ga, gb, hY, hga, hgb, HF⟩ := FIN
          rw [← hgb]
          rw [← hga]
          rw [← hY]
          clear hY hga hgb
          clear hHeld
          obtain ⟨hY, kA, kB, ⟨bA, rA⟩, ⟨bB, rB⟩, hab, hga2, hgb2, nA, nB⟩ := HF.out
          obtain ⟨⟨a0, a1, a2, a3⟩, af⟩ := kA
          have af0 := af 0
          have af1 := af 1
          have af2 := af 2
          have af3 := af 3
          clear af
          have hHeld := HS.out _ hY
          refine wpAnyH_ready (rs := [6]) (by kernel_rfl) (by simp) ?_
          refine AllReadyH.cons (o := { dst := none, op := Op.store 33 (Operand.tmp 4) (Operand.tmp 25), type := 0, pos := "law.go:107", after := #[{ on := 4, ground := Ground.data }, { on := 1, ground := Ground.data }, { on := 3, ground := Ground.chain }, { on := 0, ground := Ground.phase }, { on := 1, ground := Ground.phase }, { on := 2, ground := Ground.textOnly Departure.lateStores }, { on := 3, ground := Ground.textOnly Departure.lateStoresUnsure }, { on := 4, ground := Ground.phase }, { on := 5, ground := Ground.phase }], guard := none }) rfl (fun K hK => ?_) AllReadyH.nil
          go_simp
          obtain ⟨p0, p1, p2, p3, pg⟩ := four_sets (.slice sa n sc) (.int .i64 m) (.slice va m vc) (.int .i64 p) a0 a1 a2 a3
          have hX1 := grown_own hY pg (fun x hx => by cases hx; exact hga2)
          refine hK.out _ _ (HS.out _ hX1) (fun hHeld => ?_)
          clear hK K
          try simp only [Act.put, List.setIfInBounds_toArray, List.set_cons_zero, List.set_cons_succ]
          have kB1 := kB.off pg (fun x hx => by cases hx; exact hab)
          have rA1 := rA.kept pg (own_off (fun x hx => (nA x hx).1))
          have rB1 := rB.kept pg (own_off (fun x hx => (nB x hx).1))
          obtain ⟨X1, hXe⟩ : ∃ X1, ((((Y.setCell ⟨ga, 0, none⟩ (.slice sa n sc)).setCell ⟨ga, 1, none⟩ (.int .i64 m)).setCell ⟨ga, 2, none⟩ (.slice va m vc)).setCell ⟨ga, 3, none⟩ (.int .i64 p)) = X1 := ⟨_, rfl⟩
          rw [hXe] at p0 p1 p2 p3 hX1 kB1 rA1 rB1 hHeld ⊢
          clear hXe pg a0 a1 a2 a3 af0 af1 af2 af3 kB rA rB
          obtain ⟨⟨b0, b1, b2, b3⟩, bf⟩ := kB1
          have bf0 := bf 0
          have bf1 := bf 1
          have bf2 := bf 2
          have bf3 := bf 3
          clear bf
          refine wpAnyH_ready (rs := [7]) (by kernel_rfl) (by simp) ?_
          refine AllReadyH.cons (o := { dst := none, op := Op.store 33 (Operand.tmp 5) (Operand.tmp 27), type := 0, pos := "law.go:107", after := #[{ on := 5, ground := Ground.data }, { on := 3, ground := Ground.data }, { on := 6, ground := Ground.chain }, { on := 0, ground := Ground.phase }, { on := 1, ground := Ground.phase }, { on := 2, ground := Ground.phase }, { on := 3, ground := Ground.phase }, { on := 4, ground := Ground.phase }, { on := 5, ground := Ground.phase }, { on := 6, ground := Ground.phase }], guard := none }) rfl (fun K hK => ?_) AllReadyH.nil
          go_simp
          obtain ⟨q0, q1, q2, q3, qg⟩ := four_sets (.slice sa n sc) (.int .i64 ((k : Int) + 1)) (.slice vb (k + 1) vd) (.int .i64 ((p : Int) + 1)) b0 b1 b2 b3
          have hX2 := grown_own hX1 qg (fun x hx => by cases hx; exact hgb2)
          refine hK.out _ _ (HS.out _ hX2) (fun hHeld => ?_)
          clear hK K
          try simp only [Act.put, List.setIfInBounds_toArray, List.set_cons_zero, List.set_cons_succ]
          have ne : (some ga : Option Nat) ≠ some gb := fun e => by injection e with e; exact hab e
          have HA := Lib.hid (And.intro (qg.cell p0 ne) (And.intro (qg.cell p1 ne) (And.intro (qg.cell p2 ne) (qg.cell p3 ne))))
          have rA2 := rA1.kept qg (own_off (fun x hx => (nA x hx).2))
          have rB2 := rB1.kept qg (own_off (fun x hx => (nB x hx).2))
          have HBq := Lib.hid (And.intro q0 (And.intro q1 (And.intro q2 q3)))
          have HR := Lib.hid (And.intro rA2 rB2)
          have HXX := Lib.hid hX2
          obtain ⟨X2, hXe⟩ : ∃ X2, ((((X1.setCell ⟨gb, 0, none⟩ (.slice sa n sc)).setCell ⟨gb, 1, none⟩ (.int .i64 ((k : Int) + 1))).setCell ⟨gb, 2, none⟩ (.slice vb (k + 1) vd)).setCell ⟨gb, 3, none⟩ (.int .i64 ((p : Int) + 1))) = X2 := ⟨_, rfl⟩
          rw [hXe] at HA HBq HR HXX hHeld ⊢
          clear hXe qg b0 b1 b2 b3 bf0 bf1 bf2 bf3 rA1 rB1 rA2 rB2 p0 p1 p2 p3 q0 q1 q2 q3 hX1 hX2 nA nB hY ne
          refine wpAnyH_done (by kernel_rfl) ?_ _
          clear hHeld HF
          have hX := HXX.out
          obtain ⟨-, c0, c1, c2, c3⟩ := HS.out X2 hX
          have hrel : ∀ d ∈ D, Rels X2 d.2.1 d.2.2 d.1 := fun d hd => (HD.out.2 d hd).grown hX
          have hDl : D.length = k := by rw [← HN.out.2.1, ← HD.out.1, List.length_map]
          obtain ⟨dp, hdp⟩ : ∃ d, D[p]? = some d := ⟨_, List.getElem?_eq_getElem (by omega)⟩
          have hgd : D.getD p ([], none, 0) = dp := by rw [List.getD_eq_getElem?_getD, hdp]; rfl
          have hld : L.getD p [] = dp.1 := by rw [← HD.out.1, List.getD_eq_getElem?_getD, List.getElem?_map, hdp]; rfl
          obtain ⟨za, zc, hv, hsA⟩ := sts_of_row HR.out.1 (by rw [List.length_append, List.length_drop, hDl]; exact HM60.out.symm) (fun d hd => by
            rw [List.mem_append] at hd
            rcases hd with hd | hd
            · exact hrel d hd
            · exact hrel d (List.mem_of_mem_drop hd))
          injection hv with e1 _ e3
          subst e1 e3
          rw [List.map_append, List.map_drop, HD.out.1] at hsA
          obtain ⟨zb, zd, hv, hsB⟩ := sts_of_row HR.out.2 (by rw [List.length_append, hDl]; rfl) (fun d hd => by
            rw [List.mem_append, List.mem_singleton] at hd
            rcases hd with hd | rfl
            · exact hrel d hd
            · rw [hgd]; exact hrel dp (List.mem_of_getElem? hdp))
          injection hv with e1 _ e3
          subst e1 e3
          rw [List.map_append, HD.out.1, hgd, show List.map (fun x : Ds => x.1) [dp] = [L.getD p []] from by rw [hld]; rfl] at hsB
          have hsmA : ∀ r ∈ L ++ L.drop p, r.length ≤ 10 ∧ ∀ x ∈ r, x.2.length ≤ 200 := fun r hr => by
            rw [List.mem_append] at hr
            rcases hr with hr | hr
            · exact HF.out.2.2 r hr
            · exact HF.out.2.2 r (List.mem_of_mem_drop hr)
          have hsmB : ∀ r ∈ L ++ [L.getD p []], r.length ≤ 10 ∧ ∀ x ∈ r, x.2.length ≤ 200 := fun r hr => by
            rw [List.mem_append, List.mem_singleton] at hr
            rcases hr with hr | rfl
            · exact HF.out.2.2 r hr
            · exact HF.out.2.2 _ (by rw [hld]; have h := List.mem_map_of_mem (f := fun x : Ds => x.1) (List.mem_of_getElem? hdp); rw [HD.out.1] at h; exact h)
          have HAB := Lib.hid (And.intro hsA (And.intro hsB (And.intro hsmA hsmB))); clear hsA hsB hsmA hsmB hrel hdp hgd hld
          have HUV := Lib.hid (fun (W' : World) (g : X2.grownBy W' none) => And.intro (HN.out.2.2.1.grown (HG.out.trans (HG2.out.trans (hX.trans g)))).weak (HN.out.2.2.2.grown (HG.out.trans (HG2.out.trans (hX.trans g)))))
          have hpL := HP.out
          have hkL := HN.out.2.1
          have hlb : (L ++ [L.getD p []]).length = k + 1 := by rw [List.length_append, hkL]; rfl
          have HC1 := Lib.hid (fun (W' : World) (g : X2.grownBy W' none) => short_same (st := st) (HUV.out W' g).1 (HUV.out W' g).2 HN.out.1 hkL hn10 hk64 (by omega) hpL HF.out.2.2 (fun _ => rfl) rfl HMN.out.1 HMN.out.2.1 HMN.out.2.2.1)
          have HC2 := Lib.hid (fun (W' : World) (g : X2.grownBy W' none) => same_true (st := st) (st' := m) (HUV.out W' g).1 (HUV.out W' g).1 (HUV.out W' g).2 (HAB.out.1.grown g) HN.out.1 hkL HM.out hn10 hk64 (by omega) (by omega) (by omega) HF.out.2.2 (fun t => (trL_repeat hpL t).symm) rfl rfl)
          have HC3 := Lib.hid (fun (W' : World) (g : X2.grownBy W' none) => same_true (lp' := (p : Int) + 1) (st := st) (st' := (k : Int) + 1) (HUV.out W' g).1 (HUV.out W' g).1 (HUV.out W' g).2 (HAB.out.2.1.grown g) HN.out.1 hkL hlb hn10 hk64 (by omega) (by omega) (by omega) HF.out.2.2 (fun t => (trL_shift hpL t).symm) rfl (by omega))
          have HC4 := Lib.hid (fun (W' : World) (g : X2.grownBy W' none) => same_true (lp' := (p : Int) + 1) (st := m) (st' := (k : Int) + 1) (HUV.out W' g).1 (HUV.out W' g).1 (HAB.out.1.grown g) (HAB.out.2.1.grown g) HN.out.1 HM.out hlb hn10 (by omega) (by omega) (by omega) (by omega) HAB.out.2.2.1 (fun t => (trL_repeat hpL t).trans (trL_shift hpL t).symm) rfl (by omega))
          have HC5 := Lib.hid (fun (W' : World) (g : X2.grownBy W' none) => short_same (st := m) (HUV.out W' g).1 (HAB.out.1.grown g) HN.out.1 HM.out hn10 (by omega) (by omega) hpL HAB.out.2.2.1 (trL_repeat hpL) rfl HMN.out.1 HMN.out.2.1 HMN.out.2.2.1)
          have HC6 := Lib.hid (fun (W' : World) (g : X2.grownBy W' none) => short_same (lp := (p : Int) + 1) (st := (k : Int) + 1) (HUV.out W' g).1 (HAB.out.2.1.grown g) HN.out.1 hlb hn10 (by omega) (by omega) hpL HAB.out.2.2.2 (trL_shift hpL) (by omega) HMN.out.1 HMN.out.2.1 HMN.out.2.2.1)
          have HC7 := Lib.hid (fun (x z x' z' : Option Addr) (c d c' d' : Nat) (W' : World) (hx : Ints W' x c us) (hz : Sts W' z d M) (hx' : Ints W' x' c' us) (hz' : Sts W' z' d' M) => req_true (st := (N : Int)) (lp := (l : Int)) hx.weak hx'.weak hz hz' HN.out.1 HMN.out.2.2.1 hn10 hN64 HMN.out.2.2.2)
          clear hpL hkL hlb
          go_wp2_with fail
          refine (HC1.out X2 (grown_refl _ _)).mono ?_
          rintro e X3 ⟨ma, mc, mb, md, rfl, hms, g3⟩
          have HX3 := Lib.hid g3; clear g3 c0 c1 c2 c3
          have hgs := World.grownBy_alloc X3 (.cells #[.slice ma n mc, .int .i64 N, .slice mb N md, .int .i64 l] 33) none
          have hcs := four_cells X3 (.slice ma n mc) (.int .i64 N) (.slice mb N md) (.int .i64 l) 33
          obtain ⟨V, hV⟩ : ∃ V, X3.alloc (.cells #[.slice ma n mc, .int .i64 N, .slice mb N md, .int .i64 l] 33) = V := ⟨_, rfl⟩
          rw [hV] at hgs hcs
          have hXV := HX3.out.trans hgs
          have HMV := Lib.hid (fun (W' : World) (g : V.grownBy W' none) => And.intro (hms.1.grown (hgs.trans g)) (hms.2.grown (hgs.trans g)))
          have HVV := Lib.hid hV; clear hV
          go_wp2_with fail
          rw [HVV.out]
          clear HVV
          obtain ⟨-, c0, c1, c2, c3⟩ := HS.out V (hX.trans hXV)
          have a0 := hXV.cell HA.out.1 (by simp)
          have a1 := hXV.cell HA.out.2.1 (by simp)
          have a2 := hXV.cell HA.out.2.2.1 (by simp)
          have a3 := hXV.cell HA.out.2.2.2 (by simp)
          have b0 := hXV.cell HBq.out.1 (by simp)
          have b1 := hXV.cell HBq.out.2.1 (by simp)
          have b2 := hXV.cell HBq.out.2.2.1 (by simp)
          have b3 := hXV.cell HBq.out.2.2.2 (by simp)
          obtain ⟨s0, s1, s2, s3⟩ := hcs
          have HXV := Lib.hid hXV; clear hXV hgs hms
          go_region_held3 (fun w' : World => V.grownBy w' none ∧ w'.cell? ⟨w.heap.size, 0, none⟩ = some (.slice sa n sc) ∧ w'.cell? ⟨w.heap.size, 1, none⟩ = some (.int .i64 st) ∧ w'.cell? ⟨w.heap.size, 2, none⟩ = some (.slice (some ⟨tb, to, none⟩) k tc) ∧ w'.cell? ⟨w.heap.size, 3, none⟩ = some (.int .i64 p) ∧ w'.cell? ⟨ga, 0, none⟩ = some (.slice sa n sc) ∧ w'.cell? ⟨ga, 1, none⟩ = some (.int .i64 m) ∧ w'.cell? ⟨ga, 2, none⟩ = some (.slice va m vc) ∧ w'.cell? ⟨ga, 3, none⟩ = some (.int .i64 p) ∧ w'.cell? ⟨gb, 0, none⟩ = some (.slice sa n sc) ∧ w'.cell? ⟨gb, 1, none⟩ = some (.int .i64 ((k : Int) + 1)) ∧ w'.cell? ⟨gb, 2, none⟩ = some (.slice vb (k + 1) vd) ∧ w'.cell? ⟨gb, 3, none⟩ = some (.int .i64 ((p : Int) + 1)) ∧ w'.cell? ⟨X3.heap.size, 0, none⟩ = some (.slice ma n mc) ∧ w'.cell? ⟨X3.heap.size, 1, none⟩ = some (.int .i64 N) ∧ w'.cell? ⟨X3.heap.size, 2, none⟩ = some (.slice mb N md) ∧ w'.cell? ⟨X3.heap.size, 3, none⟩ = some (.int .i64 l))
            (first | exact ⟨⟨rfl, rfl, rfl, Nat.le_refl _, fun _ _ _ => rfl⟩, c0, c1, c2, c3, a0, a1, a2, a3, b0, b1, b2, b3, s0, s1, s2, s3⟩ | (go_split_ands; exact held_next16 g3 (by assumption) (by assumption) (by assumption) (by assumption) (by assumption) (by assumption) (by assumption) (by assumption) (by assumption) (by assumption) (by assumption) (by assumption) (by assumption) (by assumption) (by assumption) (by assumption) (by assumption)) | assumption | fail)
            (first | (go_at_call 28; with_reducible refine (HC2.out _ (HXV.out.trans ?_)).mono ?_; (go_split_ands; assumption); rintro e u1 ⟨rfl, g3⟩) | (go_at_call 28; with_reducible refine (HC3.out _ (HXV.out.trans ?_)).mono ?_; (go_split_ands; assumption); rintro e u2 ⟨rfl, g3⟩) | (go_at_call 28; with_reducible refine (HC4.out _ (HXV.out.trans ?_)).mono ?_; (go_split_ands; assumption); rintro e u3 ⟨rfl, g3⟩) | (go_at_call 30; with_reducible refine (HC5.out _ (HXV.out.trans ?_)).mono ?_; (go_split_ands; assumption); rintro e u4 ⟨x1, y1, x2, y2, rfl, hin, g3⟩; have hmv := HMV.out u4 (by go_split_ands; exact World.grownBy.trans (by assumption) g3)) | (go_at_call 30; with_reducible refine (HC6.out _ (HXV.out.trans ?_)).mono ?_; (go_split_ands; assumption); rintro e u6 ⟨x3, y3, x4, y4, rfl, hin2, g3⟩; have hmv2 := HMV.out u6 (by go_split_ands; exact World.grownBy.trans (by assumption) g3)) | (go_at_call 21; with_reducible refine (HC7.out _ _ _ _ _ _ _ _ _ hin.1 hin.2 hmv.1 hmv.2).mono ?_; rintro e u5 ⟨rfl, g3⟩) | (go_at_call 21; with_reducible refine (HC7.out _ _ _ _ _ _ _ _ _ hin2.1 hin2.2 hmv2.1 hmv2.2).mono ?_; rintro e u7 ⟨rfl, g3⟩) | fail)
          all_goals
            have h7 : V.grownBy u7 none := by go_split_ands; assumption
            have HE := Lib.hid (HG.out.trans (HG2.out.trans (hX.trans (HXV.out.trans h7)))); clear h7
            go_wp2_with fail
            go_ret
            exact ⟨rfl, HE.out⟩
    · go_simp
      have HGq12 := Lib.hid (HGq1.out.trans (World.grownBy_alloc y1 (.cells #[.slice none 0 0, .int .i64 0, .slice none 0 0, .int .i64 0] 33) none))
      have HRA12 := Lib.hid (HRA1.out.alloc (.cells #[.slice none 0 0, .int .i64 0, .slice none 0 0, .int .i64 0] 33))
      have HB12 : Hid (Held4 (y1.alloc (.cells #[.slice none 0 0, .int .i64 0, .slice none 0 0, .int .i64 0] 33)) (y1.heap.size) (.slice none 0 0) (.int .i64 0) (.slice none 0 0) (.int .i64 0)) := Lib.hid (by have h := held4_new y1; (try rw [World.size_alloc] at h); exact h)
      refine hK.out _ _ (HS.out _ HGq12.out) (fun hHeld => ?_)
      clear hK K
      try simp only [Act.put, List.setIfInBounds_toArray, List.set_cons_zero, List.set_cons_succ]
      refine wpAnyH_ready (rs := [3, 4]) (by kernel_rfl) (by simp) ?_
      refine (AllReadyH.cons (o := { dst := some 27, op := Op.call { callee := Callee.value (Operand.func 33), args := #[Operand.tmp 26], argTypes := #[33] }, type := 33, pos := "law.go:107", after := #[{ on := 2, ground := Ground.data }, { on := 1, ground := Ground.chain }], guard := none }) rfl (fun K hK => ?_) (AllReadyH.cons (o := { dst := some 4, op := Op.alloc 33, type := 0, pos := "law.go:107", after := #[], guard := none }) rfl (fun K hK => ?_) AllReadyH.nil))
      · go_simp
        go_at_call 33
        refine (HSF.out _ HGq12.out).mono ?_
        rintro e y13 ⟨vb, vd, rfl, hr, g⟩
        have HGq13 := Lib.hid (HGq12.out.trans g)
        have HB13 := Lib.hid (Held4.off HB12.out g (fun x e => by cases e))
        have HRA13 := Lib.hid (own_grown HRA12.out g)
        have HKB : Hid (∀ x, (Value.slice vb _ vd).ownBlock = some x → y1.heap.size + 1 + 1 + 1 + 1 ≤ x ∧ x < y13.heap.size) := Lib.hid (by have h := hr.lt; (try simp only [World.size_alloc] at h); exact h)
        have HRB13 := Lib.hid hr; clear hr
        have HZ13 : Hid (y1.heap.size + 1 ≤ y13.heap.size) := Lib.hid (by have h := g.size; (try simp only [World.size_alloc] at h); exact h)
        clear g
        go_wp2_with fail
        refine hK.out _ _ (HS.out _ HGq13.out) (fun hHeld => ?_)
        clear hK K
        try simp only [Act.put, List.setIfInBounds_toArray, List.set_cons_zero, List.set_cons_succ]
        refine wpAnyH_ready (rs := [4]) (by kernel_rfl) (by simp) ?_
        refine (AllReadyH.cons (o := { dst := some 4, op := Op.alloc 33, type := 0, pos := "law.go:107", after := #[], guard := none }) rfl (fun K hK => ?_) AllReadyH.nil)
        · go_simp
          have HGq14 := Lib.hid (HGq13.out.trans (World.grownBy_alloc y13 (.cells #[.slice none 0 0, .int .i64 0, .slice none 0 0, .int .i64 0] 33) none))
          have HB14 := Lib.hid (Held4.off HB13.out (World.grownBy_alloc y13 (.cells #[.slice none 0 0, .int .i64 0, .slice none 0 0, .int .i64 0] 33) none) (fun x e => by cases e))
          have HRA14 := Lib.hid (HRA13.out.alloc (.cells #[.slice none 0 0, .int .i64 0, .slice none 0 0, .int .i64 0] 33))
          have HRB14 := Lib.hid (HRB13.out.alloc (.cells #[.slice none 0 0, .int .i64 0, .slice none 0 0, .int .i64 0] 33))
          have HA14 : Hid (Held4 (y13.alloc (.cells #[.slice none 0 0, .int .i64 0, .slice none 0 0, .int .i64 0] 33)) (y13.heap.size) (.slice none 0 0) (.int .i64 0) (.slice none 0 0) (.int .i64 0)) := Lib.hid (by have h := held4_new y13; (try rw [World.size_alloc] at h); exact h)
          refine hK.out _ _ (HS.out _ HGq14.out) (fun hHeld => ?_)
          clear hK K
          try simp only [Act.put, List.setIfInBounds_toArray, List.set_cons_zero, List.set_cons_succ]
          have FIN : ∃ (Y : World) (ga gb : Nat), Y = (y13.alloc (.cells #[.slice none 0 0, .int .i64 0, .slice none 0 0, .int .i64 0] 33)) ∧ ga = y13.heap.size ∧ gb = y1.heap.size ∧ Hid (w2.grownBy Y none ∧ Held4 Y ga (.slice none 0 0) (.int .i64 0) (.slice none 0 0) (.int .i64 0) ∧ Held4 Y gb (.slice none 0 0) (.int .i64 0) (.slice none 0 0) (.int .i64 0) ∧ (∃ b, Y.ownsRow b 40 1 (.slice va m vc) m (rowOf (D ++ D.drop p))) ∧ (∃ b, Y.ownsRow b 40 1 (.slice vb (k + 1) vd) (k + 1) (rowOf (D ++ [D.getD p ([], none, 0)]))) ∧ ga ≠ gb ∧ w2.heap.size ≤ ga ∧ w2.heap.size ≤ gb ∧ (∀ x, (Value.slice va m vc).ownBlock = some x → x ≠ ga ∧ x ≠ gb) ∧ (∀ x, (Value.slice vb (k + 1) vd).ownBlock = some x → x ≠ ga ∧ x ≠ gb)) := ⟨_, _, _, rfl, rfl, rfl, Lib.hid ⟨HGq14.out, HA14.out, HB14.out, ⟨_, HRA14.out⟩, ⟨_, HRB14.out⟩, (by have := HZ1.out; have := HZ13.out; omega), (by have := HZ1.out; have := HZ13.out; omega), (by have := HZ1.out; have := HZ13.out; omega), (fun x hx => by have := HZ1.out; have := HZ13.out; have := HKA.out x hx; omega), (fun x hx => by have := HZ1.out; have := HZ13.out; have := HKB.out x hx; omega)⟩⟩
          obtain ⟨Y, ga, gb, hY, hga, hgb, HF⟩ := FIN
          rw [← hga]
          rw [← hgb]
          rw [← hY]
          clear hY hga hgb
          clear hHeld
          obtain ⟨hY, kA, kB, ⟨bA, rA⟩, ⟨bB, rB⟩, hab, hga2, hgb2, nA, nB⟩ := HF.out
          obtain ⟨⟨a0, a1, a2, a3⟩, af⟩ := kA
          have af0 := af 0
          have af1 := af 1
          have af2 := af 2
          have af3 := af 3
          clear af
          have hHeld := HS.out _ hY
          refine wpAnyH_ready (rs := [6]) (by kernel_rfl) (by simp) ?_
          refine AllReadyH.cons (o := { dst := none, op := Op.store 33 (Operand.tmp 4) (Operand.tmp 25), type := 0, pos := "law.go:107", after := #[{ on := 4, ground := Ground.data }, { on := 1, ground := Ground.data }, { on := 3, ground := Ground.chain }, { on := 0, ground := Ground.phase }, { on := 1, ground := Ground.phase }, { on := 2, ground := Ground.textOnly Departure.lateStores }, { on := 3, ground := Ground.textOnly Departure.lateStoresUnsure }, { on := 4, ground := Ground.phase }, { on := 5, ground := Ground.phase }], guard := none }) rfl (fun K hK => ?_) AllReadyH.nil
          go_simp
          obtain ⟨p0, p1, p2, p3, pg⟩ := four_sets (.slice sa n sc) (.int .i64 m) (.slice va m vc) (.int .i64 p) a0 a1 a2 a3
          have hX1 := grown_own hY pg (fun x hx => by cases hx; exact hga2)
          refine hK.out _ _ (HS.out _ hX1) (fun hHeld => ?_)
          clear hK K
          try simp only [Act.put, List.setIfInBounds_toArray, List.set_cons_zero, List.set_cons_succ]
          have kB1 := kB.off pg (fun x hx => by cases hx; exact hab)
          have rA1 := rA.kept pg (own_off (fun x hx => (nA x hx).1))
          have rB1 := rB.kept pg (own_off (fun x hx => (nB x hx).1))
          obtain ⟨X1, hXe⟩ : ∃ X1, ((((Y.setCell ⟨ga, 0, none⟩ (.slice sa n sc)).setCell ⟨ga, 1, none⟩ (.int .i64 m)).setCell ⟨ga, 2, none⟩ (.slice va m vc)).setCell ⟨ga, 3, none⟩ (.int .i64 p)) = X1 := ⟨_, rfl⟩
          rw [hXe] at p0 p1 p2 p3 hX1 kB1 rA1 rB1 hHeld ⊢
          clear hXe pg a0 a1 a2 a3 af0 af1 af2 af3 kB rA rB
          obtain ⟨⟨b0, b1, b2, b3⟩, bf⟩ := kB1
          have bf0 := bf 0
          have bf1 := bf 1
          have bf2 := bf 2
          have bf3 := bf 3
          clear bf
          refine wpAnyH_ready (rs := [7]) (by kernel_rfl) (by simp) ?_
          refine AllReadyH.cons (o := { dst := none, op := Op.store 33 (Operand.tmp 5) (Operand.tmp 27), type := 0, pos := "law.go:107", after := #[{ on := 5, ground := Ground.data }, { on := 3, ground := Ground.data }, { on := 6, ground := Ground.chain }, { on := 0, ground := Ground.phase }, { on := 1, ground := Ground.phase }, { on := 2, ground := Ground.phase }, { on := 3, ground := Ground.phase }, { on := 4, ground := Ground.phase }, { on := 5, ground := Ground.phase }, { on := 6, ground := Ground.phase }], guard := none }) rfl (fun K hK => ?_) AllReadyH.nil
          go_simp
          obtain ⟨q0, q1, q2, q3, qg⟩ := four_sets (.slice sa n sc) (.int .i64 ((k : Int) + 1)) (.slice vb (k + 1) vd) (.int .i64 ((p : Int) + 1)) b0 b1 b2 b3
          have hX2 := grown_own hX1 qg (fun x hx => by cases hx; exact hgb2)
          refine hK.out _ _ (HS.out _ hX2) (fun hHeld => ?_)
          clear hK K
          try simp only [Act.put, List.setIfInBounds_toArray, List.set_cons_zero, List.set_cons_succ]
          have ne : (some ga : Option Nat) ≠ some gb := fun e => by injection e with e; exact hab e
          have HA := Lib.hid (And.intro (qg.cell p0 ne) (And.intro (qg.cell p1 ne) (And.intro (qg.cell p2 ne) (qg.cell p3 ne))))
          have rA2 := rA1.kept qg (own_off (fun x hx => (nA x hx).2))
          have rB2 := rB1.kept qg (own_off (fun x hx => (nB x hx).2))
          have HBq := Lib.hid (And.intro q0 (And.intro q1 (And.intro q2 q3)))
          have HR := Lib.hid (And.intro rA2 rB2)
          have HXX := Lib.hid hX2
          obtain ⟨X2, hXe⟩ : ∃ X2, ((((X1.setCell ⟨gb, 0, none⟩ (.slice sa n sc)).setCell ⟨gb, 1, none⟩ (.int .i64 ((k : Int) + 1))).setCell ⟨gb, 2, none⟩ (.slice vb (k + 1) vd)).setCell ⟨gb, 3, none⟩ (.int .i64 ((p : Int) + 1))) = X2 := ⟨_, rfl⟩
          rw [hXe] at HA HBq HR HXX hHeld ⊢
          clear hXe qg b0 b1 b2 b3 bf0 bf1 bf2 bf3 rA1 rB1 rA2 rB2 p0 p1 p2 p3 q0 q1 q2 q3 hX1 hX2 nA nB hY ne
          refine wpAnyH_done (by kernel_rfl) ?_ _
          clear hHeld HF
          have hX := HXX.out
          obtain ⟨-, c0, c1, c2, c3⟩ := HS.out X2 hX
          have hrel : ∀ d ∈ D, Rels X2 d.2.1 d.2.2 d.1 := fun d hd => (HD.out.2 d hd).grown hX
          have hDl : D.length = k := by rw [← HN.out.2.1, ← HD.out.1, List.length_map]
          obtain ⟨dp, hdp⟩ : ∃ d, D[p]? = some d := ⟨_, List.getElem?_eq_getElem (by omega)⟩
          have hgd : D.getD p ([], none, 0) = dp := by rw [List.getD_eq_getElem?_getD, hdp]; rfl
          have hld : L.getD p [] = dp.1 := by rw [← HD.out.1, List.getD_eq_getElem?_getD, List.getElem?_map, hdp]; rfl
          obtain ⟨za, zc, hv, hsA⟩ := sts_of_row HR.out.1 (by rw [List.length_append, List.length_drop, hDl]; exact HM60.out.symm) (fun d hd => by
            rw [List.mem_append] at hd
            rcases hd with hd | hd
            · exact hrel d hd
            · exact hrel d (List.mem_of_mem_drop hd))
          injection hv with e1 _ e3
          subst e1 e3
          rw [List.map_append, List.map_drop, HD.out.1] at hsA
          obtain ⟨zb, zd, hv, hsB⟩ := sts_of_row HR.out.2 (by rw [List.length_append, hDl]; rfl) (fun d hd => by
            rw [List.mem_append, List.mem_singleton] at hd
            rcases hd with hd | rfl
            · exact hrel d hd
            · rw [hgd]; exact hrel dp (List.mem_of_getElem? hdp))
          injection hv with e1 _ e3
          subst e1 e3
          rw [List.map_append, HD.out.1, hgd, show List.map (fun x : Ds => x.1) [dp] = [L.getD p []] from by rw [hld]; rfl] at hsB
          have hsmA : ∀ r ∈ L ++ L.drop p, r.length ≤ 10 ∧ ∀ x ∈ r, x.2.length ≤ 200 := fun r hr => by
            rw [List.mem_append] at hr
            rcases hr with hr | hr
            · exact HF.out.2.2 r hr
            · exact HF.out.2.2 r (List.mem_of_mem_drop hr)
          have hsmB : ∀ r ∈ L ++ [L.getD p []], r.length ≤ 10 ∧ ∀ x ∈ r, x.2.length ≤ 200 := fun r hr => by
            rw [List.mem_append, List.mem_singleton] at hr
            rcases hr with hr | rfl
            · exact HF.out.2.2 r hr
            · exact HF.out.2.2 _ (by rw [hld]; have h := List.mem_map_of_mem (f := fun x : Ds => x.1) (List.mem_of_getElem? hdp); rw [HD.out.1] at h; exact h)
          have HAB := Lib.hid (And.intro hsA (And.intro hsB (And.intro hsmA hsmB))); clear hsA hsB hsmA hsmB hrel hdp hgd hld
          have HUV := Lib.hid (fun (W' : World) (g : X2.grownBy W' none) => And.intro (HN.out.2.2.1.grown (HG.out.trans (HG2.out.trans (hX.trans g)))).weak (HN.out.2.2.2.grown (HG.out.trans (HG2.out.trans (hX.trans g)))))
          have hpL := HP.out
          have hkL := HN.out.2.1
          have hlb : (L ++ [L.getD p []]).length = k + 1 := by rw [List.length_append, hkL]; rfl
          have HC1 := Lib.hid (fun (W' : World) (g : X2.grownBy W' none) => short_same (st := st) (HUV.out W' g).1 (HUV.out W' g).2 HN.out.1 hkL hn10 hk64 (by omega) hpL HF.out.2.2 (fun _ => rfl) rfl HMN.out.1 HMN.out.2.1 HMN.out.2.2.1)
          have HC2 := Lib.hid (fun (W' : World) (g : X2.grownBy W' none) => same_true (st := st) (st' := m) (HUV.out W' g).1 (HUV.out W' g).1 (HUV.out W' g).2 (HAB.out.1.grown g) HN.out.1 hkL HM.out hn10 hk64 (by omega) (by omega) (by omega) HF.out.2.2 (fun t => (trL_repeat hpL t).symm) rfl rfl)
          have HC3 := Lib.hid (fun (W' : World) (g : X2.grownBy W' none) => same_true (lp' := (p : Int) + 1) (st := st) (st' := (k : Int) + 1) (HUV.out W' g).1 (HUV.out W' g).1 (HUV.out W' g).2 (HAB.out.2.1.grown g) HN.out.1 hkL hlb hn10 hk64 (by omega) (by omega) (by omega) HF.out.2.2 (fun t => (trL_shift hpL t).symm) rfl (by omega))
          have HC4 := Lib.hid (fun (W' : World) (g : X2.grownBy W' none) => same_true (lp' := (p : Int) + 1) (st := m) (st' := (k : Int) + 1) (HUV.out W' g).1 (HUV.out W' g).1 (HAB.out.1.grown g) (HAB.out.2.1.grown g) HN.out.1 HM.out hlb hn10 (by omega) (by omega) (by omega) (by omega) HAB.out.2.2.1 (fun t => (trL_repeat hpL t).trans (trL_shift hpL t).symm) rfl (by omega))
          have HC5 := Lib.hid (fun (W' : World) (g : X2.grownBy W' none) => short_same (st := m) (HUV.out W' g).1 (HAB.out.1.grown g) HN.out.1 HM.out hn10 (by omega) (by omega) hpL HAB.out.2.2.1 (trL_repeat hpL) rfl HMN.out.1 HMN.out.2.1 HMN.out.2.2.1)
          have HC6 := Lib.hid (fun (W' : World) (g : X2.grownBy W' none) => short_same (lp := (p : Int) + 1) (st := (k : Int) + 1) (HUV.out W' g).1 (HAB.out.2.1.grown g) HN.out.1 hlb hn10 (by omega) (by omega) hpL HAB.out.2.2.2 (trL_shift hpL) (by omega) HMN.out.1 HMN.out.2.1 HMN.out.2.2.1)
          have HC7 := Lib.hid (fun (x z x' z' : Option Addr) (c d c' d' : Nat) (W' : World) (hx : Ints W' x c us) (hz : Sts W' z d M) (hx' : Ints W' x' c' us) (hz' : Sts W' z' d' M) => req_true (st := (N : Int)) (lp := (l : Int)) hx.weak hx'.weak hz hz' HN.out.1 HMN.out.2.2.1 hn10 hN64 HMN.out.2.2.2)
          clear hpL hkL hlb
          go_wp2_with fail
          refine (HC1.out X2 (grown_refl _ _)).mono ?_
          rintro e X3 ⟨ma, mc, mb, md, rfl, hms, g3⟩
          have HX3 := Lib.hid g3; clear g3 c0 c1 c2 c3
          have hgs := World.grownBy_alloc X3 (.cells #[.slice ma n mc, .int .i64 N, .slice mb N md, .int .i64 l] 33) none
          have hcs := four_cells X3 (.slice ma n mc) (.int .i64 N) (.slice mb N md) (.int .i64 l) 33
          obtain ⟨V, hV⟩ : ∃ V, X3.alloc (.cells #[.slice ma n mc, .int .i64 N, .slice mb N md, .int .i64 l] 33) = V := ⟨_, rfl⟩
          rw [hV] at hgs hcs
          have hXV := HX3.out.trans hgs
          have HMV := Lib.hid (fun (W' : World) (g : V.grownBy W' none) => And.intro (hms.1.grown (hgs.trans g)) (hms.2.grown (hgs.trans g)))
          have HVV := Lib.hid hV; clear hV
          go_wp2_with fail
          rw [HVV.out]
          clear HVV
          obtain ⟨-, c0, c1, c2, c3⟩ := HS.out V (hX.trans hXV)
          have a0 := hXV.cell HA.out.1 (by simp)
          have a1 := hXV.cell HA.out.2.1 (by simp)
          have a2 := hXV.cell HA.out.2.2.1 (by simp)
          have a3 := hXV.cell HA.out.2.2.2 (by simp)
          have b0 := hXV.cell HBq.out.1 (by simp)
          have b1 := hXV.cell HBq.out.2.1 (by simp)
          have b2 := hXV.cell HBq.out.2.2.1 (by simp)
          have b3 := hXV.cell HBq.out.2.2.2 (by simp)
          obtain ⟨s0, s1, s2, s3⟩ := hcs
          have HXV := Lib.hid hXV; clear hXV hgs hms
          go_region_held3 (fun w' : World => V.grownBy w' none ∧ w'.cell? ⟨w.heap.size, 0, none⟩ = some (.slice sa n sc) ∧ w'.cell? ⟨w.heap.size, 1, none⟩ = some (.int .i64 st) ∧ w'.cell? ⟨w.heap.size, 2, none⟩ = some (.slice (some ⟨tb, to, none⟩) k tc) ∧ w'.cell? ⟨w.heap.size, 3, none⟩ = some (.int .i64 p) ∧ w'.cell? ⟨ga, 0, none⟩ = some (.slice sa n sc) ∧ w'.cell? ⟨ga, 1, none⟩ = some (.int .i64 m) ∧ w'.cell? ⟨ga, 2, none⟩ = some (.slice va m vc) ∧ w'.cell? ⟨ga, 3, none⟩ = some (.int .i64 p) ∧ w'.cell? ⟨gb, 0, none⟩ = some (.slice sa n sc) ∧ w'.cell? ⟨gb, 1, none⟩ = some (.int .i64 ((k : Int) + 1)) ∧ w'.cell? ⟨gb, 2, none⟩ = some (.slice vb (k + 1) vd) ∧ w'.cell? ⟨gb, 3, none⟩ = some (.int .i64 ((p : Int) + 1)) ∧ w'.cell? ⟨X3.heap.size, 0, none⟩ = some (.slice ma n mc) ∧ w'.cell? ⟨X3.heap.size, 1, none⟩ = some (.int .i64 N) ∧ w'.cell? ⟨X3.heap.size, 2, none⟩ = some (.slice mb N md) ∧ w'.cell? ⟨X3.heap.size, 3, none⟩ = some (.int .i64 l))
            (first | exact ⟨⟨rfl, rfl, rfl, Nat.le_refl _, fun _ _ _ => rfl⟩, c0, c1, c2, c3, a0, a1, a2, a3, b0, b1, b2, b3, s0, s1, s2, s3⟩ | (go_split_ands; exact held_next16 g3 (by assumption) (by assumption) (by assumption) (by assumption) (by assumption) (by assumption) (by assumption) (by assumption) (by assumption) (by assumption) (by assumption) (by assumption) (by assumption) (by assumption) (by assumption) (by assumption) (by assumption)) | assumption | fail)
            (first | (go_at_call 28; with_reducible refine (HC2.out _ (HXV.out.trans ?_)).mono ?_; (go_split_ands; assumption); rintro e u1 ⟨rfl, g3⟩) | (go_at_call 28; with_reducible refine (HC3.out _ (HXV.out.trans ?_)).mono ?_; (go_split_ands; assumption); rintro e u2 ⟨rfl, g3⟩) | (go_at_call 28; with_reducible refine (HC4.out _ (HXV.out.trans ?_)).mono ?_; (go_split_ands; assumption); rintro e u3 ⟨rfl, g3⟩) | (go_at_call 30; with_reducible refine (HC5.out _ (HXV.out.trans ?_)).mono ?_; (go_split_ands; assumption); rintro e u4 ⟨x1, y1, x2, y2, rfl, hin, g3⟩; have hmv := HMV.out u4 (by go_split_ands; exact World.grownBy.trans (by assumption) g3)) | (go_at_call 30; with_reducible refine (HC6.out _ (HXV.out.trans ?_)).mono ?_; (go_split_ands; assumption); rintro e u6 ⟨x3, y3, x4, y4, rfl, hin2, g3⟩; have hmv2 := HMV.out u6 (by go_split_ands; exact World.grownBy.trans (by assumption) g3)) | (go_at_call 21; with_reducible refine (HC7.out _ _ _ _ _ _ _ _ _ hin.1 hin.2 hmv.1 hmv.2).mono ?_; rintro e u5 ⟨rfl, g3⟩) | (go_at_call 21; with_reducible refine (HC7.out _ _ _ _ _ _ _ _ _ hin2.1 hin2.2 hmv2.1 hmv2.2).mono ?_; rintro e u7 ⟨rfl, g3⟩) | fail)
          all_goals
            have h7 : V.grownBy u7 none := by go_split_ands; assumption
            have HE := Lib.hid (HG.out.trans (HG2.out.trans (hX.trans (HXV.out.trans h7)))); clear h7
            go_wp2_with fail
            go_ret
            exact ⟨rfl, HE.out⟩
      · go_simp
        have HGq15 := Lib.hid (HGq12.out.trans (World.grownBy_alloc (y1.alloc (.cells #[.slice none 0 0, .int .i64 0, .slice none 0 0, .int .i64 0] 33)) (.cells #[.slice none 0 0, .int .i64 0, .slice none 0 0, .int .i64 0] 33) none))
        have HB15 := Lib.hid (Held4.off HB12.out (World.grownBy_alloc (y1.alloc (.cells #[.slice none 0 0, .int .i64 0, .slice none 0 0, .int .i64 0] 33)) (.cells #[.slice none 0 0, .int .i64 0, .slice none 0 0, .int .i64 0] 33) none) (fun x e => by cases e))
        have HRA15 := Lib.hid (HRA12.out.alloc (.cells #[.slice none 0 0, .int .i64 0, .slice none 0 0, .int .i64 0] 33))
        have HA15 : Hid (Held4 ((y1.alloc (.cells #[.slice none 0 0, .int .i64 0, .slice none 0 0, .int .i64 0] 33)).alloc (.cells #[.slice none 0 0, .int .i64 0, .slice none 0 0, .int .i64 0] 33)) (y1.heap.size + 1) (.slice none 0 0) (.int .i64 0) (.slice none 0 0) (.int .i64 0)) := Lib.hid (by have h := held4_new (y1.alloc (.cells #[.slice none 0 0, .int .i64 0, .slice none 0 0, .int .i64 0] 33)); (try rw [World.size_alloc] at h); exact h)
        refine hK.out _ _ (HS.out _ HGq15.out) (fun hHeld => ?_)
        clear hK K
        try simp only [Act.put, List.setIfInBounds_toArray, List.set_cons_zero, List.set_cons_succ]
        refine wpAnyH_ready (rs := [3]) (by kernel_rfl) (by simp) ?_
        refine (AllReadyH.cons (o := { dst := some 27, op := Op.call { callee := Callee.value (Operand.func 33), args := #[Operand.tmp 26], argTypes := #[33] }, type := 33, pos := "law.go:107", after := #[{ on := 2, ground := Ground.data }, { on := 1, ground := Ground.chain }], guard := none }) rfl (fun K hK => ?_) AllReadyH.nil)
        · go_simp
          go_at_call 33
          refine (HSF.out _ HGq15.out).mono ?_
          rintro e y16 ⟨vb, vd, rfl, hr, g⟩
          have HGq16 := Lib.hid (HGq15.out.trans g)
          have HA16 := Lib.hid (Held4.off HA15.out g (fun x e => by cases e))
          have HB16 := Lib.hid (Held4.off HB15.out g (fun x e => by cases e))
          have HRA16 := Lib.hid (own_grown HRA15.out g)
          have HKB : Hid (∀ x, (Value.slice vb _ vd).ownBlock = some x → y1.heap.size + 1 + 1 + 1 + 1 + 1 ≤ x ∧ x < y16.heap.size) := Lib.hid (by have h := hr.lt; (try simp only [World.size_alloc] at h); exact h)
          have HRB16 := Lib.hid hr; clear hr
          have HZ16 : Hid (y1.heap.size + 1 + 1 ≤ y16.heap.size) := Lib.hid (by have h := g.size; (try simp only [World.size_alloc] at h); exact h)
          clear g
          go_wp2_with fail
          refine hK.out _ _ (HS.out _ HGq16.out) (fun hHeld => ?_)
          clear hK K
          try simp only [Act.put, List.setIfInBounds_toArray, List.set_cons_zero, List.set_cons_succ]
          have FIN : ∃ (Y : World) (ga gb : Nat), Y = y16 ∧ ga = y1.heap.size + 1 ∧ gb = y1.heap.size ∧ Hid (w2.grownBy Y none ∧ Held4 Y ga (.slice none 0 0) (.int .i64 0) (.slice none 0 0) (.int .i64 0) ∧ Held4 Y gb (.slice none 0 0) (.int .i64 0) (.slice none 0 0) (.int .i64 0) ∧ (∃ b, Y.ownsRow b 40 1 (.slice va m vc) m (rowOf (D ++ D.drop p))) ∧ (∃ b, Y.ownsRow b 40 1 (.slice vb (k + 1) vd) (k + 1) (rowOf (D ++ [D.getD p ([], none, 0)]))) ∧ ga ≠ gb ∧ w2.heap.size ≤ ga ∧ w2.heap.size ≤ gb ∧ (∀ x, (Value.slice va m vc).ownBlock = some x → x ≠ ga ∧ x ≠ gb) ∧ (∀ x, (Value.slice vb (k + 1) vd).ownBlock = some x → x ≠ ga ∧ x ≠ gb)) := ⟨_, _, _, rfl, rfl, rfl, Lib.hid ⟨HGq16.out, HA16.out, HB16.out, ⟨_, HRA16.out⟩, ⟨_, HRB16.out⟩, (by have := HZ1.out; have := HZ16.out; omega), (by have := HZ1.out; have := HZ16.out; omega), (by have := HZ1.out; have := HZ16.out; omega), (fun x hx => by have := HZ1.out; have := HZ16.out; have := HKA.out x hx; omega), (fun x hx => by have := HZ1.out; have := HZ16.out; have := HKB.out x hx; omega)⟩⟩
          obtain ⟨Y, ga, gb, hY, hga, hgb, HF⟩ := FIN
          rw [← hga]
          rw [← hgb]
          rw [← hY]
          clear hY hga hgb
          clear hHeld
          obtain ⟨hY, kA, kB, ⟨bA, rA⟩, ⟨bB, rB⟩, hab, hga2, hgb2, nA, nB⟩ := HF.out
          obtain ⟨⟨a0, a1, a2, a3⟩, af⟩ := kA
          have af0 := af 0
          have af1 := af 1
          have af2 := af 2
          have af3 := af 3
          clear af
          have hHeld := HS.out _ hY
          refine wpAnyH_ready (rs := [6]) (by kernel_rfl) (by simp) ?_
          refine AllReadyH.cons (o := { dst := none, op := Op.store 33 (Operand.tmp 4) (Operand.tmp 25), type := 0, pos := "law.go:107", after := #[{ on := 4, ground := Ground.data }, { on := 1, ground := Ground.data }, { on := 3, ground := Ground.chain }, { on := 0, ground := Ground.phase }, { on := 1, ground := Ground.phase }, { on := 2, ground := Ground.textOnly Departure.lateStores }, { on := 3, ground := Ground.textOnly Departure.lateStoresUnsure }, { on := 4, ground := Ground.phase }, { on := 5, ground := Ground.phase }], guard := none }) rfl (fun K hK => ?_) AllReadyH.nil
          go_simp
          obtain ⟨p0, p1, p2, p3, pg⟩ := four_sets (.slice sa n sc) (.int .i64 m) (.slice va m vc) (.int .i64 p) a0 a1 a2 a3
          have hX1 := grown_own hY pg (fun x hx => by cases hx; exact hga2)
          refine hK.out _ _ (HS.out _ hX1) (fun hHeld => ?_)
          clear hK K
          try simp only [Act.put, List.setIfInBounds_toArray, List.set_cons_zero, List.set_cons_succ]
          have kB1 := kB.off pg (fun x hx => by cases hx; exact hab)
          have rA1 := rA.kept pg (own_off (fun x hx => (nA x hx).1))
          have rB1 := rB.kept pg (own_off (fun x hx => (nB x hx).1))
          obtain ⟨X1, hXe⟩ : ∃ X1, ((((Y.setCell ⟨ga, 0, none⟩ (.slice sa n sc)).setCell ⟨ga, 1, none⟩ (.int .i64 m)).setCell ⟨ga, 2, none⟩ (.slice va m vc)).setCell ⟨ga, 3, none⟩ (.int .i64 p)) = X1 := ⟨_, rfl⟩
          rw [hXe] at p0 p1 p2 p3 hX1 kB1 rA1 rB1 hHeld ⊢
          clear hXe pg a0 a1 a2 a3 af0 af1 af2 af3 kB rA rB
          obtain ⟨⟨b0, b1, b2, b3⟩, bf⟩ := kB1
          have bf0 := bf 0
          have bf1 := bf 1
          have bf2 := bf 2
          have bf3 := bf 3
          clear bf
          refine wpAnyH_ready (rs := [7]) (by kernel_rfl) (by simp) ?_
          refine AllReadyH.cons (o := { dst := none, op := Op.store 33 (Operand.tmp 5) (Operand.tmp 27), type := 0, pos := "law.go:107", after := #[{ on := 5, ground := Ground.data }, { on := 3, ground := Ground.data }, { on := 6, ground := Ground.chain }, { on := 0, ground := Ground.phase }, { on := 1, ground := Ground.phase }, { on := 2, ground := Ground.phase }, { on := 3, ground := Ground.phase }, { on := 4, ground := Ground.phase }, { on := 5, ground := Ground.phase }, { on := 6, ground := Ground.phase }], guard := none }) rfl (fun K hK => ?_) AllReadyH.nil
          go_simp
          obtain ⟨q0, q1, q2, q3, qg⟩ := four_sets (.slice sa n sc) (.int .i64 ((k : Int) + 1)) (.slice vb (k + 1) vd) (.int .i64 ((p : Int) + 1)) b0 b1 b2 b3
          have hX2 := grown_own hX1 qg (fun x hx => by cases hx; exact hgb2)
          refine hK.out _ _ (HS.out _ hX2) (fun hHeld => ?_)
          clear hK K
          try simp only [Act.put, List.setIfInBounds_toArray, List.set_cons_zero, List.set_cons_succ]
          have ne : (some ga : Option Nat) ≠ some gb := fun e => by injection e with e; exact hab e
          have HA := Lib.hid (And.intro (qg.cell p0 ne) (And.intro (qg.cell p1 ne) (And.intro (qg.cell p2 ne) (qg.cell p3 ne))))
          have rA2 := rA1.kept qg (own_off (fun x hx => (nA x hx).2))
          have rB2 := rB1.kept qg (own_off (fun x hx => (nB x hx).2))
          have HBq := Lib.hid (And.intro q0 (And.intro q1 (And.intro q2 q3)))
          have HR := Lib.hid (And.intro rA2 rB2)
          have HXX := Lib.hid hX2
          obtain ⟨X2, hXe⟩ : ∃ X2, ((((X1.setCell ⟨gb, 0, none⟩ (.slice sa n sc)).setCell ⟨gb, 1, none⟩ (.int .i64 ((k : Int) + 1))).setCell ⟨gb, 2, none⟩ (.slice vb (k + 1) vd)).setCell ⟨gb, 3, none⟩ (.int .i64 ((p : Int) + 1))) = X2 := ⟨_, rfl⟩
          rw [hXe] at HA HBq HR HXX hHeld ⊢
          clear hXe qg b0 b1 b2 b3 bf0 bf1 bf2 bf3 rA1 rB1 rA2 rB2 p0 p1 p2 p3 q0 q1 q2 q3 hX1 hX2 nA nB hY ne
          refine wpAnyH_done (by kernel_rfl) ?_ _
          clear hHeld HF
          have hX := HXX.out
          obtain ⟨-, c0, c1, c2, c3⟩ := HS.out X2 hX
          have hrel : ∀ d ∈ D, Rels X2 d.2.1 d.2.2 d.1 := fun d hd => (HD.out.2 d hd).grown hX
          have hDl : D.length = k := by rw [← HN.out.2.1, ← HD.out.1, List.length_map]
          obtain ⟨dp, hdp⟩ : ∃ d, D[p]? = some d := ⟨_, List.getElem?_eq_getElem (by omega)⟩
          have hgd : D.getD p ([], none, 0) = dp := by rw [List.getD_eq_getElem?_getD, hdp]; rfl
          have hld : L.getD p [] = dp.1 := by rw [← HD.out.1, List.getD_eq_getElem?_getD, List.getElem?_map, hdp]; rfl
          obtain ⟨za, zc, hv, hsA⟩ := sts_of_row HR.out.1 (by rw [List.length_append, List.length_drop, hDl]; exact HM60.out.symm) (fun d hd => by
            rw [List.mem_append] at hd
            rcases hd with hd | hd
            · exact hrel d hd
            · exact hrel d (List.mem_of_mem_drop hd))
          injection hv with e1 _ e3
          subst e1 e3
          rw [List.map_append, List.map_drop, HD.out.1] at hsA
          obtain ⟨zb, zd, hv, hsB⟩ := sts_of_row HR.out.2 (by rw [List.length_append, hDl]; rfl) (fun d hd => by
            rw [List.mem_append, List.mem_singleton] at hd
            rcases hd with hd | rfl
            · exact hrel d hd
            · rw [hgd]; exact hrel dp (List.mem_of_getElem? hdp))
          injection hv with e1 _ e3
          subst e1 e3
          rw [List.map_append, HD.out.1, hgd, show List.map (fun x : Ds => x.1) [dp] = [L.getD p []] from by rw [hld]; rfl] at hsB
          have hsmA : ∀ r ∈ L ++ L.drop p, r.length ≤ 10 ∧ ∀ x ∈ r, x.2.length ≤ 200 := fun r hr => by
            rw [List.mem_append] at hr
            rcases hr with hr | hr
            · exact HF.out.2.2 r hr
            · exact HF.out.2.2 r (List.mem_of_mem_drop hr)
          have hsmB : ∀ r ∈ L ++ [L.getD p []], r.length ≤ 10 ∧ ∀ x ∈ r, x.2.length ≤ 200 := fun r hr => by
            rw [List.mem_append, List.mem_singleton] at hr
            rcases hr with hr | rfl
            · exact HF.out.2.2 r hr
            · exact HF.out.2.2 _ (by rw [hld]; have h := List.mem_map_of_mem (f := fun x : Ds => x.1) (List.mem_of_getElem? hdp); rw [HD.out.1] at h; exact h)
          have HAB := Lib.hid (And.intro hsA (And.intro hsB (And.intro hsmA hsmB))); clear hsA hsB hsmA hsmB hrel hdp hgd hld
          have HUV := Lib.hid (fun (W' : World) (g : X2.grownBy W' none) => And.intro (HN.out.2.2.1.grown (HG.out.trans (HG2.out.trans (hX.trans g)))).weak (HN.out.2.2.2.grown (HG.out.trans (HG2.out.trans (hX.trans g)))))
          have hpL := HP.out
          have hkL := HN.out.2.1
          have hlb : (L ++ [L.getD p []]).length = k + 1 := by rw [List.length_append, hkL]; rfl
          have HC1 := Lib.hid (fun (W' : World) (g : X2.grownBy W' none) => short_same (st := st) (HUV.out W' g).1 (HUV.out W' g).2 HN.out.1 hkL hn10 hk64 (by omega) hpL HF.out.2.2 (fun _ => rfl) rfl HMN.out.1 HMN.out.2.1 HMN.out.2.2.1)
          have HC2 := Lib.hid (fun (W' : World) (g : X2.grownBy W' none) => same_true (st := st) (st' := m) (HUV.out W' g).1 (HUV.out W' g).1 (HUV.out W' g).2 (HAB.out.1.grown g) HN.out.1 hkL HM.out hn10 hk64 (by omega) (by omega) (by omega) HF.out.2.2 (fun t => (trL_repeat hpL t).symm) rfl rfl)
          have HC3 := Lib.hid (fun (W' : World) (g : X2.grownBy W' none) => same_true (lp' := (p : Int) + 1) (st := st) (st' := (k : Int) + 1) (HUV.out W' g).1 (HUV.out W' g).1 (HUV.out W' g).2 (HAB.out.2.1.grown g) HN.out.1 hkL hlb hn10 hk64 (by omega) (by omega) (by omega) HF.out.2.2 (fun t => (trL_shift hpL t).symm) rfl (by omega))
          have HC4 := Lib.hid (fun (W' : World) (g : X2.grownBy W' none) => same_true (lp' := (p : Int) + 1) (st := m) (st' := (k : Int) + 1) (HUV.out W' g).1 (HUV.out W' g).1 (HAB.out.1.grown g) (HAB.out.2.1.grown g) HN.out.1 HM.out hlb hn10 (by omega) (by omega) (by omega) (by omega) HAB.out.2.2.1 (fun t => (trL_repeat hpL t).trans (trL_shift hpL t).symm) rfl (by omega))
          have HC5 := Lib.hid (fun (W' : World) (g : X2.grownBy W' none) => short_same (st := m) (HUV.out W' g).1 (HAB.out.1.grown g) HN.out.1 HM.out hn10 (by omega) (by omega) hpL HAB.out.2.2.1 (trL_repeat hpL) rfl HMN.out.1 HMN.out.2.1 HMN.out.2.2.1)
          have HC6 := Lib.hid (fun (W' : World) (g : X2.grownBy W' none) => short_same (lp := (p : Int) + 1) (st := (k : Int) + 1) (HUV.out W' g).1 (HAB.out.2.1.grown g) HN.out.1 hlb hn10 (by omega) (by omega) hpL HAB.out.2.2.2 (trL_shift hpL) (by omega) HMN.out.1 HMN.out.2.1 HMN.out.2.2.1)
          have HC7 := Lib.hid (fun (x z x' z' : Option Addr) (c d c' d' : Nat) (W' : World) (hx : Ints W' x c us) (hz : Sts W' z d M) (hx' : Ints W' x' c' us) (hz' : Sts W' z' d' M) => req_true (st := (N : Int)) (lp := (l : Int)) hx.weak hx'.weak hz hz' HN.out.1 HMN.out.2.2.1 hn10 hN64 HMN.out.2.2.2)
          clear hpL hkL hlb
          go_wp2_with fail
          refine (HC1.out X2 (grown_refl _ _)).mono ?_
          rintro e X3 ⟨ma, mc, mb, md, rfl, hms, g3⟩
          have HX3 := Lib.hid g3; clear g3 c0 c1 c2 c3
          have hgs := World.grownBy_alloc X3 (.cells #[.slice ma n mc, .int .i64 N, .slice mb N md, .int .i64 l] 33) none
          have hcs := four_cells X3 (.slice ma n mc) (.int .i64 N) (.slice mb N md) (.int .i64 l) 33
          obtain ⟨V, hV⟩ : ∃ V, X3.alloc (.cells #[.slice ma n mc, .int .i64 N, .slice mb N md, .int .i64 l] 33) = V := ⟨_, rfl⟩
          rw [hV] at hgs hcs
          have hXV := HX3.out.trans hgs
          have HMV := Lib.hid (fun (W' : World) (g : V.grownBy W' none) => And.intro (hms.1.grown (hgs.trans g)) (hms.2.grown (hgs.trans g)))
          have HVV := Lib.hid hV; clear hV
          go_wp2_with fail
          rw [HVV.out]
          clear HVV
          obtain ⟨-, c0, c1, c2, c3⟩ := HS.out V (hX.trans hXV)
          have a0 := hXV.cell HA.out.1 (by simp)
          have a1 := hXV.cell HA.out.2.1 (by simp)
          have a2 := hXV.cell HA.out.2.2.1 (by simp)
          have a3 := hXV.cell HA.out.2.2.2 (by simp)
          have b0 := hXV.cell HBq.out.1 (by simp)
          have b1 := hXV.cell HBq.out.2.1 (by simp)
          have b2 := hXV.cell HBq.out.2.2.1 (by simp)
          have b3 := hXV.cell HBq.out.2.2.2 (by simp)
          obtain ⟨s0, s1, s2, s3⟩ := hcs
          have HXV := Lib.hid hXV; clear hXV hgs hms
          go_region_held3 (fun w' : World => V.grownBy w' none ∧ w'.cell? ⟨w.heap.size, 0, none⟩ = some (.slice sa n sc) ∧ w'.cell? ⟨w.heap.size, 1, none⟩ = some (.int .i64 st) ∧ w'.cell? ⟨w.heap.size, 2, none⟩ = some (.slice (some ⟨tb, to, none⟩) k tc) ∧ w'.cell? ⟨w.heap.size, 3, none⟩ = some (.int .i64 p) ∧ w'.cell? ⟨ga, 0, none⟩ = some (.slice sa n sc) ∧ w'.cell? ⟨ga, 1, none⟩ = some (.int .i64 m) ∧ w'.cell? ⟨ga, 2, none⟩ = some (.slice va m vc) ∧ w'.cell? ⟨ga, 3, none⟩ = some (.int .i64 p) ∧ w'.cell? ⟨gb, 0, none⟩ = some (.slice sa n sc) ∧ w'.cell? ⟨gb, 1, none⟩ = some (.int .i64 ((k : Int) + 1)) ∧ w'.cell? ⟨gb, 2, none⟩ = some (.slice vb (k + 1) vd) ∧ w'.cell? ⟨gb, 3, none⟩ = some (.int .i64 ((p : Int) + 1)) ∧ w'.cell? ⟨X3.heap.size, 0, none⟩ = some (.slice ma n mc) ∧ w'.cell? ⟨X3.heap.size, 1, none⟩ = some (.int .i64 N) ∧ w'.cell? ⟨X3.heap.size, 2, none⟩ = some (.slice mb N md) ∧ w'.cell? ⟨X3.heap.size, 3, none⟩ = some (.int .i64 l))
            (first | exact ⟨⟨rfl, rfl, rfl, Nat.le_refl _, fun _ _ _ => rfl⟩, c0, c1, c2, c3, a0, a1, a2, a3, b0, b1, b2, b3, s0, s1, s2, s3⟩ | (go_split_ands; exact held_next16 g3 (by assumption) (by assumption) (by assumption) (by assumption) (by assumption) (by assumption) (by assumption) (by assumption) (by assumption) (by assumption) (by assumption) (by assumption) (by assumption) (by assumption) (by assumption) (by assumption) (by assumption)) | assumption | fail)
            (first | (go_at_call 28; with_reducible refine (HC2.out _ (HXV.out.trans ?_)).mono ?_; (go_split_ands; assumption); rintro e u1 ⟨rfl, g3⟩) | (go_at_call 28; with_reducible refine (HC3.out _ (HXV.out.trans ?_)).mono ?_; (go_split_ands; assumption); rintro e u2 ⟨rfl, g3⟩) | (go_at_call 28; with_reducible refine (HC4.out _ (HXV.out.trans ?_)).mono ?_; (go_split_ands; assumption); rintro e u3 ⟨rfl, g3⟩) | (go_at_call 30; with_reducible refine (HC5.out _ (HXV.out.trans ?_)).mono ?_; (go_split_ands; assumption); rintro e u4 ⟨x1, y1, x2, y2, rfl, hin, g3⟩; have hmv := HMV.out u4 (by go_split_ands; exact World.grownBy.trans (by assumption) g3)) | (go_at_call 30; with_reducible refine (HC6.out _ (HXV.out.trans ?_)).mono ?_; (go_split_ands; assumption); rintro e u6 ⟨x3, y3, x4, y4, rfl, hin2, g3⟩; have hmv2 := HMV.out u6 (by go_split_ands; exact World.grownBy.trans (by assumption) g3)) | (go_at_call 21; with_reducible refine (HC7.out _ _ _ _ _ _ _ _ _ hin.1 hin.2 hmv.1 hmv.2).mono ?_; rintro e u5 ⟨rfl, g3⟩) | (go_at_call 21; with_reducible refine (HC7.out _ _ _ _ _ _ _ _ _ hin2.1 hin2.2 hmv2.1 hmv2.2).mono ?_; rintro e u7 ⟨rfl, g3⟩) | fail)
          all_goals
            have h7 : V.grownBy u7 none := by go_split_ands; assumption
            have HE := Lib.hid (HG.out.trans (HG2.out.trans (hX.trans (HXV.out.trans h7)))); clear h7
            go_wp2_with fail
            go_ret
            exact ⟨rfl, HE.out⟩
  · go_simp
    have HGq17 := Lib.hid (HGq00.out.trans (World.grownBy_alloc w2.drew (.cells #[.slice none 0 0, .int .i64 0, .slice none 0 0, .int .i64 0] 33) none))
    have HA17 : Hid (Held4 (w2.drew.alloc (.cells #[.slice none 0 0, .int .i64 0, .slice none 0 0, .int .i64 0] 33)) (w2.heap.size) (.slice none 0 0) (.int .i64 0) (.slice none 0 0) (.int .i64 0)) := Lib.hid (by have h := held4_new w2.drew; (try rw [World.size_alloc] at h); exact h)
    refine hK.out _ _ (HS.out _ HGq17.out) (fun hHeld => ?_)
    clear hK K
    try simp only [Act.put, List.setIfInBounds_toArray, List.set_cons_zero, List.set_cons_succ]
    refine wpAnyH_ready (rs := [1, 5]) (by kernel_rfl) (by simp) ?_
    refine (AllReadyH.cons (o := { dst := some 25, op := Op.call { callee := Callee.value (Operand.func 32), args := #[Operand.tmp 24], argTypes := #[33] }, type := 33, pos := "law.go:107", after := #[{ on := 0, ground := Ground.data }], guard := none }) rfl (fun K hK => ?_) (AllReadyH.cons (o := { dst := some 5, op := Op.alloc 33, type := 0, pos := "law.go:107", after := #[], guard := none }) rfl (fun K hK => ?_) AllReadyH.nil))
    · go_simp
      go_at_call 32
      refine (HRP.out _ HGq17.out).mono ?_
      rintro e y18 ⟨va, vc, rfl, hr, g⟩
      have HGq18 := Lib.hid (HGq17.out.trans g)
      have HA18 := Lib.hid (Held4.off HA17.out g (fun x e => by cases e))
      have HKA : Hid (∀ x, (Value.slice va _ vc).ownBlock = some x → w2.heap.size + 1 + 1 + 1 + 1 ≤ x ∧ x < y18.heap.size) := Lib.hid (by have h := hr.lt; (try simp only [World.size_alloc] at h); exact h)
      have HRA18 := Lib.hid hr; clear hr
      have HZ18 : Hid (w2.heap.size + 1 ≤ y18.heap.size) := Lib.hid (by have h := g.size; (try simp only [World.size_alloc] at h); exact h)
      clear g
      go_wp2_with fail
      refine hK.out _ _ (HS.out _ HGq18.out) (fun hHeld => ?_)
      clear hK K
      try simp only [Act.put, List.setIfInBounds_toArray, List.set_cons_zero, List.set_cons_succ]
      refine wpAnyH_ready (rs := [3, 5]) (by kernel_rfl) (by simp) ?_
      refine (AllReadyH.cons (o := { dst := some 27, op := Op.call { callee := Callee.value (Operand.func 33), args := #[Operand.tmp 26], argTypes := #[33] }, type := 33, pos := "law.go:107", after := #[{ on := 2, ground := Ground.data }, { on := 1, ground := Ground.chain }], guard := none }) rfl (fun K hK => ?_) (AllReadyH.cons (o := { dst := some 5, op := Op.alloc 33, type := 0, pos := "law.go:107", after := #[], guard := none }) rfl (fun K hK => ?_) AllReadyH.nil))
      · go_simp
        go_at_call 33
        refine (HSF.out _ HGq18.out).mono ?_
        rintro e y19 ⟨vb, vd, rfl, hr, g⟩
        have HGq19 := Lib.hid (HGq18.out.trans g)
        have HA19 := Lib.hid (Held4.off HA18.out g (fun x e => by cases e))
        have HRA19 := Lib.hid (own_grown HRA18.out g)
        have HKB : Hid (∀ x, (Value.slice vb _ vd).ownBlock = some x → y18.heap.size + 1 + 1 + 1 ≤ x ∧ x < y19.heap.size) := Lib.hid (by have h := hr.lt; (try simp only [World.size_alloc] at h); exact h)
        have HRB19 := Lib.hid hr; clear hr
        have HZ19 : Hid (y18.heap.size ≤ y19.heap.size) := Lib.hid (by have h := g.size; (try simp only [World.size_alloc] at h); exact h)
        clear g
        go_wp2_with fail
        refine hK.out _ _ (HS.out _ HGq19.out) (fun hHeld => ?_)
        clear hK K
        try simp only [Act.put, List.setIfInBounds_toArray, List.set_cons_zero, List.set_cons_succ]
        refine wpAnyH_ready (rs := [5]) (by kernel_rfl) (by simp) ?_
        refine (AllReadyH.cons (o := { dst := some 5, op := Op.alloc 33, type := 0, pos := "law.go:107", after := #[], guard := none }) rfl (fun K hK => ?_) AllReadyH.nil)
        · go_simp
          have HGq20 := Lib.hid (HGq19.out.trans (World.grownBy_alloc y19 (.cells #[.slice none 0 0, .int .i64 0, .slice none 0 0, .int .i64 0] 33) none))
          have HA20 := Lib.hid (Held4.off HA19.out (World.grownBy_alloc y19 (.cells #[.slice none 0 0, .int .i64 0, .slice none 0 0, .int .i64 0] 33) none) (fun x e => by cases e))
          have HRA20 := Lib.hid (HRA19.out.alloc (.cells #[.slice none 0 0, .int .i64 0, .slice none 0 0, .int .i64 0] 33))
          have HRB20 := Lib.hid (HRB19.out.alloc (.cells #[.slice none 0 0, .int .i64 0, .slice none 0 0, .int .i64 0] 33))
          have HB20 : Hid (Held4 (y19.alloc (.cells #[.slice none 0 0, .int .i64 0, .slice none 0 0, .int .i64 0] 33)) (y19.heap.size) (.slice none 0 0) (.int .i64 0) (.slice none 0 0) (.int .i64 0)) := Lib.hid (by have h := held4_new y19; (try rw [World.size_alloc] at h); exact h)
          refine hK.out _ _ (HS.out _ HGq20.out) (fun hHeld => ?_)
          clear hK K
          try simp only [Act.put, List.setIfInBounds_toArray, List.set_cons_zero, List.set_cons_succ]
          have FIN : ∃ (Y : World) (ga gb : Nat), Y = (y19.alloc (.cells #[.slice none 0 0, .int .i64 0, .slice none 0 0, .int .i64 0] 33)) ∧ ga = w2.heap.size ∧ gb = y19.heap.size ∧ Hid (w2.grownBy Y none ∧ Held4 Y ga (.slice none 0 0) (.int .i64 0) (.slice none 0 0) (.int .i64 0) ∧ Held4 Y gb (.slice none 0 0) (.int .i64 0) (.slice none 0 0) (.int .i64 0) ∧ (∃ b, Y.ownsRow b 40 1 (.slice va m vc) m (rowOf (D ++ D.drop p))) ∧ (∃ b, Y.ownsRow b 40 1 (.slice vb (k + 1) vd) (k + 1) (rowOf (D ++ [D.getD p ([], none, 0)]))) ∧ ga ≠ gb ∧ w2.heap.size ≤ ga ∧ w2.heap.size ≤ gb ∧ (∀ x, (Value.slice va m vc).ownBlock = some x → x ≠ ga ∧ x ≠ gb) ∧ (∀ x, (Value.slice vb (k + 1) vd).ownBlock = some x → x ≠ ga ∧ x ≠ gb)) := ⟨_, _, _, rfl, rfl, rfl, Lib.hid ⟨HGq20.out, HA20.out, HB20.out, ⟨_, HRA20.out⟩, ⟨_, HRB20.out⟩, (by have := HZ18.out; have := HZ19.out; omega), (by have := HZ18.out; have := HZ19.out; omega), (by have := HZ18.out; have := HZ19.out; omega), (fun x hx => by have := HZ18.out; have := HZ19.out; have := HKA.out x hx; omega), (fun x hx => by have := HZ18.out; have := HZ19.out; have := HKB.out x hx; omega)⟩⟩
          obtain ⟨Y, ga, gb, hY, hga, hgb, HF⟩ := FIN
          rw [← hga]
          rw [← hgb]
          rw [← hY]
          clear hY hga hgb
          clear hHeld
          obtain ⟨hY, kA, kB, ⟨bA, rA⟩, ⟨bB, rB⟩, hab, hga2, hgb2, nA, nB⟩ := HF.out
          obtain ⟨⟨a0, a1, a2, a3⟩, af⟩ := kA
          have af0 := af 0
          have af1 := af 1
          have af2 := af 2
          have af3 := af 3
          clear af
          have hHeld := HS.out _ hY
          refine wpAnyH_ready (rs := [6]) (by kernel_rfl) (by simp) ?_
          refine AllReadyH.cons (o := { dst := none, op := Op.store 33 (Operand.tmp 4) (Operand.tmp 25), type := 0, pos := "law.go:107", after := #[{ on := 4, ground := Ground.data }, { on := 1, ground := Ground.data }, { on := 3, ground := Ground.chain }, { on := 0, ground := Ground.phase }, { on := 1, ground := Ground.phase }, { on := 2, ground := Ground.textOnly Departure.lateStores }, { on := 3, ground := Ground.textOnly Departure.lateStoresUnsure }, { on := 4, ground := Ground.phase }, { on := 5, ground := Ground.phase }], guard := none }) rfl (fun K hK => ?_) AllReadyH.nil
          go_simp
          obtain ⟨p0, p1, p2, p3, pg⟩ := four_sets (.slice sa n sc) (.int .i64 m) (.slice va m vc) (.int .i64 p) a0 a1 a2 a3
          have hX1 := grown_own hY pg (fun x hx => by cases hx; exact hga2)
          refine hK.out _ _ (HS.out _ hX1) (fun hHeld => ?_)
          clear hK K
          try simp only [Act.put, List.setIfInBounds_toArray, List.set_cons_zero, List.set_cons_succ]
          have kB1 := kB.off pg (fun x hx => by cases hx; exact hab)
          have rA1 := rA.kept pg (own_off (fun x hx => (nA x hx).1))
          have rB1 := rB.kept pg (own_off (fun x hx => (nB x hx).1))
          obtain ⟨X1, hXe⟩ : ∃ X1, ((((Y.setCell ⟨ga, 0, none⟩ (.slice sa n sc)).setCell ⟨ga, 1, none⟩ (.int .i64 m)).setCell ⟨ga, 2, none⟩ (.slice va m vc)).setCell ⟨ga, 3, none⟩ (.int .i64 p)) = X1 := ⟨_, rfl⟩
          rw [hXe] at p0 p1 p2 p3 hX1 kB1 rA1 rB1 hHeld ⊢
          clear hXe pg a0 a1 a2 a3 af0 af1 af2 af3 kB rA rB
          obtain ⟨⟨b0, b1, b2, b3⟩, bf⟩ := kB1
          have bf0 := bf 0
          have bf1 := bf 1
          have bf2 := bf 2
          have bf3 := bf 3
          clear bf
          refine wpAnyH_ready (rs := [7]) (by kernel_rfl) (by simp) ?_
          refine AllReadyH.cons (o := { dst := none, op := Op.store 33 (Operand.tmp 5) (Operand.tmp 27), type := 0, pos := "law.go:107", after := #[{ on := 5, ground := Ground.data }, { on := 3, ground := Ground.data }, { on := 6, ground := Ground.chain }, { on := 0, ground := Ground.phase }, { on := 1, ground := Ground.phase }, { on := 2, ground := Ground.phase }, { on := 3, ground := Ground.phase }, { on := 4, ground := Ground.phase }, { on := 5, ground := Ground.phase }, { on := 6, ground := Ground.phase }], guard := none }) rfl (fun K hK => ?_) AllReadyH.nil
          go_simp
          obtain ⟨q0, q1, q2, q3, qg⟩ := four_sets (.slice sa n sc) (.int .i64 ((k : Int) + 1)) (.slice vb (k + 1) vd) (.int .i64 ((p : Int) + 1)) b0 b1 b2 b3
          have hX2 := grown_own hX1 qg (fun x hx => by cases hx; exact hgb2)
          refine hK.out _ _ (HS.out _ hX2) (fun hHeld => ?_)
          clear hK K
          try simp only [Act.put, List.setIfInBounds_toArray, List.set_cons_zero, List.set_cons_succ]
          have ne : (some ga : Option Nat) ≠ some gb := fun e => by injection e with e; exact hab e
          have HA := Lib.hid (And.intro (qg.cell p0 ne) (And.intro (qg.cell p1 ne) (And.intro (qg.cell p2 ne) (qg.cell p3 ne))))
          have rA2 := rA1.kept qg (own_off (fun x hx => (nA x hx).2))
          have rB2 := rB1.kept qg (own_off (fun x hx => (nB x hx).2))
          have HBq := Lib.hid (And.intro q0 (And.intro q1 (And.intro q2 q3)))
          have HR := Lib.hid (And.intro rA2 rB2)
          have HXX := Lib.hid hX2
          obtain ⟨X2, hXe⟩ : ∃ X2, ((((X1.setCell ⟨gb, 0, none⟩ (.slice sa n sc)).setCell ⟨gb, 1, none⟩ (.int .i64 ((k : Int) + 1))).setCell ⟨gb, 2, none⟩ (.slice vb (k + 1) vd)).setCell ⟨gb, 3, none⟩ (.int .i64 ((p : Int) + 1))) = X2 := ⟨_, rfl⟩
          rw [hXe] at HA HBq HR HXX hHeld ⊢
          clear hXe qg b0 b1 b2 b3 bf0 bf1 bf2 bf3 rA1 rB1 rA2 rB2 p0 p1 p2 p3 q0 q1 q2 q3 hX1 hX2 nA nB hY ne
          refine wpAnyH_done (by kernel_rfl) ?_ _
          clear hHeld HF
          have hX := HXX.out
          obtain ⟨-, c0, c1, c2, c3⟩ := HS.out X2 hX
          have hrel : ∀ d ∈ D, Rels X2 d.2.1 d.2.2 d.1 := fun d hd => (HD.out.2 d hd).grown hX
          have hDl : D.length = k := by rw [← HN.out.2.1, ← HD.out.1, List.length_map]
          obtain ⟨dp, hdp⟩ : ∃ d, D[p]? = some d := ⟨_, List.getElem?_eq_getElem (by omega)⟩
          have hgd : D.getD p ([], none, 0) = dp := by rw [List.getD_eq_getElem?_getD, hdp]; rfl
          have hld : L.getD p [] = dp.1 := by rw [← HD.out.1, List.getD_eq_getElem?_getD, List.getElem?_map, hdp]; rfl
          obtain ⟨za, zc, hv, hsA⟩ := sts_of_row HR.out.1 (by rw [List.length_append, List.length_drop, hDl]; exact HM60.out.symm) (fun d hd => by
            rw [List.mem_append] at hd
            rcases hd with hd | hd
            · exact hrel d hd
            · exact hrel d (List.mem_of_mem_drop hd))
          injection hv with e1 _ e3
          subst e1 e3
          rw [List.map_append, List.map_drop, HD.out.1] at hsA
          obtain ⟨zb, zd, hv, hsB⟩ := sts_of_row HR.out.2 (by rw [List.length_append, hDl]; rfl) (fun d hd => by
            rw [List.mem_append, List.mem_singleton] at hd
            rcases hd with hd | rfl
            · exact hrel d hd
            · rw [hgd]; exact hrel dp (List.mem_of_getElem? hdp))
          injection hv with e1 _ e3
          subst e1 e3
          rw [List.map_append, HD.out.1, hgd, show List.map (fun x : Ds => x.1) [dp] = [L.getD p []] from by rw [hld]; rfl] at hsB
          have hsmA : ∀ r ∈ L ++ L.drop p, r.length ≤ 10 ∧ ∀ x ∈ r, x.2.length ≤ 200 := fun r hr => by
            rw [List.mem_append] at hr
            rcases hr with hr | hr
            · exact HF.out.2.2 r hr
            · exact HF.out.2.2 r (List.mem_of_mem_drop hr)
          have hsmB : ∀ r ∈ L ++ [L.getD p []], r.length ≤ 10 ∧ ∀ x ∈ r, x.2.length ≤ 200 := fun r hr => by
            rw [List.mem_append, List.mem_singleton] at hr
            rcases hr with hr | rfl
            · exact HF.out.2.2 r hr
            · exact HF.out.2.2 _ (by rw [hld]; have h := List.mem_map_of_mem (f := fun x : Ds => x.1) (List.mem_of_getElem? hdp); rw [HD.out.1] at h; exact h)
          have HAB := Lib.hid (And.intro hsA (And.intro hsB (And.intro hsmA hsmB))); clear hsA hsB hsmA hsmB hrel hdp hgd hld
          have HUV := Lib.hid (fun (W' : World) (g : X2.grownBy W' none) => And.intro (HN.out.2.2.1.grown (HG.out.trans (HG2.out.trans (hX.trans g)))).weak (HN.out.2.2.2.grown (HG.out.trans (HG2.out.trans (hX.trans g)))))
          have hpL := HP.out
          have hkL := HN.out.2.1
          have hlb : (L ++ [L.getD p []]).length = k + 1 := by rw [List.length_append, hkL]; rfl
          have HC1 := Lib.hid (fun (W' : World) (g : X2.grownBy W' none) => short_same (st := st) (HUV.out W' g).1 (HUV.out W' g).2 HN.out.1 hkL hn10 hk64 (by omega) hpL HF.out.2.2 (fun _ => rfl) rfl HMN.out.1 HMN.out.2.1 HMN.out.2.2.1)
          have HC2 := Lib.hid (fun (W' : World) (g : X2.grownBy W' none) => same_true (st := st) (st' := m) (HUV.out W' g).1 (HUV.out W' g).1 (HUV.out W' g).2 (HAB.out.1.grown g) HN.out.1 hkL HM.out hn10 hk64 (by omega) (by omega) (by omega) HF.out.2.2 (fun t => (trL_repeat hpL t).symm) rfl rfl)
          have HC3 := Lib.hid (fun (W' : World) (g : X2.grownBy W' none) => same_true (lp' := (p : Int) + 1) (st := st) (st' := (k : Int) + 1) (HUV.out W' g).1 (HUV.out W' g).1 (HUV.out W' g).2 (HAB.out.2.1.grown g) HN.out.1 hkL hlb hn10 hk64 (by omega) (by omega) (by omega) HF.out.2.2 (fun t => (trL_shift hpL t).symm) rfl (by omega))
          have HC4 := Lib.hid (fun (W' : World) (g : X2.grownBy W' none) => same_true (lp' := (p : Int) + 1) (st := m) (st' := (k : Int) + 1) (HUV.out W' g).1 (HUV.out W' g).1 (HAB.out.1.grown g) (HAB.out.2.1.grown g) HN.out.1 HM.out hlb hn10 (by omega) (by omega) (by omega) (by omega) HAB.out.2.2.1 (fun t => (trL_repeat hpL t).trans (trL_shift hpL t).symm) rfl (by omega))
          have HC5 := Lib.hid (fun (W' : World) (g : X2.grownBy W' none) => short_same (st := m) (HUV.out W' g).1 (HAB.out.1.grown g) HN.out.1 HM.out hn10 (by omega) (by omega) hpL HAB.out.2.2.1 (trL_repeat hpL) rfl HMN.out.1 HMN.out.2.1 HMN.out.2.2.1)
          have HC6 := Lib.hid (fun (W' : World) (g : X2.grownBy W' none) => short_same (lp := (p : Int) + 1) (st := (k : Int) + 1) (HUV.out W' g).1 (HAB.out.2.1.grown g) HN.out.1 hlb hn10 (by omega) (by omega) hpL HAB.out.2.2.2 (trL_shift hpL) (by omega) HMN.out.1 HMN.out.2.1 HMN.out.2.2.1)
          have HC7 := Lib.hid (fun (x z x' z' : Option Addr) (c d c' d' : Nat) (W' : World) (hx : Ints W' x c us) (hz : Sts W' z d M) (hx' : Ints W' x' c' us) (hz' : Sts W' z' d' M) => req_true (st := (N : Int)) (lp := (l : Int)) hx.weak hx'.weak hz hz' HN.out.1 HMN.out.2.2.1 hn10 hN64 HMN.out.2.2.2)
          clear hpL hkL hlb
          go_wp2_with fail
          refine (HC1.out X2 (grown_refl _ _)).mono ?_
          rintro e X3 ⟨ma, mc, mb, md, rfl, hms, g3⟩
          have HX3 := Lib.hid g3; clear g3 c0 c1 c2 c3
          have hgs := World.grownBy_alloc X3 (.cells #[.slice ma n mc, .int .i64 N, .slice mb N md, .int .i64 l] 33) none
          have hcs := four_cells X3 (.slice ma n mc) (.int .i64 N) (.slice mb N md) (.int .i64 l) 33
          obtain ⟨V, hV⟩ : ∃ V, X3.alloc (.cells #[.slice ma n mc, .int .i64 N, .slice mb N md, .int .i64 l] 33) = V := ⟨_, rfl⟩
          rw [hV] at hgs hcs
          have hXV := HX3.out.trans hgs
          have HMV := Lib.hid (fun (W' : World) (g : V.grownBy W' none) => And.intro (hms.1.grown (hgs.trans g)) (hms.2.grown (hgs.trans g)))
          have HVV := Lib.hid hV; clear hV
          go_wp2_with fail
          rw [HVV.out]
          clear HVV
          obtain ⟨-, c0, c1, c2, c3⟩ := HS.out V (hX.trans hXV)
          have a0 := hXV.cell HA.out.1 (by simp)
          have a1 := hXV.cell HA.out.2.1 (by simp)
          have a2 := hXV.cell HA.out.2.2.1 (by simp)
          have a3 := hXV.cell HA.out.2.2.2 (by simp)
          have b0 := hXV.cell HBq.out.1 (by simp)
          have b1 := hXV.cell HBq.out.2.1 (by simp)
          have b2 := hXV.cell HBq.out.2.2.1 (by simp)
          have b3 := hXV.cell HBq.out.2.2.2 (by simp)
          obtain ⟨s0, s1, s2, s3⟩ := hcs
          have HXV := Lib.hid hXV; clear hXV hgs hms
          go_region_held3 (fun w' : World => V.grownBy w' none ∧ w'.cell? ⟨w.heap.size, 0, none⟩ = some (.slice sa n sc) ∧ w'.cell? ⟨w.heap.size, 1, none⟩ = some (.int .i64 st) ∧ w'.cell? ⟨w.heap.size, 2, none⟩ = some (.slice (some ⟨tb, to, none⟩) k tc) ∧ w'.cell? ⟨w.heap.size, 3, none⟩ = some (.int .i64 p) ∧ w'.cell? ⟨ga, 0, none⟩ = some (.slice sa n sc) ∧ w'.cell? ⟨ga, 1, none⟩ = some (.int .i64 m) ∧ w'.cell? ⟨ga, 2, none⟩ = some (.slice va m vc) ∧ w'.cell? ⟨ga, 3, none⟩ = some (.int .i64 p) ∧ w'.cell? ⟨gb, 0, none⟩ = some (.slice sa n sc) ∧ w'.cell? ⟨gb, 1, none⟩ = some (.int .i64 ((k : Int) + 1)) ∧ w'.cell? ⟨gb, 2, none⟩ = some (.slice vb (k + 1) vd) ∧ w'.cell? ⟨gb, 3, none⟩ = some (.int .i64 ((p : Int) + 1)) ∧ w'.cell? ⟨X3.heap.size, 0, none⟩ = some (.slice ma n mc) ∧ w'.cell? ⟨X3.heap.size, 1, none⟩ = some (.int .i64 N) ∧ w'.cell? ⟨X3.heap.size, 2, none⟩ = some (.slice mb N md) ∧ w'.cell? ⟨X3.heap.size, 3, none⟩ = some (.int .i64 l))
            (first | exact ⟨⟨rfl, rfl, rfl, Nat.le_refl _, fun _ _ _ => rfl⟩, c0, c1, c2, c3, a0, a1, a2, a3, b0, b1, b2, b3, s0, s1, s2, s3⟩ | (go_split_ands; exact held_next16 g3 (by assumption) (by assumption) (by assumption) (by assumption) (by assumption) (by assumption) (by assumption) (by assumption) (by assumption) (by assumption) (by assumption) (by assumption) (by assumption) (by assumption) (by assumption) (by assumption) (by assumption)) | assumption | fail)
            (first | (go_at_call 28; with_reducible refine (HC2.out _ (HXV.out.trans ?_)).mono ?_; (go_split_ands; assumption); rintro e u1 ⟨rfl, g3⟩) | (go_at_call 28; with_reducible refine (HC3.out _ (HXV.out.trans ?_)).mono ?_; (go_split_ands; assumption); rintro e u2 ⟨rfl, g3⟩) | (go_at_call 28; with_reducible refine (HC4.out _ (HXV.out.trans ?_)).mono ?_; (go_split_ands; assumption); rintro e u3 ⟨rfl, g3⟩) | (go_at_call 30; with_reducible refine (HC5.out _ (HXV.out.trans ?_)).mono ?_; (go_split_ands; assumption); rintro e u4 ⟨x1, y1, x2, y2, rfl, hin, g3⟩; have hmv := HMV.out u4 (by go_split_ands; exact World.grownBy.trans (by assumption) g3)) | (go_at_call 30; with_reducible refine (HC6.out _ (HXV.out.trans ?_)).mono ?_; (go_split_ands; assumption); rintro e u6 ⟨x3, y3, x4, y4, rfl, hin2, g3⟩; have hmv2 := HMV.out u6 (by go_split_ands; exact World.grownBy.trans (by assumption) g3)) | (go_at_call 21; with_reducible refine (HC7.out _ _ _ _ _ _ _ _ _ hin.1 hin.2 hmv.1 hmv.2).mono ?_; rintro e u5 ⟨rfl, g3⟩) | (go_at_call 21; with_reducible refine (HC7.out _ _ _ _ _ _ _ _ _ hin2.1 hin2.2 hmv2.1 hmv2.2).mono ?_; rintro e u7 ⟨rfl, g3⟩) | fail)
          all_goals
            have h7 : V.grownBy u7 none := by go_split_ands; assumption
            have HE := Lib.hid (HG.out.trans (HG2.out.trans (hX.trans (HXV.out.trans h7)))); clear h7
            go_wp2_with fail
            go_ret
            exact ⟨rfl, HE.out⟩
      · go_simp
        have HGq21 := Lib.hid (HGq18.out.trans (World.grownBy_alloc y18 (.cells #[.slice none 0 0, .int .i64 0, .slice none 0 0, .int .i64 0] 33) none))
        have HA21 := Lib.hid (Held4.off HA18.out (World.grownBy_alloc y18 (.cells #[.slice none 0 0, .int .i64 0, .slice none 0 0, .int .i64 0] 33) none) (fun x e => by cases e))
        have HRA21 := Lib.hid (HRA18.out.alloc (.cells #[.slice none 0 0, .int .i64 0, .slice none 0 0, .int .i64 0] 33))
        have HB21 : Hid (Held4 (y18.alloc (.cells #[.slice none 0 0, .int .i64 0, .slice none 0 0, .int .i64 0] 33)) (y18.heap.size) (.slice none 0 0) (.int .i64 0) (.slice none 0 0) (.int .i64 0)) := Lib.hid (by have h := held4_new y18; (try rw [World.size_alloc] at h); exact h)
        refine hK.out _ _ (HS.out _ HGq21.out) (fun hHeld => ?_)
        clear hK K
        try simp only [Act.put, List.setIfInBounds_toArray, List.set_cons_zero, List.set_cons_succ]
        refine wpAnyH_ready (rs := [3]) (by kernel_rfl) (by simp) ?_
        refine (AllReadyH.cons (o := { dst := some 27, op := Op.call { callee := Callee.value (Operand.func 33), args := #[Operand.tmp 26], argTypes := #[33] }, type := 33, pos := "law.go:107", after := #[{ on := 2, ground := Ground.data }, { on := 1, ground := Ground.chain }], guard := none }) rfl (fun K hK => ?_) AllReadyH.nil)
        · go_simp
          go_at_call 33
          refine (HSF.out _ HGq21.out).mono ?_
          rintro e y22 ⟨vb, vd, rfl, hr, g⟩
          have HGq22 := Lib.hid (HGq21.out.trans g)
          have HA22 := Lib.hid (Held4.off HA21.out g (fun x e => by cases e))
          have HB22 := Lib.hid (Held4.off HB21.out g (fun x e => by cases e))
          have HRA22 := Lib.hid (own_grown HRA21.out g)
          have HKB : Hid (∀ x, (Value.slice vb _ vd).ownBlock = some x → y18.heap.size + 1 + 1 + 1 + 1 ≤ x ∧ x < y22.heap.size) := Lib.hid (by have h := hr.lt; (try simp only [World.size_alloc] at h); exact h)
          have HRB22 := Lib.hid hr; clear hr
          have HZ22 : Hid (y18.heap.size + 1 ≤ y22.heap.size) := Lib.hid (by have h := g.size; (try simp only [World.size_alloc] at h); exact h)
          clear g
          go_wp2_with fail
          refine hK.out _ _ (HS.out _ HGq22.out) (fun hHeld => ?_)
          clear hK K
          try simp only [Act.put, List.setIfInBounds_toArray, List.set_cons_zero, List.set_cons_succ]
          have FIN : ∃ (Y : World) (ga gb : Nat), Y = y22 ∧ ga = w2.heap.size ∧ gb = y18.heap.size ∧ Hid (w2.grownBy Y none ∧ Held4 Y ga (.slice none 0 0) (.int .i64 0) (.slice none 0 0) (.int .i64 0) ∧ Held4 Y gb (.slice none 0 0) (.int .i64 0) (.slice none 0 0) (.int .i64 0) ∧ (∃ b, Y.ownsRow b 40 1 (.slice va m vc) m (rowOf (D ++ D.drop p))) ∧ (∃ b, Y.ownsRow b 40 1 (.slice vb (k + 1) vd) (k + 1) (rowOf (D ++ [D.getD p ([], none, 0)]))) ∧ ga ≠ gb ∧ w2.heap.size ≤ ga ∧ w2.heap.size ≤ gb ∧ (∀ x, (Value.slice va m vc).ownBlock = some x → x ≠ ga ∧ x ≠ gb) ∧ (∀ x, (Value.slice vb (k + 1) vd).ownBlock = some x → x ≠ ga ∧ x ≠ gb)) := ⟨_, _, _, rfl, rfl, rfl, Lib.hid ⟨HGq22.out, HA22.out, HB22.out, ⟨_, HRA22.out⟩, ⟨_, HRB22.out⟩, (by have := HZ18.out; have := HZ22.out; omega), (by have := HZ18.out; have := HZ22.out; omega), (by have := HZ18.out; have := HZ22.out; omega), (fun x hx => by have := HZ18.out; have := HZ22.out; have := HKA.out x hx; omega), (fun x hx => by have := HZ18.out; have := HZ22.out; have := HKB.out x hx; omega)⟩⟩
          obtain ⟨Y, ga, gb, hY, hga, hgb, HF⟩ := FIN
          rw [← hga]
          rw [← hgb]
          rw [← hY]
          clear hY hga hgb
          clear hHeld
          obtain ⟨hY, kA, kB, ⟨bA, rA⟩, ⟨bB, rB⟩, hab, hga2, hgb2, nA, nB⟩ := HF.out
          obtain ⟨⟨a0, a1, a2, a3⟩, af⟩ := kA
          have af0 := af 0
          have af1 := af 1
          have af2 := af 2
          have af3 := af 3
          clear af
          have hHeld := HS.out _ hY
          refine wpAnyH_ready (rs := [6]) (by kernel_rfl) (by simp) ?_
          refine AllReadyH.cons (o := { dst := none, op := Op.store 33 (Operand.tmp 4) (Operand.tmp 25), type := 0, pos := "law.go:107", after := #[{ on := 4, ground := Ground.data }, { on := 1, ground := Ground.data }, { on := 3, ground := Ground.chain }, { on := 0, ground := Ground.phase }, { on := 1, ground := Ground.phase }, { on := 2, ground := Ground.textOnly Departure.lateStores }, { on := 3, ground := Ground.textOnly Departure.lateStoresUnsure }, { on := 4, ground := Ground.phase }, { on := 5, ground := Ground.phase }], guard := none }) rfl (fun K hK => ?_) AllReadyH.nil
          go_simp
          obtain ⟨p0, p1, p2, p3, pg⟩ := four_sets (.slice sa n sc) (.int .i64 m) (.slice va m vc) (.int .i64 p) a0 a1 a2 a3
          have hX1 := grown_own hY pg (fun x hx => by cases hx; exact hga2)
          refine hK.out _ _ (HS.out _ hX1) (fun hHeld => ?_)
          clear hK K
          try simp only [Act.put, List.setIfInBounds_toArray, List.set_cons_zero, List.set_cons_succ]
          have kB1 := kB.off pg (fun x hx => by cases hx; exact hab)
          have rA1 := rA.kept pg (own_off (fun x hx => (nA x hx).1))
          have rB1 := rB.kept pg (own_off (fun x hx => (nB x hx).1))
          obtain ⟨X1, hXe⟩ : ∃ X1, ((((Y.setCell ⟨ga, 0, none⟩ (.slice sa n sc)).setCell ⟨ga, 1, none⟩ (.int .i64 m)).setCell ⟨ga, 2, none⟩ (.slice va m vc)).setCell ⟨ga, 3, none⟩ (.int .i64 p)) = X1 := ⟨_, rfl⟩
          rw [hXe] at p0 p1 p2 p3 hX1 kB1 rA1 rB1 hHeld ⊢
          clear hXe pg a0 a1 a2 a3 af0 af1 af2 af3 kB rA rB
          obtain ⟨⟨b0, b1, b2, b3⟩, bf⟩ := kB1
          have bf0 := bf 0
          have bf1 := bf 1
          have bf2 := bf 2
          have bf3 := bf 3
          clear bf
          refine wpAnyH_ready (rs := [7]) (by kernel_rfl) (by simp) ?_
          refine AllReadyH.cons (o := { dst := none, op := Op.store 33 (Operand.tmp 5) (Operand.tmp 27), type := 0, pos := "law.go:107", after := #[{ on := 5, ground := Ground.data }, { on := 3, ground := Ground.data }, { on := 6, ground := Ground.chain }, { on := 0, ground := Ground.phase }, { on := 1, ground := Ground.phase }, { on := 2, ground := Ground.phase }, { on := 3, ground := Ground.phase }, { on := 4, ground := Ground.phase }, { on := 5, ground := Ground.phase }, { on := 6, ground := Ground.phase }], guard := none }) rfl (fun K hK => ?_) AllReadyH.nil
          go_simp
          obtain ⟨q0, q1, q2, q3, qg⟩ := four_sets (.slice sa n sc) (.int .i64 ((k : Int) + 1)) (.slice vb (k + 1) vd) (.int .i64 ((p : Int) + 1)) b0 b1 b2 b3
          have hX2 := grown_own hX1 qg (fun x hx => by cases hx; exact hgb2)
          refine hK.out _ _ (HS.out _ hX2) (fun hHeld => ?_)
          clear hK K
          try simp only [Act.put, List.setIfInBounds_toArray, List.set_cons_zero, List.set_cons_succ]
          have ne : (some ga : Option Nat) ≠ some gb := fun e => by injection e with e; exact hab e
          have HA := Lib.hid (And.intro (qg.cell p0 ne) (And.intro (qg.cell p1 ne) (And.intro (qg.cell p2 ne) (qg.cell p3 ne))))
          have rA2 := rA1.kept qg (own_off (fun x hx => (nA x hx).2))
          have rB2 := rB1.kept qg (own_off (fun x hx => (nB x hx).2))
          have HBq := Lib.hid (And.intro q0 (And.intro q1 (And.intro q2 q3)))
          have HR := Lib.hid (And.intro rA2 rB2)
          have HXX := Lib.hid hX2
          obtain ⟨X2, hXe⟩ : ∃ X2, ((((X1.setCell ⟨gb, 0, none⟩ (.slice sa n sc)).setCell ⟨gb, 1, none⟩ (.int .i64 ((k : Int) + 1))).setCell ⟨gb, 2, none⟩ (.slice vb (k + 1) vd)).setCell ⟨gb, 3, none⟩ (.int .i64 ((p : Int) + 1))) = X2 := ⟨_, rfl⟩
          rw [hXe] at HA HBq HR HXX hHeld ⊢
          clear hXe qg b0 b1 b2 b3 bf0 bf1 bf2 bf3 rA1 rB1 rA2 rB2 p0 p1 p2 p3 q0 q1 q2 q3 hX1 hX2 nA nB hY ne
          refine wpAnyH_done (by kernel_rfl) ?_ _
          clear hHeld HF
          have hX := HXX.out
          obtain ⟨-, c0, c1, c2, c3⟩ := HS.out X2 hX
          have hrel : ∀ d ∈ D, Rels X2 d.2.1 d.2.2 d.1 := fun d hd => (HD.out.2 d hd).grown hX
          have hDl : D.length = k := by rw [← HN.out.2.1, ← HD.out.1, List.length_map]
          obtain ⟨dp, hdp⟩ : ∃ d, D[p]? = some d := ⟨_, List.getElem?_eq_getElem (by omega)⟩
          have hgd : D.getD p ([], none, 0) = dp := by rw [List.getD_eq_getElem?_getD, hdp]; rfl
          have hld : L.getD p [] = dp.1 := by rw [← HD.out.1, List.getD_eq_getElem?_getD, List.getElem?_map, hdp]; rfl
          obtain ⟨za, zc, hv, hsA⟩ := sts_of_row HR.out.1 (by rw [List.length_append, List.length_drop, hDl]; exact HM60.out.symm) (fun d hd => by
            rw [List.mem_append] at hd
            rcases hd with hd | hd
            · exact hrel d hd
            · exact hrel d (List.mem_of_mem_drop hd))
          injection hv with e1 _ e3
          subst e1 e3
          rw [List.map_append, List.map_drop, HD.out.1] at hsA
          obtain ⟨zb, zd, hv, hsB⟩ := sts_of_row HR.out.2 (by rw [List.length_append, hDl]; rfl) (fun d hd => by
            rw [List.mem_append, List.mem_singleton] at hd
            rcases hd with hd | rfl
            · exact hrel d hd
            · rw [hgd]; exact hrel dp (List.mem_of_getElem? hdp))
          injection hv with e1 _ e3
          subst e1 e3
          rw [List.map_append, HD.out.1, hgd, show List.map (fun x : Ds => x.1) [dp] = [L.getD p []] from by rw [hld]; rfl] at hsB
          have hsmA : ∀ r ∈ L ++ L.drop p, r.length ≤ 10 ∧ ∀ x ∈ r, x.2.length ≤ 200 := fun r hr => by
            rw [List.mem_append] at hr
            rcases hr with hr | hr
            · exact HF.out.2.2 r hr
            · exact HF.out.2.2 r (List.mem_of_mem_drop hr)
          have hsmB : ∀ r ∈ L ++ [L.getD p []], r.length ≤ 10 ∧ ∀ x ∈ r, x.2.length ≤ 200 := fun r hr => by
            rw [List.mem_append, List.mem_singleton] at hr
            rcases hr with hr | rfl
            · exact HF.out.2.2 r hr
            · exact HF.out.2.2 _ (by rw [hld]; have h := List.mem_map_of_mem (f := fun x : Ds => x.1) (List.mem_of_getElem? hdp); rw [HD.out.1] at h; exact h)
          have HAB := Lib.hid (And.intro hsA (And.intro hsB (And.intro hsmA hsmB))); clear hsA hsB hsmA hsmB hrel hdp hgd hld
          have HUV := Lib.hid (fun (W' : World) (g : X2.grownBy W' none) => And.intro (HN.out.2.2.1.grown (HG.out.trans (HG2.out.trans (hX.trans g)))).weak (HN.out.2.2.2.grown (HG.out.trans (HG2.out.trans (hX.trans g)))))
          have hpL := HP.out
          have hkL := HN.out.2.1
          have hlb : (L ++ [L.getD p []]).length = k + 1 := by rw [List.length_append, hkL]; rfl
          have HC1 := Lib.hid (fun (W' : World) (g : X2.grownBy W' none) => short_same (st := st) (HUV.out W' g).1 (HUV.out W' g).2 HN.out.1 hkL hn10 hk64 (by omega) hpL HF.out.2.2 (fun _ => rfl) rfl HMN.out.1 HMN.out.2.1 HMN.out.2.2.1)
          have HC2 := Lib.hid (fun (W' : World) (g : X2.grownBy W' none) => same_true (st := st) (st' := m) (HUV.out W' g).1 (HUV.out W' g).1 (HUV.out W' g).2 (HAB.out.1.grown g) HN.out.1 hkL HM.out hn10 hk64 (by omega) (by omega) (by omega) HF.out.2.2 (fun t => (trL_repeat hpL t).symm) rfl rfl)
          have HC3 := Lib.hid (fun (W' : World) (g : X2.grownBy W' none) => same_true (lp' := (p : Int) + 1) (st := st) (st' := (k : Int) + 1) (HUV.out W' g).1 (HUV.out W' g).1 (HUV.out W' g).2 (HAB.out.2.1.grown g) HN.out.1 hkL hlb hn10 hk64 (by omega) (by omega) (by omega) HF.out.2.2 (fun t => (trL_shift hpL t).symm) rfl (by omega))
          have HC4 := Lib.hid (fun (W' : World) (g : X2.grownBy W' none) => same_true (lp' := (p : Int) + 1) (st := m) (st' := (k : Int) + 1) (HUV.out W' g).1 (HUV.out W' g).1 (HAB.out.1.grown g) (HAB.out.2.1.grown g) HN.out.1 HM.out hlb hn10 (by omega) (by omega) (by omega) (by omega) HAB.out.2.2.1 (fun t => (trL_repeat hpL t).trans (trL_shift hpL t).symm) rfl (by omega))
          have HC5 := Lib.hid (fun (W' : World) (g : X2.grownBy W' none) => short_same (st := m) (HUV.out W' g).1 (HAB.out.1.grown g) HN.out.1 HM.out hn10 (by omega) (by omega) hpL HAB.out.2.2.1 (trL_repeat hpL) rfl HMN.out.1 HMN.out.2.1 HMN.out.2.2.1)
          have HC6 := Lib.hid (fun (W' : World) (g : X2.grownBy W' none) => short_same (lp := (p : Int) + 1) (st := (k : Int) + 1) (HUV.out W' g).1 (HAB.out.2.1.grown g) HN.out.1 hlb hn10 (by omega) (by omega) hpL HAB.out.2.2.2 (trL_shift hpL) (by omega) HMN.out.1 HMN.out.2.1 HMN.out.2.2.1)
          have HC7 := Lib.hid (fun (x z x' z' : Option Addr) (c d c' d' : Nat) (W' : World) (hx : Ints W' x c us) (hz : Sts W' z d M) (hx' : Ints W' x' c' us) (hz' : Sts W' z' d' M) => req_true (st := (N : Int)) (lp := (l : Int)) hx.weak hx'.weak hz hz' HN.out.1 HMN.out.2.2.1 hn10 hN64 HMN.out.2.2.2)
          clear hpL hkL hlb
          go_wp2_with fail
          refine (HC1.out X2 (grown_refl _ _)).mono ?_
          rintro e X3 ⟨ma, mc, mb, md, rfl, hms, g3⟩
          have HX3 := Lib.hid g3; clear g3 c0 c1 c2 c3
          have hgs := World.grownBy_alloc X3 (.cells #[.slice ma n mc, .int .i64 N, .slice mb N md, .int .i64 l] 33) none
          have hcs := four_cells X3 (.slice ma n mc) (.int .i64 N) (.slice mb N md) (.int .i64 l) 33
          obtain ⟨V, hV⟩ : ∃ V, X3.alloc (.cells #[.slice ma n mc, .int .i64 N, .slice mb N md, .int .i64 l] 33) = V := ⟨_, rfl⟩
          rw [hV] at hgs hcs
          have hXV := HX3.out.trans hgs
          have HMV := Lib.hid (fun (W' : World) (g : V.grownBy W' none) => And.intro (hms.1.grown (hgs.trans g)) (hms.2.grown (hgs.trans g)))
          have HVV := Lib.hid hV; clear hV
          go_wp2_with fail
          rw [HVV.out]
          clear HVV
          obtain ⟨-, c0, c1, c2, c3⟩ := HS.out V (hX.trans hXV)
          have a0 := hXV.cell HA.out.1 (by simp)
          have a1 := hXV.cell HA.out.2.1 (by simp)
          have a2 := hXV.cell HA.out.2.2.1 (by simp)
          have a3 := hXV.cell HA.out.2.2.2 (by simp)
          have b0 := hXV.cell HBq.out.1 (by simp)
          have b1 := hXV.cell HBq.out.2.1 (by simp)
          have b2 := hXV.cell HBq.out.2.2.1 (by simp)
          have b3 := hXV.cell HBq.out.2.2.2 (by simp)
          obtain ⟨s0, s1, s2, s3⟩ := hcs
          have HXV := Lib.hid hXV; clear hXV hgs hms
          go_region_held3 (fun w' : World => V.grownBy w' none ∧ w'.cell? ⟨w.heap.size, 0, none⟩ = some (.slice sa n sc) ∧ w'.cell? ⟨w.heap.size, 1, none⟩ = some (.int .i64 st) ∧ w'.cell? ⟨w.heap.size, 2, none⟩ = some (.slice (some ⟨tb, to, none⟩) k tc) ∧ w'.cell? ⟨w.heap.size, 3, none⟩ = some (.int .i64 p) ∧ w'.cell? ⟨ga, 0, none⟩ = some (.slice sa n sc) ∧ w'.cell? ⟨ga, 1, none⟩ = some (.int .i64 m) ∧ w'.cell? ⟨ga, 2, none⟩ = some (.slice va m vc) ∧ w'.cell? ⟨ga, 3, none⟩ = some (.int .i64 p) ∧ w'.cell? ⟨gb, 0, none⟩ = some (.slice sa n sc) ∧ w'.cell? ⟨gb, 1, none⟩ = some (.int .i64 ((k : Int) + 1)) ∧ w'.cell? ⟨gb, 2, none⟩ = some (.slice vb (k + 1) vd) ∧ w'.cell? ⟨gb, 3, none⟩ = some (.int .i64 ((p : Int) + 1)) ∧ w'.cell? ⟨X3.heap.size, 0, none⟩ = some (.slice ma n mc) ∧ w'.cell? ⟨X3.heap.size, 1, none⟩ = some (.int .i64 N) ∧ w'.cell? ⟨X3.heap.size, 2, none⟩ = some (.slice mb N md) ∧ w'.cell? ⟨X3.heap.size, 3, none⟩ = some (.int .i64 l))
            (first | exact ⟨⟨rfl, rfl, rfl, Nat.le_refl _, fun _ _ _ => rfl⟩, c0, c1, c2, c3, a0, a1, a2, a3, b0, b1, b2, b3, s0, s1, s2, s3⟩ | (go_split_ands; exact held_next16 g3 (by assumption) (by assumption) (by assumption) (by assumption) (by assumption) (by assumption) (by assumption) (by assumption) (by assumption) (by assumption) (by assumption) (by assumption) (by assumption) (by assumption) (by assumption) (by assumption) (by assumption)) | assumption | fail)
            (first | (go_at_call 28; with_reducible refine (HC2.out _ (HXV.out.trans ?_)).mono ?_; (go_split_ands; assumption); rintro e u1 ⟨rfl, g3⟩) | (go_at_call 28; with_reducible refine (HC3.out _ (HXV.out.trans ?_)).mono ?_; (go_split_ands; assumption); rintro e u2 ⟨rfl, g3⟩) | (go_at_call 28; with_reducible refine (HC4.out _ (HXV.out.trans ?_)).mono ?_; (go_split_ands; assumption); rintro e u3 ⟨rfl, g3⟩) | (go_at_call 30; with_reducible refine (HC5.out _ (HXV.out.trans ?_)).mono ?_; (go_split_ands; assumption); rintro e u4 ⟨x1, y1, x2, y2, rfl, hin, g3⟩; have hmv := HMV.out u4 (by go_split_ands; exact World.grownBy.trans (by assumption) g3)) | (go_at_call 30; with_reducible refine (HC6.out _ (HXV.out.trans ?_)).mono ?_; (go_split_ands; assumption); rintro e u6 ⟨x3, y3, x4, y4, rfl, hin2, g3⟩; have hmv2 := HMV.out u6 (by go_split_ands; exact World.grownBy.trans (by assumption) g3)) | (go_at_call 21; with_reducible refine (HC7.out _ _ _ _ _ _ _ _ _ hin.1 hin.2 hmv.1 hmv.2).mono ?_; rintro e u5 ⟨rfl, g3⟩) | (go_at_call 21; with_reducible refine (HC7.out _ _ _ _ _ _ _ _ _ hin2.1 hin2.2 hmv2.1 hmv2.2).mono ?_; rintro e u7 ⟨rfl, g3⟩) | fail)
          all_goals
            have h7 : V.grownBy u7 none := by go_split_ands; assumption
            have HE := Lib.hid (HG.out.trans (HG2.out.trans (hX.trans (HXV.out.trans h7)))); clear h7
            go_wp2_with fail
            go_ret
            exact ⟨rfl, HE.out⟩
    · go_simp
      have HGq23 := Lib.hid (HGq17.out.trans (World.grownBy_alloc (w2.drew.alloc (.cells #[.slice none 0 0, .int .i64 0, .slice none 0 0, .int .i64 0] 33)) (.cells #[.slice none 0 0, .int .i64 0, .slice none 0 0, .int .i64 0] 33) none))
      have HA23 := Lib.hid (Held4.off HA17.out (World.grownBy_alloc (w2.drew.alloc (.cells #[.slice none 0 0, .int .i64 0, .slice none 0 0, .int .i64 0] 33)) (.cells #[.slice none 0 0, .int .i64 0, .slice none 0 0, .int .i64 0] 33) none) (fun x e => by cases e))
      have HB23 : Hid (Held4 ((w2.drew.alloc (.cells #[.slice none 0 0, .int .i64 0, .slice none 0 0, .int .i64 0] 33)).alloc (.cells #[.slice none 0 0, .int .i64 0, .slice none 0 0, .int .i64 0] 33)) (w2.heap.size + 1) (.slice none 0 0) (.int .i64 0) (.slice none 0 0) (.int .i64 0)) := Lib.hid (by have h := held4_new (w2.drew.alloc (.cells #[.slice none 0 0, .int .i64 0, .slice none 0 0, .int .i64 0] 33)); (try rw [World.size_alloc] at h); exact h)
      refine hK.out _ _ (HS.out _ HGq23.out) (fun hHeld => ?_)
      clear hK K
      try simp only [Act.put, List.setIfInBounds_toArray, List.set_cons_zero, List.set_cons_succ]
      refine wpAnyH_ready (rs := [1]) (by kernel_rfl) (by simp) ?_
      refine (AllReadyH.cons (o := { dst := some 25, op := Op.call { callee := Callee.value (Operand.func 32), args := #[Operand.tmp 24], argTypes := #[33] }, type := 33, pos := "law.go:107", after := #[{ on := 0, ground := Ground.data }], guard := none }) rfl (fun K hK => ?_) AllReadyH.nil)
      · go_simp
        go_at_call 32
        refine (HRP.out _ HGq23.out).mono ?_
        rintro e y24 ⟨va, vc, rfl, hr, g⟩
        have HGq24 := Lib.hid (HGq23.out.trans g)
        have HA24 := Lib.hid (Held4.off HA23.out g (fun x e => by cases e))
        have HB24 := Lib.hid (Held4.off HB23.out g (fun x e => by cases e))
        have HKA : Hid (∀ x, (Value.slice va _ vc).ownBlock = some x → w2.heap.size + 1 + 1 + 1 + 1 + 1 ≤ x ∧ x < y24.heap.size) := Lib.hid (by have h := hr.lt; (try simp only [World.size_alloc] at h); exact h)
        have HRA24 := Lib.hid hr; clear hr
        have HZ24 : Hid (w2.heap.size + 1 + 1 ≤ y24.heap.size) := Lib.hid (by have h := g.size; (try simp only [World.size_alloc] at h); exact h)
        clear g
        go_wp2_with fail
        refine hK.out _ _ (HS.out _ HGq24.out) (fun hHeld => ?_)
        clear hK K
        try simp only [Act.put, List.setIfInBounds_toArray, List.set_cons_zero, List.set_cons_succ]
        refine wpAnyH_ready (rs := [3]) (by kernel_rfl) (by simp) ?_
        refine (AllReadyH.cons (o := { dst := some 27, op := Op.call { callee := Callee.value (Operand.func 33), args := #[Operand.tmp 26], argTypes := #[33] }, type := 33, pos := "law.go:107", after := #[{ on := 2, ground := Ground.data }, { on := 1, ground := Ground.chain }], guard := none }) rfl (fun K hK => ?_) AllReadyH.nil)
        · go_simp
          go_at_call 33
          refine (HSF.out _ HGq24.out).mono ?_
          rintro e y25 ⟨vb, vd, rfl, hr, g⟩
          have HGq25 := Lib.hid (HGq24.out.trans g)
          have HA25 := Lib.hid (Held4.off HA24.out g (fun x e => by cases e))
          have HB25 := Lib.hid (Held4.off HB24.out g (fun x e => by cases e))
          have HRA25 := Lib.hid (own_grown HRA24.out g)
          have HKB : Hid (∀ x, (Value.slice vb _ vd).ownBlock = some x → y24.heap.size + 1 + 1 + 1 ≤ x ∧ x < y25.heap.size) := Lib.hid (by have h := hr.lt; (try simp only [World.size_alloc] at h); exact h)
          have HRB25 := Lib.hid hr; clear hr
          have HZ25 : Hid (y24.heap.size ≤ y25.heap.size) := Lib.hid (by have h := g.size; (try simp only [World.size_alloc] at h); exact h)
          clear g
          go_wp2_with fail
          refine hK.out _ _ (HS.out _ HGq25.out) (fun hHeld => ?_)
          clear hK K
          try simp only [Act.put, List.setIfInBounds_toArray, List.set_cons_zero, List.set_cons_succ]
          have FIN : ∃ (Y : World) (ga gb : Nat), Y = y25 ∧ ga = w2.heap.size ∧ gb = w2.heap.size + 1 ∧ Hid (w2.grownBy Y none ∧ Held4 Y ga (.slice none 0 0) (.int .i64 0) (.slice none 0 0) (.int .i64 0) ∧ Held4 Y gb (.slice none 0 0) (.int .i64 0) (.slice none 0 0) (.int .i64 0) ∧ (∃ b, Y.ownsRow b 40 1 (.slice va m vc) m (rowOf (D ++ D.drop p))) ∧ (∃ b, Y.ownsRow b 40 1 (.slice vb (k + 1) vd) (k + 1) (rowOf (D ++ [D.getD p ([], none, 0)]))) ∧ ga ≠ gb ∧ w2.heap.size ≤ ga ∧ w2.heap.size ≤ gb ∧ (∀ x, (Value.slice va m vc).ownBlock = some x → x ≠ ga ∧ x ≠ gb) ∧ (∀ x, (Value.slice vb (k + 1) vd).ownBlock = some x → x ≠ ga ∧ x ≠ gb)) := ⟨_, _, _, rfl, rfl, rfl, Lib.hid ⟨HGq25.out, HA25.out, HB25.out, ⟨_, HRA25.out⟩, ⟨_, HRB25.out⟩, (by have := HZ24.out; have := HZ25.out; omega), (by have := HZ24.out; have := HZ25.out; omega), (by have := HZ24.out; have := HZ25.out; omega), (fun x hx => by have := HZ24.out; have := HZ25.out; have := HKA.out x hx; omega), (fun x hx => by have := HZ24.out; have := HZ25.out; have := HKB.out x hx; omega)⟩⟩
          obtain ⟨Y, ga, gb, hY, hga, hgb, HF⟩ := FIN
          rw [← hgb]
          rw [← hga]
          rw [← hY]
          clear hY hga hgb
          clear hHeld
          obtain ⟨hY, kA, kB, ⟨bA, rA⟩, ⟨bB, rB⟩, hab, hga2, hgb2, nA, nB⟩ := HF.out
          obtain ⟨⟨a0, a1, a2, a3⟩, af⟩ := kA
          have af0 := af 0
          have af1 := af 1
          have af2 := af 2
          have af3 := af 3
          clear af
          have hHeld := HS.out _ hY
          refine wpAnyH_ready (rs := [6]) (by kernel_rfl) (by simp) ?_
          refine AllReadyH.cons (o := { dst := none, op := Op.store 33 (Operand.tmp 4) (Operand.tmp 25), type := 0, pos := "law.go:107", after := #[{ on := 4, ground := Ground.data }, { on := 1, ground := Ground.data }, { on := 3, ground := Ground.chain }, { on := 0, ground := Ground.phase }, { on := 1, ground := Ground.phase }, { on := 2, ground := Ground.textOnly Departure.lateStores }, { on := 3, ground := Ground.textOnly Departure.lateStoresUnsure }, { on := 4, ground := Ground.phase }, { on := 5, ground := Ground.phase }], guard := none }) rfl (fun K hK => ?_) AllReadyH.nil
          go_simp
          obtain ⟨p0, p1, p2, p3, pg⟩ := four_sets (.slice sa n sc) (.int .i64 m) (.slice va m vc) (.int .i64 p) a0 a1 a2 a3
          have hX1 := grown_own hY pg (fun x hx => by cases hx; exact hga2)
          refine hK.out _ _ (HS.out _ hX1) (fun hHeld => ?_)
          clear hK K
          try simp only [Act.put, List.setIfInBounds_toArray, List.set_cons_zero, List.set_cons_succ]
          have kB1 := kB.off pg (fun x hx => by cases hx; exact hab)
          have rA1 := rA.kept pg (own_off (fun x hx => (nA x hx).1))
          have rB1 := rB.kept pg (own_off (fun x hx => (nB x hx).1))
          obtain ⟨X1, hXe⟩ : ∃ X1, ((((Y.setCell ⟨ga, 0, none⟩ (.slice sa n sc)).setCell ⟨ga, 1, none⟩ (.int .i64 m)).setCell ⟨ga, 2, none⟩ (.slice va m vc)).setCell ⟨ga, 3, none⟩ (.int .i64 p)) = X1 := ⟨_, rfl⟩
          rw [hXe] at p0 p1 p2 p3 hX1 kB1 rA1 rB1 hHeld ⊢
          clear hXe pg a0 a1 a2 a3 af0 af1 af2 af3 kB rA rB
          obtain ⟨⟨b0, b1, b2, b3⟩, bf⟩ := kB1
          have bf0 := bf 0
          have bf1 := bf 1
          have bf2 := bf 2
          have bf3 := bf 3
          clear bf
          refine wpAnyH_ready (rs := [7]) (by kernel_rfl) (by simp) ?_
          refine AllReadyH.cons (o := { dst := none, op := Op.store 33 (Operand.tmp 5) (Operand.tmp 27), type := 0, pos := "law.go:107", after := #[{ on := 5, ground := Ground.data }, { on := 3, ground := Ground.data }, { on := 6, ground := Ground.chain }, { on := 0, ground := Ground.phase }, { on := 1, ground := Ground.phase }, { on := 2, ground := Ground.phase }, { on := 3, ground := Ground.phase }, { on := 4, ground := Ground.phase }, { on := 5, ground := Ground.phase }, { on := 6, ground := Ground.phase }], guard := none }) rfl (fun K hK => ?_) AllReadyH.nil
          go_simp
          obtain ⟨q0, q1, q2, q3, qg⟩ := four_sets (.slice sa n sc) (.int .i64 ((k : Int) + 1)) (.slice vb (k + 1) vd) (.int .i64 ((p : Int) + 1)) b0 b1 b2 b3
          have hX2 := grown_own hX1 qg (fun x hx => by cases hx; exact hgb2)
          refine hK.out _ _ (HS.out _ hX2) (fun hHeld => ?_)
          clear hK K
          try simp only [Act.put, List.setIfInBounds_toArray, List.set_cons_zero, List.set_cons_succ]
          have ne : (some ga : Option Nat) ≠ some gb := fun e => by injection e with e; exact hab e
          have HA := Lib.hid (And.intro (qg.cell p0 ne) (And.intro (qg.cell p1 ne) (And.intro (qg.cell p2 ne) (qg.cell p3 ne))))
          have rA2 := rA1.kept qg (own_off (fun x hx => (nA x hx).2))
          have rB2 := rB1.kept qg (own_off (fun x hx => (nB x hx).2))
          have HBq := Lib.hid (And.intro q0 (And.intro q1 (And.intro q2 q3)))
          have HR := Lib.hid (And.intro rA2 rB2)
          have HXX := Lib.hid hX2
          obtain ⟨X2, hXe⟩ : ∃ X2, ((((X1.setCell ⟨gb, 0, none⟩ (.slice sa n sc)).setCell ⟨gb, 1, none⟩ (.int .i64 ((k : Int) + 1))).setCell ⟨gb, 2, none⟩ (.slice vb (k + 1) vd)).setCell ⟨gb, 3, none⟩ (.int .i64 ((p : Int) + 1))) = X2 := ⟨_, rfl⟩
          rw [hXe] at HA HBq HR HXX hHeld ⊢
          clear hXe qg b0 b1 b2 b3 bf0 bf1 bf2 bf3 rA1 rB1 rA2 rB2 p0 p1 p2 p3 q0 q1 q2 q3 hX1 hX2 nA nB hY ne
          refine wpAnyH_done (by kernel_rfl) ?_ _
          clear hHeld HF
          have hX := HXX.out
          obtain ⟨-, c0, c1, c2, c3⟩ := HS.out X2 hX
          have hrel : ∀ d ∈ D, Rels X2 d.2.1 d.2.2 d.1 := fun d hd => (HD.out.2 d hd).grown hX
          have hDl : D.length = k := by rw [← HN.out.2.1, ← HD.out.1, List.length_map]
          obtain ⟨dp, hdp⟩ : ∃ d, D[p]? = some d := ⟨_, List.getElem?_eq_getElem (by omega)⟩
          have hgd : D.getD p ([], none, 0) = dp := by rw [List.getD_eq_getElem?_getD, hdp]; rfl
          have hld : L.getD p [] = dp.1 := by rw [← HD.out.1, List.getD_eq_getElem?_getD, List.getElem?_map, hdp]; rfl
          obtain ⟨za, zc, hv, hsA⟩ := sts_of_row HR.out.1 (by rw [List.length_append, List.length_drop, hDl]; exact HM60.out.symm) (fun d hd => by
            rw [List.mem_append] at hd
            rcases hd with hd | hd
            · exact hrel d hd
            · exact hrel d (List.mem_of_mem_drop hd))
          injection hv with e1 _ e3
          subst e1 e3
          rw [List.map_append, List.map_drop, HD.out.1] at hsA
          obtain ⟨zb, zd, hv, hsB⟩ := sts_of_row HR.out.2 (by rw [List.length_append, hDl]; rfl) (fun d hd => by
            rw [List.mem_append, List.mem_singleton] at hd
            rcases hd with hd | rfl
            · exact hrel d hd
            · rw [hgd]; exact hrel dp (List.mem_of_getElem? hdp))
          injection hv with e1 _ e3
          subst e1 e3
          rw [List.map_append, HD.out.1, hgd, show List.map (fun x : Ds => x.1) [dp] = [L.getD p []] from by rw [hld]; rfl] at hsB
          have hsmA : ∀ r ∈ L ++ L.drop p, r.length ≤ 10 ∧ ∀ x ∈ r, x.2.length ≤ 200 := fun r hr => by
            rw [List.mem_append] at hr
            rcases hr with hr | hr
            · exact HF.out.2.2 r hr
            · exact HF.out.2.2 r (List.mem_of_mem_drop hr)
          have hsmB : ∀ r ∈ L ++ [L.getD p []], r.length ≤ 10 ∧ ∀ x ∈ r, x.2.length ≤ 200 := fun r hr => by
            rw [List.mem_append, List.mem_singleton] at hr
            rcases hr with hr | rfl
            · exact HF.out.2.2 r hr
            · exact HF.out.2.2 _ (by rw [hld]; have h := List.mem_map_of_mem (f := fun x : Ds => x.1) (List.mem_of_getElem? hdp); rw [HD.out.1] at h; exact h)
          have HAB := Lib.hid (And.intro hsA (And.intro hsB (And.intro hsmA hsmB))); clear hsA hsB hsmA hsmB hrel hdp hgd hld
          have HUV := Lib.hid (fun (W' : World) (g : X2.grownBy W' none) => And.intro (HN.out.2.2.1.grown (HG.out.trans (HG2.out.trans (hX.trans g)))).weak (HN.out.2.2.2.grown (HG.out.trans (HG2.out.trans (hX.trans g)))))
          have hpL := HP.out
          have hkL := HN.out.2.1
          have hlb : (L ++ [L.getD p []]).length = k + 1 := by rw [List.length_append, hkL]; rfl
          have HC1 := Lib.hid (fun (W' : World) (g : X2.grownBy W' none) => short_same (st := st) (HUV.out W' g).1 (HUV.out W' g).2 HN.out.1 hkL hn10 hk64 (by omega) hpL HF.out.2.2 (fun _ => rfl) rfl HMN.out.1 HMN.out.2.1 HMN.out.2.2.1)
          have HC2 := Lib.hid (fun (W' : World) (g : X2.grownBy W' none) => same_true (st := st) (st' := m) (HUV.out W' g).1 (HUV.out W' g).1 (HUV.out W' g).2 (HAB.out.1.grown g) HN.out.1 hkL HM.out hn10 hk64 (by omega) (by omega) (by omega) HF.out.2.2 (fun t => (trL_repeat hpL t).symm) rfl rfl)
          have HC3 := Lib.hid (fun (W' : World) (g : X2.grownBy W' none) => same_true (lp' := (p : Int) + 1) (st := st) (st' := (k : Int) + 1) (HUV.out W' g).1 (HUV.out W' g).1 (HUV.out W' g).2 (HAB.out.2.1.grown g) HN.out.1 hkL hlb hn10 hk64 (by omega) (by omega) (by omega) HF.out.2.2 (fun t => (trL_shift hpL t).symm) rfl (by omega))
          have HC4 := Lib.hid (fun (W' : World) (g : X2.grownBy W' none) => same_true (lp' := (p : Int) + 1) (st := m) (st' := (k : Int) + 1) (HUV.out W' g).1 (HUV.out W' g).1 (HAB.out.1.grown g) (HAB.out.2.1.grown g) HN.out.1 HM.out hlb hn10 (by omega) (by omega) (by omega) (by omega) HAB.out.2.2.1 (fun t => (trL_repeat hpL t).trans (trL_shift hpL t).symm) rfl (by omega))
          have HC5 := Lib.hid (fun (W' : World) (g : X2.grownBy W' none) => short_same (st := m) (HUV.out W' g).1 (HAB.out.1.grown g) HN.out.1 HM.out hn10 (by omega) (by omega) hpL HAB.out.2.2.1 (trL_repeat hpL) rfl HMN.out.1 HMN.out.2.1 HMN.out.2.2.1)
          have HC6 := Lib.hid (fun (W' : World) (g : X2.grownBy W' none) => short_same (lp := (p : Int) + 1) (st := (k : Int) + 1) (HUV.out W' g).1 (HAB.out.2.1.grown g) HN.out.1 hlb hn10 (by omega) (by omega) hpL HAB.out.2.2.2 (trL_shift hpL) (by omega) HMN.out.1 HMN.out.2.1 HMN.out.2.2.1)
          have HC7 := Lib.hid (fun (x z x' z' : Option Addr) (c d c' d' : Nat) (W' : World) (hx : Ints W' x c us) (hz : Sts W' z d M) (hx' : Ints W' x' c' us) (hz' : Sts W' z' d' M) => req_true (st := (N : Int)) (lp := (l : Int)) hx.weak hx'.weak hz hz' HN.out.1 HMN.out.2.2.1 hn10 hN64 HMN.out.2.2.2)
          clear hpL hkL hlb
          go_wp2_with fail
          refine (HC1.out X2 (grown_refl _ _)).mono ?_
          rintro e X3 ⟨ma, mc, mb, md, rfl, hms, g3⟩
          have HX3 := Lib.hid g3; clear g3 c0 c1 c2 c3
          have hgs := World.grownBy_alloc X3 (.cells #[.slice ma n mc, .int .i64 N, .slice mb N md, .int .i64 l] 33) none
          have hcs := four_cells X3 (.slice ma n mc) (.int .i64 N) (.slice mb N md) (.int .i64 l) 33
          obtain ⟨V, hV⟩ : ∃ V, X3.alloc (.cells #[.slice ma n mc, .int .i64 N, .slice mb N md, .int .i64 l] 33) = V := ⟨_, rfl⟩
          rw [hV] at hgs hcs
          have hXV := HX3.out.trans hgs
          have HMV := Lib.hid (fun (W' : World) (g : V.grownBy W' none) => And.intro (hms.1.grown (hgs.trans g)) (hms.2.grown (hgs.trans g)))
          have HVV := Lib.hid hV; clear hV
          go_wp2_with fail
          rw [HVV.out]
          clear HVV
          obtain ⟨-, c0, c1, c2, c3⟩ := HS.out V (hX.trans hXV)
          have a0 := hXV.cell HA.out.1 (by simp)
          have a1 := hXV.cell HA.out.2.1 (by simp)
          have a2 := hXV.cell HA.out.2.2.1 (by simp)
          have a3 := hXV.cell HA.out.2.2.2 (by simp)
          have b0 := hXV.cell HBq.out.1 (by simp)
          have b1 := hXV.cell HBq.out.2.1 (by simp)
          have b2 := hXV.cell HBq.out.2.2.1 (by simp)
          have b3 := hXV.cell HBq.out.2.2.2 (by simp)
          obtain ⟨s0, s1, s2, s3⟩ := hcs
          have HXV := Lib.hid hXV; clear hXV hgs hms
          go_region_held3 (fun w' : World => V.grownBy w' none ∧ w'.cell? ⟨w.heap.size, 0, none⟩ = some (.slice sa n sc) ∧ w'.cell? ⟨w.heap.size, 1, none⟩ = some (.int .i64 st) ∧ w'.cell? ⟨w.heap.size, 2, none⟩ = some (.slice (some ⟨tb, to, none⟩) k tc) ∧ w'.cell? ⟨w.heap.size, 3, none⟩ = some (.int .i64 p) ∧ w'.cell? ⟨ga, 0, none⟩ = some (.slice sa n sc) ∧ w'.cell? ⟨ga, 1, none⟩ = some (.int .i64 m) ∧ w'.cell? ⟨ga, 2, none⟩ = some (.slice va m vc) ∧ w'.cell? ⟨ga, 3, none⟩ = some (.int .i64 p) ∧ w'.cell? ⟨gb, 0, none⟩ = some (.slice sa n sc) ∧ w'.cell? ⟨gb, 1, none⟩ = some (.int .i64 ((k : Int) + 1)) ∧ w'.cell? ⟨gb, 2, none⟩ = some (.slice vb (k + 1) vd) ∧ w'.cell? ⟨gb, 3, none⟩ = some (.int .i64 ((p : Int) + 1)) ∧ w'.cell? ⟨X3.heap.size, 0, none⟩ = some (.slice ma n mc) ∧ w'.cell? ⟨X3.heap.size, 1, none⟩ = some (.int .i64 N) ∧ w'.cell? ⟨X3.heap.size, 2, none⟩ = some (.slice mb N md) ∧ w'.cell? ⟨X3.heap.size, 3, none⟩ = some (.int .i64 l))
            (first | exact ⟨⟨rfl, rfl, rfl, Nat.le_refl _, fun _ _ _ => rfl⟩, c0, c1, c2, c3, a0, a1, a2, a3, b0, b1, b2, b3, s0, s1, s2, s3⟩ | (go_split_ands; exact held_next16 g3 (by assumption) (by assumption) (by assumption) (by assumption) (by assumption) (by assumption) (by assumption) (by assumption) (by assumption) (by assumption) (by assumption) (by assumption) (by assumption) (by assumption) (by assumption) (by assumption) (by assumption)) | assumption | fail)
            (first | (go_at_call 28; with_reducible refine (HC2.out _ (HXV.out.trans ?_)).mono ?_; (go_split_ands; assumption); rintro e u1 ⟨rfl, g3⟩) | (go_at_call 28; with_reducible refine (HC3.out _ (HXV.out.trans ?_)).mono ?_; (go_split_ands; assumption); rintro e u2 ⟨rfl, g3⟩) | (go_at_call 28; with_reducible refine (HC4.out _ (HXV.out.trans ?_)).mono ?_; (go_split_ands; assumption); rintro e u3 ⟨rfl, g3⟩) | (go_at_call 30; with_reducible refine (HC5.out _ (HXV.out.trans ?_)).mono ?_; (go_split_ands; assumption); rintro e u4 ⟨x1, y1, x2, y2, rfl, hin, g3⟩; have hmv := HMV.out u4 (by go_split_ands; exact World.grownBy.trans (by assumption) g3)) | (go_at_call 30; with_reducible refine (HC6.out _ (HXV.out.trans ?_)).mono ?_; (go_split_ands; assumption); rintro e u6 ⟨x3, y3, x4, y4, rfl, hin2, g3⟩; have hmv2 := HMV.out u6 (by go_split_ands; exact World.grownBy.trans (by assumption) g3)) | (go_at_call 21; with_reducible refine (HC7.out _ _ _ _ _ _ _ _ _ hin.1 hin.2 hmv.1 hmv.2).mono ?_; rintro e u5 ⟨rfl, g3⟩) | (go_at_call 21; with_reducible refine (HC7.out _ _ _ _ _ _ _ _ _ hin2.1 hin2.2 hmv2.1 hmv2.2).mono ?_; rintro e u7 ⟨rfl, g3⟩) | fail)
          all_goals
            have h7 : V.grownBy u7 none := by go_split_ands; assumption
            have HE := Lib.hid (HG.out.trans (HG2.out.trans (hX.trans (HXV.out.trans h7)))); clear h7
            go_wp2_with fail
            go_ret
            exact ⟨rfl, HE.out⟩
  · go_simp
    have HGq26 := Lib.hid (HGq00.out.trans (World.grownBy_alloc w2.drew (.cells #[.slice none 0 0, .int .i64 0, .slice none 0 0, .int .i64 0] 33) none))
    have HB26 : Hid (Held4 (w2.drew.alloc (.cells #[.slice none 0 0, .int .i64 0, .slice none 0 0, .int .i64 0] 33)) (w2.heap.size) (.slice none 0 0) (.int .i64 0) (.slice none 0 0) (.int .i64 0)) := Lib.hid (by have h := held4_new w2.drew; (try rw [World.size_alloc] at h); exact h)
    refine hK.out _ _ (HS.out _ HGq26.out) (fun hHeld => ?_)
    clear hK K
    try simp only [Act.put, List.setIfInBounds_toArray, List.set_cons_zero, List.set_cons_succ]
    refine wpAnyH_ready (rs := [1, 4]) (by kernel_rfl) (by simp) ?_
    refine (AllReadyH.cons (o := { dst := some 25, op := Op.call { callee := Callee.value (Operand.func 32), args := #[Operand.tmp 24], argTypes := #[33] }, type := 33, pos := "law.go:107", after := #[{ on := 0, ground := Ground.data }], guard := none }) rfl (fun K hK => ?_) (AllReadyH.cons (o := { dst := some 4, op := Op.alloc 33, type := 0, pos := "law.go:107", after := #[], guard := none }) rfl (fun K hK => ?_) AllReadyH.nil))
    · go_simp
      go_at_call 32
      refine (HRP.out _ HGq26.out).mono ?_
      rintro e y27 ⟨va, vc, rfl, hr, g⟩
      have HGq27 := Lib.hid (HGq26.out.trans g)
      have HB27 := Lib.hid (Held4.off HB26.out g (fun x e => by cases e))
      have HKA : Hid (∀ x, (Value.slice va _ vc).ownBlock = some x → w2.heap.size + 1 + 1 + 1 + 1 ≤ x ∧ x < y27.heap.size) := Lib.hid (by have h := hr.lt; (try simp only [World.size_alloc] at h); exact h)
      have HRA27 := Lib.hid hr; clear hr
      have HZ27 : Hid (w2.heap.size + 1 ≤ y27.heap.size) := Lib.hid (by have h := g.size; (try simp only [World.size_alloc] at h); exact h)
      clear g
      go_wp2_with fail
      refine hK.out _ _ (HS.out _ HGq27.out) (fun hHeld => ?_)
      clear hK K
      try simp only [Act.put, List.setIfInBounds_toArray, List.set_cons_zero, List.set_cons_succ]
      refine wpAnyH_ready (rs := [3, 4]) (by kernel_rfl) (by simp) ?_
      refine (AllReadyH.cons (o := { dst := some 27, op := Op.call { callee := Callee.value (Operand.func 33), args := #[Operand.tmp 26], argTypes := #[33] }, type := 33, pos := "law.go:107", after := #[{ on := 2, ground := Ground.data }, { on := 1, ground := Ground.chain }], guard := none }) rfl (fun K hK => ?_) (AllReadyH.cons (o := { dst := some 4, op := Op.alloc 33, type := 0, pos := "law.go:107", after := #[], guard := none }) rfl (fun K hK => ?_) AllReadyH.nil))
      · go_simp
        go_at_call 33
        refine (HSF.out _ HGq27.out).mono ?_
        rintro e y28 ⟨vb, vd, rfl, hr, g⟩
        have HGq28 := Lib.hid (HGq27.out.trans g)
        have HB28 := Lib.hid (Held4.off HB27.out g (fun x e => by cases e))
        have HRA28 := Lib.hid (own_grown HRA27.out g)
        have HKB : Hid (∀ x, (Value.slice vb _ vd).ownBlock = some x → y27.heap.size + 1 + 1 + 1 ≤ x ∧ x < y28.heap.size) := Lib.hid (by have h := hr.lt; (try simp only [World.size_alloc] at h); exact h)
        have HRB28 := Lib.hid hr; clear hr
        have HZ28 : Hid (y27.heap.size ≤ y28.heap.size) := Lib.hid (by have h := g.size; (try simp only [World.size_alloc] at h); exact h)
        clear g
        go_wp2_with fail
        refine hK.out _ _ (HS.out _ HGq28.out) (fun hHeld => ?_)
        clear hK K
        try simp only [Act.put, List.setIfInBounds_toArray, List.set_cons_zero, List.set_cons_succ]
        refine wpAnyH_ready (rs := [4]) (by kernel_rfl) (by simp) ?_
        refine (AllReadyH.cons (o := { dst := some 4, op := Op.alloc 33, type := 0, pos := "law.go:107", after := #[], guard := none }) rfl (fun K hK => ?_) AllReadyH.nil)
        · go_simp
          have HGq29 := Lib.hid (HGq28.out.trans (World.grownBy_alloc y28 (.cells #[.slice none 0 0, .int .i64 0, .slice none 0 0, .int .i64 0] 33) none))
          have HB29 := Lib.hid (Held4.off HB28.out (World.grownBy_alloc y28 (.cells #[.slice none 0 0, .int .i64 0, .slice none 0 0, .int .i64 0] 33) none) (fun x e => by cases e))
          have HRA29 := Lib.hid (HRA28.out.alloc (.cells #[.slice none 0 0, .int .i64 0, .slice none 0 0, .int .i64 0] 33))
          have HRB29 := Lib.hid (HRB28.out.alloc (.cells #[.slice none 0 0, .int .i64 0, .slice none 0 0, .int .i64 0] 33))
          have HA29 : Hid (Held4 (y28.alloc (.cells #[.slice none 0 0, .int .i64 0, .slice none 0 0, .int .i64 0] 33)) (y28.heap.size) (.slice none 0 0) (.int .i64 0) (.slice none 0 0) (.int .i64 0)) := Lib.hid (by have h := held4_new y28; (try rw [World.size_alloc] at h); exact h)
          refine hK.out _ _ (HS.out _ HGq29.out) (fun hHeld => ?_)
          clear hK K
          try simp only [Act.put, List.setIfInBounds_toArray, List.set_cons_zero, List.set_cons_succ]
          have FIN : ∃ (Y : World) (ga gb : Nat), Y = (y28.alloc (.cells #[.slice none 0 0, .int .i64 0, .slice none 0 0, .int .i64 0] 33)) ∧ ga = y28.heap.size ∧ gb = w2.heap.size ∧ Hid (w2.grownBy Y none ∧ Held4 Y ga (.slice none 0 0) (.int .i64 0) (.slice none 0 0) (.int .i64 0) ∧ Held4 Y gb (.slice none 0 0) (.int .i64 0) (.slice none 0 0) (.int .i64 0) ∧ (∃ b, Y.ownsRow b 40 1 (.slice va m vc) m (rowOf (D ++ D.drop p))) ∧ (∃ b, Y.ownsRow b 40 1 (.slice vb (k + 1) vd) (k + 1) (rowOf (D ++ [D.getD p ([], none, 0)]))) ∧ ga ≠ gb ∧ w2.heap.size ≤ ga ∧ w2.heap.size ≤ gb ∧ (∀ x, (Value.slice va m vc).ownBlock = some x → x ≠ ga ∧ x ≠ gb) ∧ (∀ x, (Value.slice vb (k + 1) vd).ownBlock = some x → x ≠ ga ∧ x ≠ gb)) := ⟨_, _, _, rfl, rfl, rfl, Lib.hid ⟨HGq29.out, HA29.out, HB29.out, ⟨_, HRA29.out⟩, ⟨_, HRB29.out⟩, (by have := HZ27.out; have := HZ28.out; omega), (by have := HZ27.out; have := HZ28.out; omega), (by have := HZ27.out; have := HZ28.out; omega), (fun x hx => by have := HZ27.out; have := HZ28.out; have := HKA.out x hx; omega), (fun x hx => by have := HZ27.out; have := HZ28.out; have := HKB.out x hx; omega)⟩⟩
          obtain ⟨Y, ga, gb, hY, hga, hgb, HF⟩ := FIN
          rw [← hga]
          rw [← hgb]
          rw [← hY]
          clear hY hga hgb
          clear hHeld
          obtain ⟨hY, kA, kB, ⟨bA, rA⟩, ⟨bB, rB⟩, hab, hga2, hgb2, nA, nB⟩ := HF.out
          obtain ⟨⟨a0, a1, a2, a3⟩, af⟩ := kA
          have af0 := af 0
          have af1 := af 1
          have af2 := af 2
          have af3 := af 3
          clear af
          have hHeld := HS.out _ hY
          refine wpAnyH_ready (rs := [6]) (by kernel_rfl) (by simp) ?_
          refine AllReadyH.cons (o := { dst := none, op := Op.store 33 (Operand.tmp 4) (Operand.tmp 25), type := 0, pos := "law.go:107", after := #[{ on := 4, ground := Ground.data }, { on := 1, ground := Ground.data }, { on := 3, ground := Ground.chain }, { on := 0, ground := Ground.phase }, { on := 1, ground := Ground.phase }, { on := 2, ground := Ground.textOnly Departure.lateStores }, { on := 3, ground := Ground.textOnly Departure.lateStoresUnsure }, { on := 4, ground := Ground.phase }, { on := 5, ground := Ground.phase }], guard := none }) rfl (fun K hK => ?_) AllReadyH.nil
          go_simp
          obtain ⟨p0, p1, p2, p3, pg⟩ := four_sets (.slice sa n sc) (.int .i64 m) (.slice va m vc) (.int .i64 p) a0 a1 a2 a3
          have hX1 := grown_own hY pg (fun x hx => by cases hx; exact hga2)
          refine hK.out _ _ (HS.out _ hX1) (fun hHeld => ?_)
          clear hK K
          try simp only [Act.put, List.setIfInBounds_toArray, List.set_cons_zero, List.set_cons_succ]
          have kB1 := kB.off pg (fun x hx => by cases hx; exact hab)
          have rA1 := rA.kept pg (own_off (fun x hx => (nA x hx).1))
          have rB1 := rB.kept pg (own_off (fun x hx => (nB x hx).1))
          obtain ⟨X1, hXe⟩ : ∃ X1, ((((Y.setCell ⟨ga, 0, none⟩ (.slice sa n sc)).setCell ⟨ga, 1, none⟩ (.int .i64 m)).setCell ⟨ga, 2, none⟩ (.slice va m vc)).setCell ⟨ga, 3, none⟩ (.int .i64 p)) = X1 := ⟨_, rfl⟩
          rw [hXe] at p0 p1 p2 p3 hX1 kB1 rA1 rB1 hHeld ⊢
          clear hXe pg a0 a1 a2 a3 af0 af1 af2 af3 kB rA rB
          obtain ⟨⟨b0, b1, b2, b3⟩, bf⟩ := kB1
          have bf0 := bf 0
          have bf1 := bf 1
          have bf2 := bf 2
          have bf3 := bf 3
          clear bf
          refine wpAnyH_ready (rs := [7]) (by kernel_rfl) (by simp) ?_
          refine AllReadyH.cons (o := { dst := none, op := Op.store 33 (Operand.tmp 5) (Operand.tmp 27), type := 0, pos := "law.go:107", after := #[{ on := 5, ground := Ground.data }, { on := 3, ground := Ground.data }, { on := 6, ground := Ground.chain }, { on := 0, ground := Ground.phase }, { on := 1, ground := Ground.phase }, { on := 2, ground := Ground.phase }, { on := 3, ground := Ground.phase }, { on := 4, ground := Ground.phase }, { on := 5, ground := Ground.phase }, { on := 6, ground := Ground.phase }], guard := none }) rfl (fun K hK => ?_) AllReadyH.nil
          go_simp
          obtain ⟨q0, q1, q2, q3, qg⟩ := four_sets (.slice sa n sc) (.int .i64 ((k : Int) + 1)) (.slice vb (k + 1) vd) (.int .i64 ((p : Int) + 1)) b0 b1 b2 b3
          have hX2 := grown_own hX1 qg (fun x hx => by cases hx; exact hgb2)
          refine hK.out _ _ (HS.out _ hX2) (fun hHeld => ?_)
          clear hK K
          try simp only [Act.put, List.setIfInBounds_toArray, List.set_cons_zero, List.set_cons_succ]
          have ne : (some ga : Option Nat) ≠ some gb := fun e => by injection e with e; exact hab e
          have HA := Lib.hid (And.intro (qg.cell p0 ne) (And.intro (qg.cell p1 ne) (And.intro (qg.cell p2 ne) (qg.cell p3 ne))))
          have rA2 := rA1.kept qg (own_off (fun x hx => (nA x hx).2))
          have rB2 := rB1.kept qg (own_off (fun x hx => (nB x hx).2))
          have HBq := Lib.hid (And.intro q0 (And.intro q1 (And.intro q2 q3)))
          have HR := Lib.hid (And.intro rA2 rB2)
          have HXX := Lib.hid hX2
          obtain ⟨X2, hXe⟩ : ∃ X2, ((((X1.setCell ⟨gb, 0, none⟩ (.slice sa n sc)).setCell ⟨gb, 1, none⟩ (.int .i64 ((k : Int) + 1))).setCell ⟨gb, 2, none⟩ (.slice vb (k + 1) vd)).setCell ⟨gb, 3, none⟩ (.int .i64 ((p : Int) + 1))) = X2 := ⟨_, rfl⟩
          rw [hXe] at HA HBq HR HXX hHeld ⊢
          clear hXe qg b0 b1 b2 b3 bf0 bf1 bf2 bf3 rA1 rB1 rA2 rB2 p0 p1 p2 p3 q0 q1 q2 q3 hX1 hX2 nA nB hY ne
          refine wpAnyH_done (by kernel_rfl) ?_ _
          clear hHeld HF
          have hX := HXX.out
          obtain ⟨-, c0, c1, c2, c3⟩ := HS.out X2 hX
          have hrel : ∀ d ∈ D, Rels X2 d.2.1 d.2.2 d.1 := fun d hd => (HD.out.2 d hd).grown hX
          have hDl : D.length = k := by rw [← HN.out.2.1, ← HD.out.1, List.length_map]
          obtain ⟨dp, hdp⟩ : ∃ d, D[p]? = some d := ⟨_, List.getElem?_eq_getElem (by omega)⟩
          have hgd : D.getD p ([], none, 0) = dp := by rw [List.getD_eq_getElem?_getD, hdp]; rfl
          have hld : L.getD p [] = dp.1 := by rw [← HD.out.1, List.getD_eq_getElem?_getD, List.getElem?_map, hdp]; rfl
          obtain ⟨za, zc, hv, hsA⟩ := sts_of_row HR.out.1 (by rw [List.length_append, List.length_drop, hDl]; exact HM60.out.symm) (fun d hd => by
            rw [List.mem_append] at hd
            rcases hd with hd | hd
            · exact hrel d hd
            · exact hrel d (List.mem_of_mem_drop hd))
          injection hv with e1 _ e3
          subst e1 e3
          rw [List.map_append, List.map_drop, HD.out.1] at hsA
          obtain ⟨zb, zd, hv, hsB⟩ := sts_of_row HR.out.2 (by rw [List.length_append, hDl]; rfl) (fun d hd => by
            rw [List.mem_append, List.mem_singleton] at hd
            rcases hd with hd | rfl
            · exact hrel d hd
            · rw [hgd]; exact hrel dp (List.mem_of_getElem? hdp))
          injection hv with e1 _ e3
          subst e1 e3
          rw [List.map_append, HD.out.1, hgd, show List.map (fun x : Ds => x.1) [dp] = [L.getD p []] from by rw [hld]; rfl] at hsB
          have hsmA : ∀ r ∈ L ++ L.drop p, r.length ≤ 10 ∧ ∀ x ∈ r, x.2.length ≤ 200 := fun r hr => by
            rw [List.mem_append] at hr
            rcases hr with hr | hr
            · exact HF.out.2.2 r hr
            · exact HF.out.2.2 r (List.mem_of_mem_drop hr)
          have hsmB : ∀ r ∈ L ++ [L.getD p []], r.length ≤ 10 ∧ ∀ x ∈ r, x.2.length ≤ 200 := fun r hr => by
            rw [List.mem_append, List.mem_singleton] at hr
            rcases hr with hr | rfl
            · exact HF.out.2.2 r hr
            · exact HF.out.2.2 _ (by rw [hld]; have h := List.mem_map_of_mem (f := fun x : Ds => x.1) (List.mem_of_getElem? hdp); rw [HD.out.1] at h; exact h)
          have HAB := Lib.hid (And.intro hsA (And.intro hsB (And.intro hsmA hsmB))); clear hsA hsB hsmA hsmB hrel hdp hgd hld
          have HUV := Lib.hid (fun (W' : World) (g : X2.grownBy W' none) => And.intro (HN.out.2.2.1.grown (HG.out.trans (HG2.out.trans (hX.trans g)))).weak (HN.out.2.2.2.grown (HG.out.trans (HG2.out.trans (hX.trans g)))))
          have hpL := HP.out
          have hkL := HN.out.2.1
          have hlb : (L ++ [L.getD p []]).length = k + 1 := by rw [List.length_append, hkL]; rfl
          have HC1 := Lib.hid (fun (W' : World) (g : X2.grownBy W' none) => short_same (st := st) (HUV.out W' g).1 (HUV.out W' g).2 HN.out.1 hkL hn10 hk64 (by omega) hpL HF.out.2.2 (fun _ => rfl) rfl HMN.out.1 HMN.out.2.1 HMN.out.2.2.1)
          have HC2 := Lib.hid (fun (W' : World) (g : X2.grownBy W' none) => same_true (st := st) (st' := m) (HUV.out W' g).1 (HUV.out W' g).1 (HUV.out W' g).2 (HAB.out.1.grown g) HN.out.1 hkL HM.out hn10 hk64 (by omega) (by omega) (by omega) HF.out.2.2 (fun t => (trL_repeat hpL t).symm) rfl rfl)
          have HC3 := Lib.hid (fun (W' : World) (g : X2.grownBy W' none) => same_true (lp' := (p : Int) + 1) (st := st) (st' := (k : Int) + 1) (HUV.out W' g).1 (HUV.out W' g).1 (HUV.out W' g).2 (HAB.out.2.1.grown g) HN.out.1 hkL hlb hn10 hk64 (by omega) (by omega) (by omega) HF.out.2.2 (fun t => (trL_shift hpL t).symm) rfl (by omega))
          have HC4 := Lib.hid (fun (W' : World) (g : X2.grownBy W' none) => same_true (lp' := (p : Int) + 1) (st := m) (st' := (k : Int) + 1) (HUV.out W' g).1 (HUV.out W' g).1 (HAB.out.1.grown g) (HAB.out.2.1.grown g) HN.out.1 HM.out hlb hn10 (by omega) (by omega) (by omega) (by omega) HAB.out.2.2.1 (fun t => (trL_repeat hpL t).trans (trL_shift hpL t).symm) rfl (by omega))
          have HC5 := Lib.hid (fun (W' : World) (g : X2.grownBy W' none) => short_same (st := m) (HUV.out W' g).1 (HAB.out.1.grown g) HN.out.1 HM.out hn10 (by omega) (by omega) hpL HAB.out.2.2.1 (trL_repeat hpL) rfl HMN.out.1 HMN.out.2.1 HMN.out.2.2.1)
          have HC6 := Lib.hid (fun (W' : World) (g : X2.grownBy W' none) => short_same (lp := (p : Int) + 1) (st := (k : Int) + 1) (HUV.out W' g).1 (HAB.out.2.1.grown g) HN.out.1 hlb hn10 (by omega) (by omega) hpL HAB.out.2.2.2 (trL_shift hpL) (by omega) HMN.out.1 HMN.out.2.1 HMN.out.2.2.1)
          have HC7 := Lib.hid (fun (x z x' z' : Option Addr) (c d c' d' : Nat) (W' : World) (hx : Ints W' x c us) (hz : Sts W' z d M) (hx' : Ints W' x' c' us) (hz' : Sts W' z' d' M) => req_true (st := (N : Int)) (lp := (l : Int)) hx.weak hx'.weak hz hz' HN.out.1 HMN.out.2.2.1 hn10 hN64 HMN.out.2.2.2)
          clear hpL hkL hlb
          go_wp2_with fail
          refine (HC1.out X2 (grown_refl _ _)).mono ?_
          rintro e X3 ⟨ma, mc, mb, md, rfl, hms, g3⟩
          have HX3 := Lib.hid g3; clear g3 c0 c1 c2 c3
          have hgs := World.grownBy_alloc X3 (.cells #[.slice ma n mc, .int .i64 N, .slice mb N md, .int .i64 l] 33) none
          have hcs := four_cells X3 (.slice ma n mc) (.int .i64 N) (.slice mb N md) (.int .i64 l) 33
          obtain ⟨V, hV⟩ : ∃ V, X3.alloc (.cells #[.slice ma n mc, .int .i64 N, .slice mb N md, .int .i64 l] 33) = V := ⟨_, rfl⟩
          rw [hV] at hgs hcs
          have hXV := HX3.out.trans hgs
          have HMV := Lib.hid (fun (W' : World) (g : V.grownBy W' none) => And.intro (hms.1.grown (hgs.trans g)) (hms.2.grown (hgs.trans g)))
          have HVV := Lib.hid hV; clear hV
          go_wp2_with fail
          rw [HVV.out]
          clear HVV
          obtain ⟨-, c0, c1, c2, c3⟩ := HS.out V (hX.trans hXV)
          have a0 := hXV.cell HA.out.1 (by simp)
          have a1 := hXV.cell HA.out.2.1 (by simp)
          have a2 := hXV.cell HA.out.2.2.1 (by simp)
          have a3 := hXV.cell HA.out.2.2.2 (by simp)
          have b0 := hXV.cell HBq.out.1 (by simp)
          have b1 := hXV.cell HBq.out.2.1 (by simp)
          have b2 := hXV.cell HBq.out.2.2.1 (by simp)
          have b3 := hXV.cell HBq.out.2.2.2 (by simp)
          obtain ⟨s0, s1, s2, s3⟩ := hcs
          have HXV := Lib.hid hXV; clear hXV hgs hms
          go_region_held3 (fun w' : World => V.grownBy w' none ∧ w'.cell? ⟨w.heap.size, 0, none⟩ = some (.slice sa n sc) ∧ w'.cell? ⟨w.heap.size, 1, none⟩ = some (.int .i64 st) ∧ w'.cell? ⟨w.heap.size, 2, none⟩ = some (.slice (some ⟨tb, to, none⟩) k tc) ∧ w'.cell? ⟨w.heap.size, 3, none⟩ = some (.int .i64 p) ∧ w'.cell? ⟨ga, 0, none⟩ = some (.slice sa n sc) ∧ w'.cell? ⟨ga, 1, none⟩ = some (.int .i64 m) ∧ w'.cell? ⟨ga, 2, none⟩ = some (.slice va m vc) ∧ w'.cell? ⟨ga, 3, none⟩ = some (.int .i64 p) ∧ w'.cell? ⟨gb, 0, none⟩ = some (.slice sa n sc) ∧ w'.cell? ⟨gb, 1, none⟩ = some (.int .i64 ((k : Int) + 1)) ∧ w'.cell? ⟨gb, 2, none⟩ = some (.slice vb (k + 1) vd) ∧ w'.cell? ⟨gb, 3, none⟩ = some (.int .i64 ((p : Int) + 1)) ∧ w'.cell? ⟨X3.heap.size, 0, none⟩ = some (.slice ma n mc) ∧ w'.cell? ⟨X3.heap.size, 1, none⟩ = some (.int .i64 N) ∧ w'.cell? ⟨X3.heap.size, 2, none⟩ = some (.slice mb N md) ∧ w'.cell? ⟨X3.heap.size, 3, none⟩ = some (.int .i64 l))
            (first | exact ⟨⟨rfl, rfl, rfl, Nat.le_refl _, fun _ _ _ => rfl⟩, c0, c1, c2, c3, a0, a1, a2, a3, b0, b1, b2, b3, s0, s1, s2, s3⟩ | (go_split_ands; exact held_next16 g3 (by assumption) (by assumption) (by assumption) (by assumption) (by assumption) (by assumption) (by assumption) (by assumption) (by assumption) (by assumption) (by assumption) (by assumption) (by assumption) (by assumption) (by assumption) (by assumption) (by assumption)) | assumption | fail)
            (first | (go_at_call 28; with_reducible refine (HC2.out _ (HXV.out.trans ?_)).mono ?_; (go_split_ands; assumption); rintro e u1 ⟨rfl, g3⟩) | (go_at_call 28; with_reducible refine (HC3.out _ (HXV.out.trans ?_)).mono ?_; (go_split_ands; assumption); rintro e u2 ⟨rfl, g3⟩) | (go_at_call 28; with_reducible refine (HC4.out _ (HXV.out.trans ?_)).mono ?_; (go_split_ands; assumption); rintro e u3 ⟨rfl, g3⟩) | (go_at_call 30; with_reducible refine (HC5.out _ (HXV.out.trans ?_)).mono ?_; (go_split_ands; assumption); rintro e u4 ⟨x1, y1, x2, y2, rfl, hin, g3⟩; have hmv := HMV.out u4 (by go_split_ands; exact World.grownBy.trans (by assumption) g3)) | (go_at_call 30; with_reducible refine (HC6.out _ (HXV.out.trans ?_)).mono ?_; (go_split_ands; assumption); rintro e u6 ⟨x3, y3, x4, y4, rfl, hin2, g3⟩; have hmv2 := HMV.out u6 (by go_split_ands; exact World.grownBy.trans (by assumption) g3)) | (go_at_call 21; with_reducible refine (HC7.out _ _ _ _ _ _ _ _ _ hin.1 hin.2 hmv.1 hmv.2).mono ?_; rintro e u5 ⟨rfl, g3⟩) | (go_at_call 21; with_reducible refine (HC7.out _ _ _ _ _ _ _ _ _ hin2.1 hin2.2 hmv2.1 hmv2.2).mono ?_; rintro e u7 ⟨rfl, g3⟩) | fail)
          all_goals
            have h7 : V.grownBy u7 none := by go_split_ands; assumption
            have HE := Lib.hid (HG.out.trans (HG2.out.trans (hX.trans (HXV.out.trans h7)))); clear h7
            go_wp2_with fail
            go_ret
            exact ⟨rfl, HE.out⟩
      · go_simp
        have HGq30 := Lib.hid (HGq27.out.trans (World.grownBy_alloc y27 (.cells #[.slice none 0 0, .int .i64 0, .slice none 0 0, .int .i64 0] 33) none))
        have HB30 := Lib.hid (Held4.off HB27.out (World.grownBy_alloc y27 (.cells #[.slice none 0 0, .int .i64 0, .slice none 0 0, .int .i64 0] 33) none) (fun x e => by cases e))
        have HRA30 := Lib.hid (HRA27.out.alloc (.cells #[.slice none 0 0, .int .i64 0, .slice none 0 0, .int .i64 0] 33))
        have HA30 : Hid (Held4 (y27.alloc (.cells #[.slice none 0 0, .int .i64 0, .slice none 0 0, .int .i64 0] 33)) (y27.heap.size) (.slice none 0 0) (.int .i64 0) (.slice none 0 0) (.int .i64 0)) := Lib.hid (by have h := held4_new y27; (try rw [World.size_alloc] at h); exact h)
        refine hK.out _ _ (HS.out _ HGq30.out) (fun hHeld => ?_)
        clear hK K
        try simp only [Act.put, List.setIfInBounds_toArray, List.set_cons_zero, List.set_cons_succ]
        refine wpAnyH_ready (rs := [3]) (by kernel_rfl) (by simp) ?_
        refine (AllReadyH.cons (o := { dst := some 27, op := Op.call { callee := Callee.value (Operand.func 33), args := #[Operand.tmp 26], argTypes := #[33] }, type := 33, pos := "law.go:107", after := #[{ on := 2, ground := Ground.data }, { on := 1, ground := Ground.chain }], guard := none }) rfl (fun K hK => ?_) AllReadyH.nil)
        · go_simp
          go_at_call 33
          refine (HSF.out _ HGq30.out).mono ?_
          rintro e y31 ⟨vb, vd, rfl, hr, g⟩
          have HGq31 := Lib.hid (HGq30.out.trans g)
          have HA31 := Lib.hid (Held4.off HA30.out g (fun x e => by cases e))
          have HB31 := Lib.hid (Held4.off HB30.out g (fun x e => by cases e))
          have HRA31 := Lib.hid (own_grown HRA30.out g)
          have HKB : Hid (∀ x, (Value.slice vb _ vd).ownBlock = some x → y27.heap.size + 1 + 1 + 1 + 1 ≤ x ∧ x < y31.heap.size) := Lib.hid (by have h := hr.lt; (try simp only [World.size_alloc] at h); exact h)
          have HRB31 := Lib.hid hr; clear hr
          have HZ31 : Hid (y27.heap.size + 1 ≤ y31.heap.size) := Lib.hid (by have h := g.size; (try simp only [World.size_alloc] at h); exact h)
          clear g
          go_wp2_with fail
          refine hK.out _ _ (HS.out _ HGq31.out) (fun hHeld => ?_)
          clear hK K
          try simp only [Act.put, List.setIfInBounds_toArray, List.set_cons_zero, List.set_cons_succ]
          have FIN : ∃ (Y : World) (ga gb : Nat), Y = y31 ∧ ga = y27.heap.size ∧ gb = w2.heap.size ∧ Hid (w2.grownBy Y none ∧ Held4 Y ga (.slice none 0 0) (.int .i64 0) (.slice none 0 0) (.int .i64 0) ∧ Held4 Y gb (.slice none 0 0) (.int .i64 0) (.slice none 0 0) (.int .i64 0) ∧ (∃ b, Y.ownsRow b 40 1 (.slice va m vc) m (rowOf (D ++ D.drop p))) ∧ (∃ b, Y.ownsRow b 40 1 (.slice vb (k + 1) vd) (k + 1) (rowOf (D ++ [D.getD p ([], none, 0)]))) ∧ ga ≠ gb ∧ w2.heap.size ≤ ga ∧ w2.heap.size ≤ gb ∧ (∀ x, (Value.slice va m vc).ownBlock = some x → x ≠ ga ∧ x ≠ gb) ∧ (∀ x, (Value.slice vb (k + 1) vd).ownBlock = some x → x ≠ ga ∧ x ≠ gb)) := ⟨_, _, _, rfl, rfl, rfl, Lib.hid ⟨HGq31.out, HA31.out, HB31.out, ⟨_, HRA31.out⟩, ⟨_, HRB31.out⟩, (by have := HZ27.out; have := HZ31.out; omega), (by have := HZ27.out; have := HZ31.out; omega), (by have := HZ27.out; have := HZ31.out; omega), (fun x hx => by have := HZ27.out; have := HZ31.out; have := HKA.out x hx; omega), (fun x hx => by have := HZ27.out; have := HZ31.out; have := HKB.out x hx; omega)⟩⟩
          obtain ⟨Y, ga, gb, hY, hga, hgb, HF⟩ := FIN
          rw [← hga]
          rw [← hgb]
          rw [← hY]
          clear hY hga hgb
          clear hHeld
          obtain ⟨hY, kA, kB, ⟨bA, rA⟩, ⟨bB, rB⟩, hab, hga2, hgb2, nA, nB⟩ := HF.out
          obtain ⟨⟨a0, a1, a2, a3⟩, af⟩ := kA
          have af0 := af 0
          have af1 := af 1
          have af2 := af 2
          have af3 := af 3
          clear af
          have hHeld := HS.out _ hY
          refine wpAnyH_ready (rs := [6]) (by kernel_rfl) (by simp) ?_
          refine AllReadyH.cons (o := { dst := none, op := Op.store 33 (Operand.tmp 4) (Operand.tmp 25), type := 0, pos := "law.go:107", after := #[{ on := 4, ground := Ground.data }, { on := 1, ground := Ground.data }, { on := 3, ground := Ground.chain }, { on := 0, ground := Ground.phase }, { on := 1, ground := Ground.phase }, { on := 2, ground := Ground.textOnly Departure.lateStores }, { on := 3, ground := Ground.textOnly Departure.lateStoresUnsure }, { on := 4, ground := Ground.phase }, { on := 5, ground := Ground.phase }], guard := none }) rfl (fun K hK => ?_) AllReadyH.nil
          go_simp
          obtain ⟨p0, p1, p2, p3, pg⟩ := four_sets (.slice sa n sc) (.int .i64 m) (.slice va m vc) (.int .i64 p) a0 a1 a2 a3
          have hX1 := grown_own hY pg (fun x hx => by cases hx; exact hga2)
          refine hK.out _ _ (HS.out _ hX1) (fun hHeld => ?_)
          clear hK K
          try simp only [Act.put, List.setIfInBounds_toArray, List.set_cons_zero, List.set_cons_succ]
          have kB1 := kB.off pg (fun x hx => by cases hx; exact hab)
          have rA1 := rA.kept pg (own_off (fun x hx => (nA x hx).1))
          have rB1 := rB.kept pg (own_off (fun x hx => (nB x hx).1))
          obtain ⟨X1, hXe⟩ : ∃ X1, ((((Y.setCell ⟨ga, 0, none⟩ (.slice sa n sc)).setCell ⟨ga, 1, none⟩ (.int .i64 m)).setCell ⟨ga, 2, none⟩ (.slice va m vc)).setCell ⟨ga, 3, none⟩ (.int .i64 p)) = X1 := ⟨_, rfl⟩
          rw [hXe] at p0 p1 p2 p3 hX1 kB1 rA1 rB1 hHeld ⊢
          clear hXe pg a0 a1 a2 a3 af0 af1 af2 af3 kB rA rB
          obtain ⟨⟨b0, b1, b2, b3⟩, bf⟩ := kB1
          have bf0 := bf 0
          have bf1 := bf 1
          have bf2 := bf 2
          have bf3 := bf 3
          clear bf
          refine wpAnyH_ready (rs := [7]) (by kernel_rfl) (by simp) ?_
          refine AllReadyH.cons (o := { dst := none, op := Op.store 33 (Operand.tmp 5) (Operand.tmp 27), type := 0, pos := "law.go:107", after := #[{ on := 5, ground := Ground.data }, { on := 3, ground := Ground.data }, { on := 6, ground := Ground.chain }, { on := 0, ground := Ground.phase }, { on := 1, ground := Ground.phase }, { on := 2, ground := Ground.phase }, { on := 3, ground := Ground.phase }, { on := 4, ground := Ground.phase }, { on := 5, ground := Ground.phase }, { on := 6, ground := Ground.phase }], guard := none }) rfl (fun K hK => ?_) AllReadyH.nil
          go_simp
          obtain ⟨q0, q1, q2, q3, qg⟩ := four_sets (.slice sa n sc) (.int .i64 ((k : Int) + 1)) (.slice vb (k + 1) vd) (.int .i64 ((p : Int) + 1)) b0 b1 b2 b3
          have hX2 := grown_own hX1 qg (fun x hx => by cases hx; exact hgb2)
          refine hK.out _ _ (HS.out _ hX2) (fun hHeld => ?_)
          clear hK K
          try simp only [Act.put, List.setIfInBounds_toArray, List.set_cons_zero, List.set_cons_succ]
          have ne : (some ga : Option Nat) ≠ some gb := fun e => by injection e with e; exact hab e
          have HA := Lib.hid (And.intro (qg.cell p0 ne) (And.intro (qg.cell p1 ne) (And.intro (qg.cell p2 ne) (qg.cell p3 ne))))
          have rA2 := rA1.kept qg (own_off (fun x hx => (nA x hx).2))
          have rB2 := rB1.kept qg (own_off (fun x hx => (nB x hx).2))
          have HBq := Lib.hid (And.intro q0 (And.intro q1 (And.intro q2 q3)))
          have HR := Lib.hid (And.intro rA2 rB2)
          have HXX := Lib.hid hX2
          obtain ⟨X2, hXe⟩ : ∃ X2, ((((X1.setCell ⟨gb, 0, none⟩ (.slice sa n sc)).setCell ⟨gb, 1, none⟩ (.int .i64 ((k : Int) + 1))).setCell ⟨gb, 2, none⟩ (.slice vb (k + 1) vd)).setCell ⟨gb, 3, none⟩ (.int .i64 ((p : Int) + 1))) = X2 := ⟨_, rfl⟩
          rw [hXe] at HA HBq HR HXX hHeld ⊢
          clear hXe qg b0 b1 b2 b3 bf0 bf1 bf2 bf3 rA1 rB1 rA2 rB2 p0 p1 p2 p3 q0 q1 q2 q3 hX1 hX2 nA nB hY ne
          refine wpAnyH_done (by kernel_rfl) ?_ _
          clear hHeld HF
          have hX := HXX.out
          obtain ⟨-, c0, c1, c2, c3⟩ := HS.out X2 hX
          have hrel : ∀ d ∈ D, Rels X2 d.2.1 d.2.2 d.1 := fun d hd => (HD.out.2 d hd).grown hX
          have hDl : D.length = k := by rw [← HN.out.2.1, ← HD.out.1, List.length_map]
          obtain ⟨dp, hdp⟩ : ∃ d, D[p]? = some d := ⟨_, List.getElem?_eq_getElem (by omega)⟩
          have hgd : D.getD p ([], none, 0) = dp := by rw [List.getD_eq_getElem?_getD, hdp]; rfl
          have hld : L.getD p [] = dp.1 := by rw [← HD.out.1, List.getD_eq_getElem?_getD, List.getElem?_map, hdp]; rfl
          obtain ⟨za, zc, hv, hsA⟩ := sts_of_row HR.out.1 (by rw [List.length_append, List.length_drop, hDl]; exact HM60.out.symm) (fun d hd => by
            rw [List.mem_append] at hd
            rcases hd with hd | hd
            · exact hrel d hd
            · exact hrel d (List.mem_of_mem_drop hd))
          injection hv with e1 _ e3
          subst e1 e3
          rw [List.map_append, List.map_drop, HD.out.1] at hsA
          obtain ⟨zb, zd, hv, hsB⟩ := sts_of_row HR.out.2 (by rw [List.length_append, hDl]; rfl) (fun d hd => by
            rw [List.mem_append, List.mem_singleton] at hd
            rcases hd with hd | rfl
            · exact hrel d hd
            · rw [hgd]; exact hrel dp (List.mem_of_getElem? hdp))
          injection hv with e1 _ e3
          subst e1 e3
          rw [List.map_append, HD.out.1, hgd, show List.map (fun x : Ds => x.1) [dp] = [L.getD p []] from by rw [hld]; rfl] at hsB
          have hsmA : ∀ r ∈ L ++ L.drop p, r.length ≤ 10 ∧ ∀ x ∈ r, x.2.length ≤ 200 := fun r hr => by
            rw [List.mem_append] at hr
            rcases hr with hr | hr
            · exact HF.out.2.2 r hr
            · exact HF.out.2.2 r (List.mem_of_mem_drop hr)
          have hsmB : ∀ r ∈ L ++ [L.getD p []], r.length ≤ 10 ∧ ∀ x ∈ r, x.2.length ≤ 200 := fun r hr => by
            rw [List.mem_append, List.mem_singleton] at hr
            rcases hr with hr | rfl
            · exact HF.out.2.2 r hr
            · exact HF.out.2.2 _ (by rw [hld]; have h := List.mem_map_of_mem (f := fun x : Ds => x.1) (List.mem_of_getElem? hdp); rw [HD.out.1] at h; exact h)
          have HAB := Lib.hid (And.intro hsA (And.intro hsB (And.intro hsmA hsmB))); clear hsA hsB hsmA hsmB hrel hdp hgd hld
          have HUV := Lib.hid (fun (W' : World) (g : X2.grownBy W' none) => And.intro (HN.out.2.2.1.grown (HG.out.trans (HG2.out.trans (hX.trans g)))).weak (HN.out.2.2.2.grown (HG.out.trans (HG2.out.trans (hX.trans g)))))
          have hpL := HP.out
          have hkL := HN.out.2.1
          have hlb : (L ++ [L.getD p []]).length = k + 1 := by rw [List.length_append, hkL]; rfl
          have HC1 := Lib.hid (fun (W' : World) (g : X2.grownBy W' none) => short_same (st := st) (HUV.out W' g).1 (HUV.out W' g).2 HN.out.1 hkL hn10 hk64 (by omega) hpL HF.out.2.2 (fun _ => rfl) rfl HMN.out.1 HMN.out.2.1 HMN.out.2.2.1)
          have HC2 := Lib.hid (fun (W' : World) (g : X2.grownBy W' none) => same_true (st := st) (st' := m) (HUV.out W' g).1 (HUV.out W' g).1 (HUV.out W' g).2 (HAB.out.1.grown g) HN.out.1 hkL HM.out hn10 hk64 (by omega) (by omega) (by omega) HF.out.2.2 (fun t => (trL_repeat hpL t).symm) rfl rfl)
          have HC3 := Lib.hid (fun (W' : World) (g : X2.grownBy W' none) => same_true (lp' := (p : Int) + 1) (st := st) (st' := (k : Int) + 1) (HUV.out W' g).1 (HUV.out W' g).1 (HUV.out W' g).2 (HAB.out.2.1.grown g) HN.out.1 hkL hlb hn10 hk64 (by omega) (by omega) (by omega) HF.out.2.2 (fun t => (trL_shift hpL t).symm) rfl (by omega))
          have HC4 := Lib.hid (fun (W' : World) (g : X2.grownBy W' none) => same_true (lp' := (p : Int) + 1) (st := m) (st' := (k : Int) + 1) (HUV.out W' g).1 (HUV.out W' g).1 (HAB.out.1.grown g) (HAB.out.2.1.grown g) HN.out.1 HM.out hlb hn10 (by omega) (by omega) (by omega) (by omega) HAB.out.2.2.1 (fun t => (trL_repeat hpL t).trans (trL_shift hpL t).symm) rfl (by omega))
          have HC5 := Lib.hid (fun (W' : World) (g : X2.grownBy W' none) => short_same (st := m) (HUV.out W' g).1 (HAB.out.1.grown g) HN.out.1 HM.out hn10 (by omega) (by omega) hpL HAB.out.2.2.1 (trL_repeat hpL) rfl HMN.out.1 HMN.out.2.1 HMN.out.2.2.1)
          have HC6 := Lib.hid (fun (W' : World) (g : X2.grownBy W' none) => short_same (lp := (p : Int) + 1) (st := (k : Int) + 1) (HUV.out W' g).1 (HAB.out.2.1.grown g) HN.out.1 hlb hn10 (by omega) (by omega) hpL HAB.out.2.2.2 (trL_shift hpL) (by omega) HMN.out.1 HMN.out.2.1 HMN.out.2.2.1)
          have HC7 := Lib.hid (fun (x z x' z' : Option Addr) (c d c' d' : Nat) (W' : World) (hx : Ints W' x c us) (hz : Sts W' z d M) (hx' : Ints W' x' c' us) (hz' : Sts W' z' d' M) => req_true (st := (N : Int)) (lp := (l : Int)) hx.weak hx'.weak hz hz' HN.out.1 HMN.out.2.2.1 hn10 hN64 HMN.out.2.2.2)
          clear hpL hkL hlb
          go_wp2_with fail
          refine (HC1.out X2 (grown_refl _ _)).mono ?_
          rintro e X3 ⟨ma, mc, mb, md, rfl, hms, g3⟩
          have HX3 := Lib.hid g3; clear g3 c0 c1 c2 c3
          have hgs := World.grownBy_alloc X3 (.cells #[.slice ma n mc, .int .i64 N, .slice mb N md, .int .i64 l] 33) none
          have hcs := four_cells X3 (.slice ma n mc) (.int .i64 N) (.slice mb N md) (.int .i64 l) 33
          obtain ⟨V, hV⟩ : ∃ V, X3.alloc (.cells #[.slice ma n mc, .int .i64 N, .slice mb N md, .int .i64 l] 33) = V := ⟨_, rfl⟩
          rw [hV] at hgs hcs
          have hXV := HX3.out.trans hgs
          have HMV := Lib.hid (fun (W' : World) (g : V.grownBy W' none) => And.intro (hms.1.grown (hgs.trans g)) (hms.2.grown (hgs.trans g)))
          have HVV := Lib.hid hV; clear hV
          go_wp2_with fail
          rw [HVV.out]
          clear HVV
          obtain ⟨-, c0, c1, c2, c3⟩ := HS.out V (hX.trans hXV)
          have a0 := hXV.cell HA.out.1 (by simp)
          have a1 := hXV.cell HA.out.2.1 (by simp)
          have a2 := hXV.cell HA.out.2.2.1 (by simp)
          have a3 := hXV.cell HA.out.2.2.2 (by simp)
          have b0 := hXV.cell HBq.out.1 (by simp)
          have b1 := hXV.cell HBq.out.2.1 (by simp)
          have b2 := hXV.cell HBq.out.2.2.1 (by simp)
          have b3 := hXV.cell HBq.out.2.2.2 (by simp)
          obtain ⟨s0, s1, s2, s3⟩ := hcs
          have HXV := Lib.hid hXV; clear hXV hgs hms
          go_region_held3 (fun w' : World => V.grownBy w' none ∧ w'.cell? ⟨w.heap.size, 0, none⟩ = some (.slice sa n sc) ∧ w'.cell? ⟨w.heap.size, 1, none⟩ = some (.int .i64 st) ∧ w'.cell? ⟨w.heap.size, 2, none⟩ = some (.slice (some ⟨tb, to, none⟩) k tc) ∧ w'.cell? ⟨w.heap.size, 3, none⟩ = some (.int .i64 p) ∧ w'.cell? ⟨ga, 0, none⟩ = some (.slice sa n sc) ∧ w'.cell? ⟨ga, 1, none⟩ = some (.int .i64 m) ∧ w'.cell? ⟨ga, 2, none⟩ = some (.slice va m vc) ∧ w'.cell? ⟨ga, 3, none⟩ = some (.int .i64 p) ∧ w'.cell? ⟨gb, 0, none⟩ = some (.slice sa n sc) ∧ w'.cell? ⟨gb, 1, none⟩ = some (.int .i64 ((k : Int) + 1)) ∧ w'.cell? ⟨gb, 2, none⟩ = some (.slice vb (k + 1) vd) ∧ w'.cell? ⟨gb, 3, none⟩ = some (.int .i64 ((p : Int) + 1)) ∧ w'.cell? ⟨X3.heap.size, 0, none⟩ = some (.slice ma n mc) ∧ w'.cell? ⟨X3.heap.size, 1, none⟩ = some (.int .i64 N) ∧ w'.cell? ⟨X3.heap.size, 2, none⟩ = some (.slice mb N md) ∧ w'.cell? ⟨X3.heap.size, 3, none⟩ = some (.int .i64 l))
            (first | exact ⟨⟨rfl, rfl, rfl, Nat.le_refl _, fun _ _ _ => rfl⟩, c0, c1, c2, c3, a0, a1, a2, a3, b0, b1, b2, b3, s0, s1, s2, s3⟩ | (go_split_ands; exact held_next16 g3 (by assumption) (by assumption) (by assumption) (by assumption) (by assumption) (by assumption) (by assumption) (by assumption) (by assumption) (by assumption) (by assumption) (by assumption) (by assumption) (by assumption) (by assumption) (by assumption) (by assumption)) | assumption | fail)
            (first | (go_at_call 28; with_reducible refine (HC2.out _ (HXV.out.trans ?_)).mono ?_; (go_split_ands; assumption); rintro e u1 ⟨rfl, g3⟩) | (go_at_call 28; with_reducible refine (HC3.out _ (HXV.out.trans ?_)).mono ?_; (go_split_ands; assumption); rintro e u2 ⟨rfl, g3⟩) | (go_at_call 28; with_reducible refine (HC4.out _ (HXV.out.trans ?_)).mono ?_; (go_split_ands; assumption); rintro e u3 ⟨rfl, g3⟩) | (go_at_call 30; with_reducible refine (HC5.out _ (HXV.out.trans ?_)).mono ?_; (go_split_ands; assumption); rintro e u4 ⟨x1, y1, x2, y2, rfl, hin, g3⟩; have hmv := HMV.out u4 (by go_split_ands; exact World.grownBy.trans (by assumption) g3)) | (go_at_call 30; with_reducible refine (HC6.out _ (HXV.out.trans ?_)).mono ?_; (go_split_ands; assumption); rintro e u6 ⟨x3, y3, x4, y4, rfl, hin2, g3⟩; have hmv2 := HMV.out u6 (by go_split_ands; exact World.grownBy.trans (by assumption) g3)) | (go_at_call 21; with_reducible refine (HC7.out _ _ _ _ _ _ _ _ _ hin.1 hin.2 hmv.1 hmv.2).mono ?_; rintro e u5 ⟨rfl, g3⟩) | (go_at_call 21; with_reducible refine (HC7.out _ _ _ _ _ _ _ _ _ hin2.1 hin2.2 hmv2.1 hmv2.2).mono ?_; rintro e u7 ⟨rfl, g3⟩) | fail)
          all_goals
            have h7 : V.grownBy u7 none := by go_split_ands; assumption
            have HE := Lib.hid (HG.out.trans (HG2.out.trans (hX.trans (HXV.out.trans h7)))); clear h7
            go_wp2_with fail
            go_ret
            exact ⟨rfl, HE.out⟩
    · go_simp
      have HGq32 := Lib.hid (HGq26.out.trans (World.grownBy_alloc (w2.drew.alloc (.cells #[.slice none 0 0, .int .i64 0, .slice none 0 0, .int .i64 0] 33)) (.cells #[.slice none 0 0, .int .i64 0, .slice none 0 0, .int .i64 0] 33) none))
      have HB32 := Lib.hid (Held4.off HB26.out (World.grownBy_alloc (w2.drew.alloc (.cells #[.slice none 0 0, .int .i64 0, .slice none 0 0, .int .i64 0] 33)) (.cells #[.slice none 0 0, .int .i64 0, .slice none 0 0, .int .i64 0] 33) none) (fun x e => by cases e))
      have HA32 : Hid (Held4 ((w2.drew.alloc (.cells #[.slice none 0 0, .int .i64 0, .slice none 0 0, .int .i64 0] 33)).alloc (.cells #[.slice none 0 0, .int .i64 0, .slice none 0 0, .int .i64 0] 33)) (w2.heap.size + 1) (.slice none 0 0) (.int .i64 0) (.slice none 0 0) (.int .i64 0)) := Lib.hid (by have h := held4_new (w2.drew.alloc (.cells #[.slice none 0 0, .int .i64 0, .slice none 0 0, .int .i64 0] 33)); (try rw [World.size_alloc] at h); exact h)
      refine hK.out _ _ (HS.out _ HGq32.out) (fun hHeld => ?_)
      clear hK K
      try simp only [Act.put, List.setIfInBounds_toArray, List.set_cons_zero, List.set_cons_succ]
      refine wpAnyH_ready (rs := [1]) (by kernel_rfl) (by simp) ?_
      refine (AllReadyH.cons (o := { dst := some 25, op := Op.call { callee := Callee.value (Operand.func 32), args := #[Operand.tmp 24], argTypes := #[33] }, type := 33, pos := "law.go:107", after := #[{ on := 0, ground := Ground.data }], guard := none }) rfl (fun K hK => ?_) AllReadyH.nil)
      · go_simp
        go_at_call 32
        refine (HRP.out _ HGq32.out).mono ?_
        rintro e y33 ⟨va, vc, rfl, hr, g⟩
        have HGq33 := Lib.hid (HGq32.out.trans g)
        have HA33 := Lib.hid (Held4.off HA32.out g (fun x e => by cases e))
        have HB33 := Lib.hid (Held4.off HB32.out g (fun x e => by cases e))
        have HKA : Hid (∀ x, (Value.slice va _ vc).ownBlock = some x → w2.heap.size + 1 + 1 + 1 + 1 + 1 ≤ x ∧ x < y33.heap.size) := Lib.hid (by have h := hr.lt; (try simp only [World.size_alloc] at h); exact h)
        have HRA33 := Lib.hid hr; clear hr
        have HZ33 : Hid (w2.heap.size + 1 + 1 ≤ y33.heap.size) := Lib.hid (by have h := g.size; (try simp only [World.size_alloc] at h); exact h)
        clear g
        go_wp2_with fail
        refine hK.out _ _ (HS.out _ HGq33.out) (fun hHeld => ?_)
        clear hK K
        try simp only [Act.put, List.setIfInBounds_toArray, List.set_cons_zero, List.set_cons_succ]
        refine wpAnyH_ready (rs := [3]) (by kernel_rfl) (by simp) ?_
        refine (AllReadyH.cons (o := { dst := some 27, op := Op.call { callee := Callee.value (Operand.func 33), args := #[Operand.tmp 26], argTypes := #[33] }, type := 33, pos := "law.go:107", after := #[{ on := 2, ground := Ground.data }, { on := 1, ground := Ground.chain }], guard := none }) rfl (fun K hK => ?_) AllReadyH.nil)
        · go_simp
          go_at_call 33
          refine (HSF.out _ HGq33.out).mono ?_
          rintro e y34 ⟨vb, vd, rfl, hr, g⟩
          have HGq34 := Lib.hid (HGq33.out.trans g)
          have HA34 := Lib.hid (Held4.off HA33.out g (fun x e => by cases e))
          have HB34 := Lib.hid (Held4.off HB33.out g (fun x e => by cases e))
          have HRA34 := Lib.hid (own_grown HRA33.out g)
          have HKB : Hid (∀ x, (Value.slice vb _ vd).ownBlock = some x → y33.heap.size + 1 + 1 + 1 ≤ x ∧ x < y34.heap.size) := Lib.hid (by have h := hr.lt; (try simp only [World.size_alloc] at h); exact h)
          have HRB34 := Lib.hid hr; clear hr
          have HZ34 : Hid (y33.heap.size ≤ y34.heap.size) := Lib.hid (by have h := g.size; (try simp only [World.size_alloc] at h); exact h)
          clear g
          go_wp2_with fail
          refine hK.out _ _ (HS.out _ HGq34.out) (fun hHeld => ?_)
          clear hK K
          try simp only [Act.put, List.setIfInBounds_toArray, List.set_cons_zero, List.set_cons_succ]
          have FIN : ∃ (Y : World) (ga gb : Nat), Y = y34 ∧ ga = w2.heap.size + 1 ∧ gb = w2.heap.size ∧ Hid (w2.grownBy Y none ∧ Held4 Y ga (.slice none 0 0) (.int .i64 0) (.slice none 0 0) (.int .i64 0) ∧ Held4 Y gb (.slice none 0 0) (.int .i64 0) (.slice none 0 0) (.int .i64 0) ∧ (∃ b, Y.ownsRow b 40 1 (.slice va m vc) m (rowOf (D ++ D.drop p))) ∧ (∃ b, Y.ownsRow b 40 1 (.slice vb (k + 1) vd) (k + 1) (rowOf (D ++ [D.getD p ([], none, 0)]))) ∧ ga ≠ gb ∧ w2.heap.size ≤ ga ∧ w2.heap.size ≤ gb ∧ (∀ x, (Value.slice va m vc).ownBlock = some x → x ≠ ga ∧ x ≠ gb) ∧ (∀ x, (Value.slice vb (k + 1) vd).ownBlock = some x → x ≠ ga ∧ x ≠ gb)) := ⟨_, _, _, rfl, rfl, rfl, Lib.hid ⟨HGq34.out, HA34.out, HB34.out, ⟨_, HRA34.out⟩, ⟨_, HRB34.out⟩, (by have := HZ33.out; have := HZ34.out; omega), (by have := HZ33.out; have := HZ34.out; omega), (by have := HZ33.out; have := HZ34.out; omega), (fun x hx => by have := HZ33.out; have := HZ34.out; have := HKA.out x hx; omega), (fun x hx => by have := HZ33.out; have := HZ34.out; have := HKB.out x hx; omega)⟩⟩
          obtain ⟨Y, ga, gb, hY, hga, hgb, HF⟩ := FIN
          rw [← hga]
          rw [← hgb]
          rw [← hY]
          clear hY hga hgb
          clear hHeld
          obtain ⟨hY, kA, kB, ⟨bA, rA⟩, ⟨bB, rB⟩, hab, hga2, hgb2, nA, nB⟩ := HF.out
          obtain ⟨⟨a0, a1, a2, a3⟩, af⟩ := kA
          have af0 := af 0
          have af1 := af 1
          have af2 := af 2
          have af3 := af 3
          clear af
          have hHeld := HS.out _ hY
          refine wpAnyH_ready (rs := [6]) (by kernel_rfl) (by simp) ?_
          refine AllReadyH.cons (o := { dst := none, op := Op.store 33 (Operand.tmp 4) (Operand.tmp 25), type := 0, pos := "law.go:107", after := #[{ on := 4, ground := Ground.data }, { on := 1, ground := Ground.data }, { on := 3, ground := Ground.chain }, { on := 0, ground := Ground.phase }, { on := 1, ground := Ground.phase }, { on := 2, ground := Ground.textOnly Departure.lateStores }, { on := 3, ground := Ground.textOnly Departure.lateStoresUnsure }, { on := 4, ground := Ground.phase }, { on := 5, ground := Ground.phase }], guard := none }) rfl (fun K hK => ?_) AllReadyH.nil
          go_simp
          obtain ⟨p0, p1, p2, p3, pg⟩ := four_sets (.slice sa n sc) (.int .i64 m) (.slice va m vc) (.int .i64 p) a0 a1 a2 a3
          have hX1 := grown_own hY pg (fun x hx => by cases hx; exact hga2)
          refine hK.out _ _ (HS.out _ hX1) (fun hHeld => ?_)
          clear hK K
          try simp only [Act.put, List.setIfInBounds_toArray, List.set_cons_zero, List.set_cons_succ]
          have kB1 := kB.off pg (fun x hx => by cases hx; exact hab)
          have rA1 := rA.kept pg (own_off (fun x hx => (nA x hx).1))
          have rB1 := rB.kept pg (own_off (fun x hx => (nB x hx).1))
          obtain ⟨X1, hXe⟩ : ∃ X1, ((((Y.setCell ⟨ga, 0, none⟩ (.slice sa n sc)).setCell ⟨ga, 1, none⟩ (.int .i64 m)).setCell ⟨ga, 2, none⟩ (.slice va m vc)).setCell ⟨ga, 3, none⟩ (.int .i64 p)) = X1 := ⟨_, rfl⟩
          rw [hXe] at p0 p1 p2 p3 hX1 kB1 rA1 rB1 hHeld ⊢
          clear hXe pg a0 a1 a2 a3 af0 af1 af2 af3 kB rA rB
          obtain ⟨⟨b0, b1, b2, b3⟩, bf⟩ := kB1
          have bf0 := bf 0
          have bf1 := bf 1
          have bf2 := bf 2
          have bf3 := bf 3
          clear bf
          refine wpAnyH_ready (rs := [7]) (by kernel_rfl) (by simp) ?_
          refine AllReadyH.cons (o := { dst := none, op := Op.store 33 (Operand.tmp 5) (Operand.tmp 27), type := 0, pos := "law.go:107", after := #[{ on := 5, ground := Ground.data }, { on := 3, ground := Ground.data }, { on := 6, ground := Ground.chain }, { on := 0, ground := Ground.phase }, { on := 1, ground := Ground.phase }, { on := 2, ground := Ground.phase }, { on := 3, ground := Ground.phase }, { on := 4, ground := Ground.phase }, { on := 5, ground := Ground.phase }, { on := 6, ground := Ground.phase }], guard := none }) rfl (fun K hK => ?_) AllReadyH.nil
          go_simp
          obtain ⟨q0, q1, q2, q3, qg⟩ := four_sets (.slice sa n sc) (.int .i64 ((k : Int) + 1)) (.slice vb (k + 1) vd) (.int .i64 ((p : Int) + 1)) b0 b1 b2 b3
          have hX2 := grown_own hX1 qg (fun x hx => by cases hx; exact hgb2)
          refine hK.out _ _ (HS.out _ hX2) (fun hHeld => ?_)
          clear hK K
          try simp only [Act.put, List.setIfInBounds_toArray, List.set_cons_zero, List.set_cons_succ]
          have ne : (some ga : Option Nat) ≠ some gb := fun e => by injection e with e; exact hab e
          have HA := Lib.hid (And.intro (qg.cell p0 ne) (And.intro (qg.cell p1 ne) (And.intro (qg.cell p2 ne) (qg.cell p3 ne))))
          have rA2 := rA1.kept qg (own_off (fun x hx => (nA x hx).2))
          have rB2 := rB1.kept qg (own_off (fun x hx => (nB x hx).2))
          have HBq := Lib.hid (And.intro q0 (And.intro q1 (And.intro q2 q3)))
          have HR := Lib.hid (And.intro rA2 rB2)
          have HXX := Lib.hid hX2
          obtain ⟨X2, hXe⟩ : ∃ X2, ((((X1.setCell ⟨gb, 0, none⟩ (.slice sa n sc)).setCell ⟨gb, 1, none⟩ (.int .i64 ((k : Int) + 1))).setCell ⟨gb, 2, none⟩ (.slice vb (k + 1) vd)).setCell ⟨gb, 3, none⟩ (.int .i64 ((p : Int) + 1))) = X2 := ⟨_, rfl⟩
          rw [hXe] at HA HBq HR HXX hHeld ⊢
          clear hXe qg b0 b1 b2 b3 bf0 bf1 bf2 bf3 rA1 rB1 rA2 rB2 p0 p1 p2 p3 q0 q1 q2 q3 hX1 hX2 nA nB hY ne
          refine wpAnyH_done (by kernel_rfl) ?_ _
          clear hHeld HF
          have hX := HXX.out
          obtain ⟨-, c0, c1, c2, c3⟩ := HS.out X2 hX
          have hrel : ∀ d ∈ D, Rels X2 d.2.1 d.2.2 d.1 := fun d hd => (HD.out.2 d hd).grown hX
          have hDl : D.length = k := by rw [← HN.out.2.1, ← HD.out.1, List.length_map]
          obtain ⟨dp, hdp⟩ : ∃ d, D[p]? = some d := ⟨_, List.getElem?_eq_getElem (by omega)⟩
          have hgd : D.getD p ([], none, 0) = dp := by rw [List.getD_eq_getElem?_getD, hdp]; rfl
          have hld : L.getD p [] = dp.1 := by rw [← HD.out.1, List.getD_eq_getElem?_getD, List.getElem?_map, hdp]; rfl
          obtain ⟨za, zc, hv, hsA⟩ := sts_of_row HR.out.1 (by rw [List.length_append, List.length_drop, hDl]; exact HM60.out.symm) (fun d hd => by
            rw [List.mem_append] at hd
            rcases hd with hd | hd
            · exact hrel d hd
            · exact hrel d (List.mem_of_mem_drop hd))
          injection hv with e1 _ e3
          subst e1 e3
          rw [List.map_append, List.map_drop, HD.out.1] at hsA
          obtain ⟨zb, zd, hv, hsB⟩ := sts_of_row HR.out.2 (by rw [List.length_append, hDl]; rfl) (fun d hd => by
            rw [List.mem_append, List.mem_singleton] at hd
            rcases hd with hd | rfl
            · exact hrel d hd
            · rw [hgd]; exact hrel dp (List.mem_of_getElem? hdp))
          injection hv with e1 _ e3
          subst e1 e3
          rw [List.map_append, HD.out.1, hgd, show List.map (fun x : Ds => x.1) [dp] = [L.getD p []] from by rw [hld]; rfl] at hsB
          have hsmA : ∀ r ∈ L ++ L.drop p, r.length ≤ 10 ∧ ∀ x ∈ r, x.2.length ≤ 200 := fun r hr => by
            rw [List.mem_append] at hr
            rcases hr with hr | hr
            · exact HF.out.2.2 r hr
            · exact HF.out.2.2 r (List.mem_of_mem_drop hr)
          have hsmB : ∀ r ∈ L ++ [L.getD p []], r.length ≤ 10 ∧ ∀ x ∈ r, x.2.length ≤ 200 := fun r hr => by
            rw [List.mem_append, List.mem_singleton] at hr
            rcases hr with hr | rfl
            · exact HF.out.2.2 r hr
            · exact HF.out.2.2 _ (by rw [hld]; have h := List.mem_map_of_mem (f := fun x : Ds => x.1) (List.mem_of_getElem? hdp); rw [HD.out.1] at h; exact h)
          have HAB := Lib.hid (And.intro hsA (And.intro hsB (And.intro hsmA hsmB))); clear hsA hsB hsmA hsmB hrel hdp hgd hld
          have HUV := Lib.hid (fun (W' : World) (g : X2.grownBy W' none) => And.intro (HN.out.2.2.1.grown (HG.out.trans (HG2.out.trans (hX.trans g)))).weak (HN.out.2.2.2.grown (HG.out.trans (HG2.out.trans (hX.trans g)))))
          have hpL := HP.out
          have hkL := HN.out.2.1
          have hlb : (L ++ [L.getD p []]).length = k + 1 := by rw [List.length_append, hkL]; rfl
          have HC1 := Lib.hid (fun (W' : World) (g : X2.grownBy W' none) => short_same (st := st) (HUV.out W' g).1 (HUV.out W' g).2 HN.out.1 hkL hn10 hk64 (by omega) hpL HF.out.2.2 (fun _ => rfl) rfl HMN.out.1 HMN.out.2.1 HMN.out.2.2.1)
          have HC2 := Lib.hid (fun (W' : World) (g : X2.grownBy W' none) => same_true (st := st) (st' := m) (HUV.out W' g).1 (HUV.out W' g).1 (HUV.out W' g).2 (HAB.out.1.grown g) HN.out.1 hkL HM.out hn10 hk64 (by omega) (by omega) (by omega) HF.out.2.2 (fun t => (trL_repeat hpL t).symm) rfl rfl)
          have HC3 := Lib.hid (fun (W' : World) (g : X2.grownBy W' none) => same_true (lp' := (p : Int) + 1) (st := st) (st' := (k : Int) + 1) (HUV.out W' g).1 (HUV.out W' g).1 (HUV.out W' g).2 (HAB.out.2.1.grown g) HN.out.1 hkL hlb hn10 hk64 (by omega) (by omega) (by omega) HF.out.2.2 (fun t => (trL_shift hpL t).symm) rfl (by omega))
          have HC4 := Lib.hid (fun (W' : World) (g : X2.grownBy W' none) => same_true (lp' := (p : Int) + 1) (st := m) (st' := (k : Int) + 1) (HUV.out W' g).1 (HUV.out W' g).1 (HAB.out.1.grown g) (HAB.out.2.1.grown g) HN.out.1 HM.out hlb hn10 (by omega) (by omega) (by omega) (by omega) HAB.out.2.2.1 (fun t => (trL_repeat hpL t).trans (trL_shift hpL t).symm) rfl (by omega))
          have HC5 := Lib.hid (fun (W' : World) (g : X2.grownBy W' none) => short_same (st := m) (HUV.out W' g).1 (HAB.out.1.grown g) HN.out.1 HM.out hn10 (by omega) (by omega) hpL HAB.out.2.2.1 (trL_repeat hpL) rfl HMN.out.1 HMN.out.2.1 HMN.out.2.2.1)
          have HC6 := Lib.hid (fun (W' : World) (g : X2.grownBy W' none) => short_same (lp := (p : Int) + 1) (st := (k : Int) + 1) (HUV.out W' g).1 (HAB.out.2.1.grown g) HN.out.1 hlb hn10 (by omega) (by omega) hpL HAB.out.2.2.2 (trL_shift hpL) (by omega) HMN.out.1 HMN.out.2.1 HMN.out.2.2.1)
          have HC7 := Lib.hid (fun (x z x' z' : Option Addr) (c d c' d' : Nat) (W' : World) (hx : Ints W' x c us) (hz : Sts W' z d M) (hx' : Ints W' x' c' us) (hz' : Sts W' z' d' M) => req_true (st := (N : Int)) (lp := (l : Int)) hx.weak hx'.weak hz hz' HN.out.1 HMN.out.2.2.1 hn10 hN64 HMN.out.2.2.2)
          clear hpL hkL hlb
          go_wp2_with fail
          refine (HC1.out X2 (grown_refl _ _)).mono ?_
          rintro e X3 ⟨ma, mc, mb, md, rfl, hms, g3⟩
          have HX3 := Lib.hid g3; clear g3 c0 c1 c2 c3
          have hgs := World.grownBy_alloc X3 (.cells #[.slice ma n mc, .int .i64 N, .slice mb N md, .int .i64 l] 33) none
          have hcs := four_cells X3 (.slice ma n mc) (.int .i64 N) (.slice mb N md) (.int .i64 l) 33
          obtain ⟨V, hV⟩ : ∃ V, X3.alloc (.cells #[.slice ma n mc, .int .i64 N, .slice mb N md, .int .i64 l] 33) = V := ⟨_, rfl⟩
          rw [hV] at hgs hcs
          have hXV := HX3.out.trans hgs
          have HMV := Lib.hid (fun (W' : World) (g : V.grownBy W' none) => And.intro (hms.1.grown (hgs.trans g)) (hms.2.grown (hgs.trans g)))
          have HVV := Lib.hid hV; clear hV
          go_wp2_with fail
          rw [HVV.out]
          clear HVV
          obtain ⟨-, c0, c1, c2, c3⟩ := HS.out V (hX.trans hXV)
          have a0 := hXV.cell HA.out.1 (by simp)
          have a1 := hXV.cell HA.out.2.1 (by simp)
          have a2 := hXV.cell HA.out.2.2.1 (by simp)
          have a3 := hXV.cell HA.out.2.2.2 (by simp)
          have b0 := hXV.cell HBq.out.1 (by simp)
          have b1 := hXV.cell HBq.out.2.1 (by simp)
          have b2 := hXV.cell HBq.out.2.2.1 (by simp)
          have b3 := hXV.cell HBq.out.2.2.2 (by simp)
          obtain ⟨s0, s1, s2, s3⟩ := hcs
          have HXV := Lib.hid hXV; clear hXV hgs hms
          go_region_held3 (fun w' : World => V.grownBy w' none ∧ w'.cell? ⟨w.heap.size, 0, none⟩ = some (.slice sa n sc) ∧ w'.cell? ⟨w.heap.size, 1, none⟩ = some (.int .i64 st) ∧ w'.cell? ⟨w.heap.size, 2, none⟩ = some (.slice (some ⟨tb, to, none⟩) k tc) ∧ w'.cell? ⟨w.heap.size, 3, none⟩ = some (.int .i64 p) ∧ w'.cell? ⟨ga, 0, none⟩ = some (.slice sa n sc) ∧ w'.cell? ⟨ga, 1, none⟩ = some (.int .i64 m) ∧ w'.cell? ⟨ga, 2, none⟩ = some (.slice va m vc) ∧ w'.cell? ⟨ga, 3, none⟩ = some (.int .i64 p) ∧ w'.cell? ⟨gb, 0, none⟩ = some (.slice sa n sc) ∧ w'.cell? ⟨gb, 1, none⟩ = some (.int .i64 ((k : Int) + 1)) ∧ w'.cell? ⟨gb, 2, none⟩ = some (.slice vb (k + 1) vd) ∧ w'.cell? ⟨gb, 3, none⟩ = some (.int .i64 ((p : Int) + 1)) ∧ w'.cell? ⟨X3.heap.size, 0, none⟩ = some (.slice ma n mc) ∧ w'.cell? ⟨X3.heap.size, 1, none⟩ = some (.int .i64 N) ∧ w'.cell? ⟨X3.heap.size, 2, none⟩ = some (.slice mb N md) ∧ w'.cell? ⟨X3.heap.size, 3, none⟩ = some (.int .i64 l))
            (first | exact ⟨⟨rfl, rfl, rfl, Nat.le_refl _, fun _ _ _ => rfl⟩, c0, c1, c2, c3, a0, a1, a2, a3, b0, b1, b2, b3, s0, s1, s2, s3⟩ | (go_split_ands; exact held_next16 g3 (by assumption) (by assumption) (by assumption) (by assumption) (by assumption) (by assumption) (by assumption) (by assumption) (by assumption) (by assumption) (by assumption) (by assumption) (by assumption) (by assumption) (by assumption) (by assumption) (by assumption)) | assumption | fail)
            (first | (go_at_call 28; with_reducible refine (HC2.out _ (HXV.out.trans ?_)).mono ?_; (go_split_ands; assumption); rintro e u1 ⟨rfl, g3⟩) | (go_at_call 28; with_reducible refine (HC3.out _ (HXV.out.trans ?_)).mono ?_; (go_split_ands; assumption); rintro e u2 ⟨rfl, g3⟩) | (go_at_call 28; with_reducible refine (HC4.out _ (HXV.out.trans ?_)).mono ?_; (go_split_ands; assumption); rintro e u3 ⟨rfl, g3⟩) | (go_at_call 30; with_reducible refine (HC5.out _ (HXV.out.trans ?_)).mono ?_; (go_split_ands; assumption); rintro e u4 ⟨x1, y1, x2, y2, rfl, hin, g3⟩; have hmv := HMV.out u4 (by go_split_ands; exact World.grownBy.trans (by assumption) g3)) | (go_at_call 30; with_reducible refine (HC6.out _ (HXV.out.trans ?_)).mono ?_; (go_split_ands; assumption); rintro e u6 ⟨x3, y3, x4, y4, rfl, hin2, g3⟩; have hmv2 := HMV.out u6 (by go_split_ands; exact World.grownBy.trans (by assumption) g3)) | (go_at_call 21; with_reducible refine (HC7.out _ _ _ _ _ _ _ _ _ hin.1 hin.2 hmv.1 hmv.2).mono ?_; rintro e u5 ⟨rfl, g3⟩) | (go_at_call 21; with_reducible refine (HC7.out _ _ _ _ _ _ _ _ _ hin2.1 hin2.2 hmv2.1 hmv2.2).mono ?_; rintro e u7 ⟨rfl, g3⟩) | fail)
          all_goals
            have h7 : V.grownBy u7 none := by go_split_ands; assumption
            have HE := Lib.hid (HG.out.trans (HG2.out.trans (hX.trans (HXV.out.trans h7)))); clear h7
            go_wp2_with fail
            go_ret
            exact ⟨rfl, HE.out⟩
end Go.Proofs.Ytbddpjofhddilaa
