/- The law of the valid shortest model. -/
import Derived.Test.YtbddpjofhddilaaSO
import Derived.Deep.RegionHeld3
namespace Go.Proofs.Ytbddpjofhddilaa
open Go.RowKit

/-- The row of one state. -/
theorem sts_one {w : World} {b o c q : Nat} {L : List (List Rl)} {l : List Rl} (h : Sts w (some ⟨b, o, none⟩) c L) (hl : L[q]? = some l) (hc : 1 ≤ c - q) : Sts w (some ⟨b, o + q, none⟩) (c - q) [l] := by
  refine ⟨hc, fun j y hj => ?_⟩
  match j, hj with
  | 0, hj =>
    simp at hj
    subst hj
    obtain ⟨b', o', e, a', c', h0, hr⟩ := h.2 q l hl
    cases e
    exact ⟨b, o + q, rfl, a', c', h0, hr⟩

theorem slice_one {tb to k tc q : Nat} (h1 : q + 1 ≤ k) (h2 : k ≤ tc) : ∀ w, (Instr.slice 31 (.slice (some ⟨tb, to, none⟩) k tc) (some (.int .i64 (q : Int))) (some (.int .i64 ((q : Int) + 1))) none).run Try.prog w = .ok (.slice (some ⟨tb, to + q, none⟩) 1 (tc - q)) w := by
  intro w
  have a1 : (q : Int) + 1 ≤ (tc : Int) := by omega
  have a2 : ¬ (tc = q) := by omega
  have a6 : (0 : Int) ≤ (q : Int) + 1 := by omega
  go_simp

set_option maxRecDepth 100000 in
set_option maxHeartbeats 20000000 in
theorem validShortest_calls (hh : HeadSays) (s1 : Option Addr) (ns c1 : Nat) (F : List Fd) (fa : Option Addr) (fc : Nat) (s3 : Option Addr) (n3 q3 : Nat) (s4 : Option Addr) (n4 q4 : Nat) (us : List Int) (sa : Option Addr) (sc : Nat) (st : Int) (ta : Option Addr) (L : List (List Rl)) (tc : Nat) (lp : Int) (y : Nat) (w : World)
    (hF : Fields w fa fc F) (hu : Ints w sa sc us) (hT : Sts w ta tc L) (hy : y < 256) :
    Calls Try.prog 8 #[.agg #[.slice s1 ns c1, .slice fa F.length fc, .slice s3 n3 q3, .slice s4 n4 q4], .agg #[.slice sa us.length sc, .int .i64 st, .slice ta L.length tc, .int .i64 lp], .int .u8 (y : Int)] w fun e w' => e = .returned (.bool true) ∧ w.grownBy w' none := by
  have HSM := Lib.hid (fun (W' : World) (hW' : w.grownBy W' none) => small_calls s1 fa s3 s4 ns c1 fc n3 q3 n4 q4 F sa us.length sc st ta L tc lp W' (hF.grown hW') (hT.grown hW'))
  obtain ⟨n, hn⟩ : ∃ n, us.length = n := ⟨_, rfl⟩
  obtain ⟨k, hk⟩ : ∃ k, L.length = k := ⟨_, rfl⟩
  obtain ⟨f, hf⟩ : ∃ k, F.length = k := ⟨_, rfl⟩
  rw [hn, hk, hf] at HSM
  have hg := (World.grownBy_alloc w (.cells #[.slice s1 ns c1, .slice fa f fc, .slice s3 n3 q3, .slice s4 n4 q4] 27) none).trans (World.grownBy_alloc (w.alloc (.cells #[.slice s1 ns c1, .slice fa f fc, .slice s3 n3 q3, .slice s4 n4 q4] 27)) (.cells #[.slice sa n sc, .int .i64 st, .slice ta k tc, .int .i64 lp] 33) none)
  have hc := eight_cells w (.slice s1 ns c1) (.slice fa f fc) (.slice s3 n3 q3) (.slice s4 n4 q4) (.slice sa n sc) (.int .i64 st) (.slice ta k tc) (.int .i64 lp) 27 33
  obtain ⟨W, hW⟩ : ∃ W, (w.alloc (.cells #[.slice s1 ns c1, .slice fa f fc, .slice s3 n3 q3, .slice s4 n4 q4] 27)).alloc (.cells #[.slice sa n sc, .int .i64 st, .slice ta k tc, .int .i64 lp] 33) = W := ⟨_, rfl⟩
  rw [hW] at hg hc
  have HN := Lib.hid (And.intro hn (And.intro hk (And.intro hf (And.intro hF (And.intro hu (And.intro hT hy))))))
  rw [hn, hk, hf]
  clear hn hk hf hF hu hT
  have HG := Lib.hid hg; clear hg
  have HBX := Lib.hid (fun (W' : World) (g : W.grownBy W' none) => And.intro (And.intro (g.cell hc.1.1 (by simp)) (And.intro (g.cell hc.1.2.1 (by simp)) (And.intro (g.cell hc.1.2.2.1 (by simp)) (g.cell hc.1.2.2.2 (by simp)))))
    (And.intro (g.cell hc.2.1 (by simp)) (And.intro (g.cell hc.2.2.1 (by simp)) (And.intro (g.cell hc.2.2.2.1 (by simp)) (g.cell hc.2.2.2.2 (by simp))))))
  clear hc
  have HW := Lib.hid hW; clear hW
  go_enter Try.func8, Try.ntmps8
  go_wp2_with fail
  rw [HW.out]
  clear HW
  refine (hh W).mono ?_
  rintro e w0 ⟨rfl, g0⟩
  have HG0 := Lib.hid g0; clear g0
  obtain ⟨⟨a0, a1, a2, a3⟩, b0, b1, b2, b3⟩ := HBX.out w0 HG0.out
  go_wp2_with fail
  refine (HSM.out _ (HG.out.trans HG0.out)).mono ?_
  rintro e w1 ⟨rfl, g1⟩
  have HG1 := Lib.hid (HG0.out.trans g1); clear g1 a0 a1 a2 a3 b0 b1 b2 b3
  obtain ⟨⟨a0, a1, a2, a3⟩, b0, b1, b2, b3⟩ := HBX.out w1 HG1.out
  obtain ⟨B, hB⟩ : ∃ B, smallB ns n F L = B := ⟨_, rfl⟩
  rw [hB]
  cases B with
  | false =>
    clear hB
    go_wp2_with fail
    go_ret
    exact ⟨rfl, HG.out.trans HG1.out⟩
  | true =>
  have hsm := smallB_iff.1 hB
  have HF := Lib.hid (And.intro hsm.1 (And.intro (small_facts hB).2 (fun fd (hfd : fd ∈ F) => of_decide_eq_true (List.all_eq_true.1 hsm.2.2 fd hfd)))); clear hB hsm
  have HVA := Lib.hid (fun (W' : World) (g : W.grownBy W' none) => by
    have gg := HG.out.trans g
    have h := modelValid_calls s1 fa s3 s4 ns c1 fc n3 q3 n4 q4 F us sa sc st ta L tc lp W' (HN.out.2.2.2.1.grown gg) (HN.out.2.2.2.2.1.grown gg) (HN.out.2.2.2.2.2.1.grown gg) HF.out.1.1 HF.out.1.2.1 (by rw [HN.out.1]; exact HF.out.1.2.2.2) HF.out.1.2.2.1 HF.out.2.1 HF.out.2.2
    rw [HN.out.1, HN.out.2.1, HN.out.2.2.1] at h
    exact h)
  go_wp2_with fail
  refine (HVA.out _ HG1.out).mono ?_
  rintro e w2 ⟨rfl, g2⟩
  have HG2 := Lib.hid (HG1.out.trans g2); clear g2 a0 a1 a2 a3 b0 b1 b2 b3
  obtain ⟨⟨a0, a1, a2, a3⟩, b0, b1, b2, b3⟩ := HBX.out w2 HG2.out
  obtain ⟨B, hB⟩ : ∃ B, validM ns us st F L lp = B := ⟨_, rfl⟩
  rw [hB]
  cases B with
  | false =>
    clear hB
    go_wp2_with fail
    go_ret
    exact ⟨rfl, HG.out.trans HG2.out⟩
  | true =>
  obtain ⟨v0, v1, v2, v3, v4⟩ := validM_parts hB
  have HV := Lib.hid hB; clear hB
  obtain ⟨hk1, hk64, hlp0, hlpk⟩ := loopedB_iff.1 v2
  obtain ⟨t1, t4, hu4⟩ := validI_four v0
  have HB := Lib.hid v2
  rw [HN.out.2.1] at hk1 hk64 hlpk v1
  have hk4 : k ≤ 4 := by omega
  clear v0 v1 v2 v3 v4
  obtain ⟨p, rfl⟩ : ∃ p : Nat, lp = (p : Int) := ⟨lp.toNat, (Int.toNat_of_nonneg hlp0).symm⟩
  have HP : Hid (p < L.length) := Lib.hid (by rw [HN.out.2.1]; omega)
  obtain ⟨q, hq⟩ : ∃ q, y % k = q := ⟨_, rfl⟩
  have hqk : q < k := by rw [← hq]; exact Nat.mod_lt _ (by omega)
  have hqI : (y : Int) % (k : Int) = (q : Int) := by omega
  have hk0 : ((k : Int) == 0) = false := by simp; omega
  have hk00 : (k : Int) ≠ 0 := by omega
  have hqkI : (q : Int) < (k : Int) := by omega
  have hqk1 : (q : Int) + 1 ≤ (k : Int) := by omega
  have htc : k ≤ tc := by have := HN.out.2.2.2.2.2.1.1; rw [HN.out.2.1] at this; exact this
  have htcI : (q : Int) + 1 ≤ (tc : Int) := by omega
  obtain ⟨l, hl⟩ : ∃ l, L[q]? = some l := ⟨_, List.getElem?_eq_getElem (by rw [HN.out.2.1]; exact hqk)⟩
  obtain ⟨tb, to, rfl, la, lc, _, _⟩ := HN.out.2.2.2.2.2.1.2 q l hl
  have HL := Lib.hid hl; clear hl
  have HLO := Lib.hid (fun (W' : World) => rLooped_calls sa n sc st (some ⟨tb, to, none⟩) k tc p W')
  rw [show loopedB k (p : Int) = true from by rw [← HN.out.2.1]; exact HB.out] at HLO
  have HSH := Lib.hid (fun (W' : World) (g : W.grownBy W' none) => by
    have gg := HG.out.trans g
    have h := shorten_calls us sa sc st (some ⟨tb, to, none⟩) L tc p W' (HN.out.2.2.2.2.1.grown gg).weak (HN.out.2.2.2.2.2.1.grown gg) (by omega) HP.out (by rw [HN.out.2.1]; omega) HF.out.2.1
    rw [HN.out.1, HN.out.2.1] at h
    exact h)
  obtain ⟨N, hNN⟩ : ∃ N, shLoop L p + shPer L p = N := ⟨_, rfl⟩
  obtain ⟨l', hll⟩ : ∃ l, shLoop L p = l := ⟨_, rfl⟩
  obtain ⟨M, hMM⟩ : ∃ M, shSts L p = M := ⟨_, rfl⟩
  have hml : M.length = N := by rw [← hMM, sh_len, hNN]
  have hN1 : 1 ≤ N := by have := (sh_per_le HP.out).1; omega
  have hNk : N ≤ k := by have := sh_len_le HP.out; rw [hMM, hml, HN.out.2.1] at this; exact this
  have hMv : validM ns us N F M l' = true := by
    have := validM_sub (L' := shSts L p) (st' := (N : Int)) (lp' := (shLoop L p : Nat)) HV.out (sh_mem HP.out) (by rw [hMM, hml]) (by omega) (by omega) (sh_looped HP.out (by rw [HN.out.2.1]; omega))
    rw [hMM, hll] at this
    exact this
  have hOv : validM ns us 1 F [l] 0 = true := validM_sub HV.out (fun x hx => by simp at hx; subst hx; exact List.mem_of_getElem? HL.out) (by simp) (by omega) (by omega) rfl
  have HVS := Lib.hid (fun (x z : Option Addr) (c d : Nat) (W' : World) (g : W.grownBy W' none) (hx : Ints W' x c us) (hz : Sts W' z d M) => by
    have gg := HG.out.trans g
    have h := modelValid_calls s1 fa s3 s4 ns c1 fc n3 q3 n4 q4 F us x c N z M d l' W' (HN.out.2.2.2.1.grown gg) hx hz HF.out.1.1 HF.out.1.2.1 (by rw [HN.out.1]; exact HF.out.1.2.2.2) (by omega) (by rw [← hMM]; exact sh_sts_small HP.out HF.out.2.1) HF.out.2.2
    rw [HN.out.1, hml, HN.out.2.2.1, hMv] at h
    exact h)
  have HVO := Lib.hid (fun (W' : World) (g : W.grownBy W' none) => by
    have gg := HG.out.trans g
    have h := modelValid_calls s1 fa s3 s4 ns c1 fc n3 q3 n4 q4 F us sa sc 1 (some ⟨tb, to + q, none⟩) [l] (tc - q) 0 W' (HN.out.2.2.2.1.grown gg) (HN.out.2.2.2.2.1.grown gg) (sts_one (HN.out.2.2.2.2.2.1.grown gg) HL.out (by omega)) HF.out.1.1 HF.out.1.2.1 (by rw [HN.out.1]; exact HF.out.1.2.2.2) (by simp) (fun x hx => by simp at hx; subst hx; exact HF.out.2.1 _ (List.mem_of_getElem? HL.out)) HF.out.2.2
    rw [HN.out.1, HN.out.2.2.1, hOv, show [l].length = 1 from rfl] at h
    exact h)
  rw [hNN, hll, hMM, hml] at HSH
  clear hNN hll hMM hml hMv hOv
  go_wp2_with fail
  rw [hqI]
  have a2q : ¬ (tc = q) := by omega
  have a6q : (0 : Int) ≤ (q : Int) + 1 := by omega
  have htn : ((q : Int) + 1).toNat = q + 1 := by omega
  have hwq : IntKind.i64.wrap ((q : Int) + 1) = (q : Int) + 1 := IntWalk.i64_in _ (by omega)
  have hsl := slice_one (tb := tb) (to := to) (k := k) (tc := tc) (q := q) (by omega) htc
  have HS := Lib.hid (fun (W : World) (hW : w2.grownBy W none) => (⟨hW, hW.cell b0 (by simp), hW.cell b1 (by simp), hW.cell b2 (by simp), hW.cell b3 (by simp)⟩ : (fun W : World => w2.grownBy W none ∧ W.cell? ⟨w.heap.size + 1, 0, none⟩ = some (.slice sa n sc) ∧ W.cell? ⟨w.heap.size + 1, 1, none⟩ = some (.int .i64 st) ∧ W.cell? ⟨w.heap.size + 1, 2, none⟩ = some (.slice (some ⟨tb, to, none⟩) k tc) ∧ W.cell? ⟨w.heap.size + 1, 3, none⟩ = some (.int .i64 p)) W))
  have hdr : w2.grownBy w2.drew none := ⟨rfl, rfl, rfl, Nat.le_refl _, fun _ _ _ => rfl⟩
  refine wp_region_held_drew (S := (fun W : World => w2.grownBy W none ∧ W.cell? ⟨w.heap.size + 1, 0, none⟩ = some (.slice sa n sc) ∧ W.cell? ⟨w.heap.size + 1, 1, none⟩ = some (.int .i64 st) ∧ W.cell? ⟨w.heap.size + 1, 2, none⟩ = some (.slice (some ⟨tb, to, none⟩) k tc) ∧ W.cell? ⟨w.heap.size + 1, 3, none⟩ = some (.int .i64 p))) (by kernel_rfl) (HS.out _ hdr) (fun hHeld => ?_)
  refine wpAnyH_take (i := 0) (oi := { dst := some 28, op := Op.fieldAddr 33 (Operand.tmp 4) 0, type := 0, pos := "law.go:141", after := #[], guard := none }) (v := ?_) rfl (by kernel_rfl) (by kernel_rfl) (by kernel_rfl) (fun _ _ _ h => h) (Or.inl ⟨by rfl, ?_⟩) (by assumption) ?_
  rotate_left 1
  · (intro W hSW; (try dsimp only at hSW); first | (go_simp; done) | (go_simp; with_reducible rfl))
  try simp only [Act.put, List.setIfInBounds_toArray, List.set_cons_zero, List.set_cons_succ]
  refine wpAnyH_take (i := 1) (oi := { dst := some 29, op := Op.fieldAddr 30 (Operand.tmp 28) 0, type := 0, pos := "law.go:141", after := #[{ on := 0, ground := Ground.data }], guard := none }) (v := ?_) rfl (by kernel_rfl) (by kernel_rfl) (by kernel_rfl) (fun _ _ _ h => h) (Or.inl ⟨by rfl, ?_⟩) (by assumption) ?_
  rotate_left 1
  · (intro W hSW; (try dsimp only at hSW); first | (go_simp; done) | (go_simp; with_reducible rfl))
  try simp only [Act.put, List.setIfInBounds_toArray, List.set_cons_zero, List.set_cons_succ]
  refine wpAnyH_take (i := 2) (oi := { dst := some 30, op := Op.load 28 (Operand.tmp 29), type := 28, pos := "law.go:141", after := #[{ on := 1, ground := Ground.data }], guard := none }) (v := ?_) rfl (by kernel_rfl) (by kernel_rfl) (by kernel_rfl) (fun _ _ _ h => h) (Or.inl ⟨by rfl, ?_⟩) (by assumption) ?_
  rotate_left 1
  · (intro W hSW; (try dsimp only at hSW); first | (go_simp; done) | (go_simp; with_reducible rfl))
  try simp only [Act.put, List.setIfInBounds_toArray, List.set_cons_zero, List.set_cons_succ]
  refine wpAnyH_take (i := 3) (oi := { dst := some 31, op := Op.build 30 #[(0, Operand.tmp 30), (1, Operand.const (Value.int IntKind.i64 1))], type := 30, pos := "law.go:141", after := #[{ on := 2, ground := Ground.data }], guard := none }) (v := ?_) rfl (by kernel_rfl) (by kernel_rfl) (by kernel_rfl) (fun _ _ _ h => h) (Or.inl ⟨by rfl, ?_⟩) (by assumption) ?_
  rotate_left 1
  · (intro W hSW; (try dsimp only at hSW); first | (go_simp; done) | (go_simp; with_reducible rfl))
  try simp only [Act.put, List.setIfInBounds_toArray, List.set_cons_zero, List.set_cons_succ]
  refine wpAnyH_take (i := 4) (oi := { dst := some 32, op := Op.fieldAddr 33 (Operand.tmp 4) 1, type := 0, pos := "law.go:141", after := #[], guard := none }) (v := ?_) rfl (by kernel_rfl) (by kernel_rfl) (by kernel_rfl) (fun _ _ _ h => h) (Or.inl ⟨by rfl, ?_⟩) (by assumption) ?_
  rotate_left 1
  · (intro W hSW; (try dsimp only at hSW); first | (go_simp; done) | (go_simp; with_reducible rfl))
  try simp only [Act.put, List.setIfInBounds_toArray, List.set_cons_zero, List.set_cons_succ]
  refine wpAnyH_take (i := 5) (oi := { dst := some 33, op := Op.load 31 (Operand.tmp 32), type := 31, pos := "law.go:141", after := #[{ on := 4, ground := Ground.data }], guard := none }) (v := ?_) rfl (by kernel_rfl) (by kernel_rfl) (by kernel_rfl) (fun _ _ _ h => h) (Or.inl ⟨by rfl, ?_⟩) (by assumption) ?_
  rotate_left 1
  · (intro W hSW; (try dsimp only at hSW); first | (go_simp; done) | (go_simp; with_reducible rfl))
  try simp only [Act.put, List.setIfInBounds_toArray, List.set_cons_zero, List.set_cons_succ]
  refine wpAnyH_take (i := 6) (oi := { dst := some 34, op := Op.move (Operand.tmp 8), type := 3, pos := "law.go:141", after := #[], guard := none }) (v := ?_) rfl (by kernel_rfl) (by kernel_rfl) (by kernel_rfl) (fun _ _ _ h => h) (Or.inl ⟨by rfl, ?_⟩) (by assumption) ?_
  rotate_left 1
  · (intro W hSW; (try dsimp only at hSW); first | (go_simp; done) | (go_simp; with_reducible rfl))
  try simp only [Act.put, List.setIfInBounds_toArray, List.set_cons_zero, List.set_cons_succ]
  refine wpAnyH_take (i := 7) (oi := { dst := some 35, op := Op.move (Operand.tmp 8), type := 3, pos := "law.go:141", after := #[], guard := none }) (v := ?_) rfl (by kernel_rfl) (by kernel_rfl) (by kernel_rfl) (fun _ _ _ h => h) (Or.inl ⟨by rfl, ?_⟩) (by assumption) ?_
  rotate_left 1
  · (intro W hSW; (try dsimp only at hSW); first | (go_simp; done) | (go_simp; with_reducible rfl))
  try simp only [Act.put, List.setIfInBounds_toArray, List.set_cons_zero, List.set_cons_succ]
  refine wpAnyH_take (i := 8) (oi := { dst := some 36, op := Op.binOp BinOp.add 3 (Operand.tmp 35) (Operand.const (Value.int IntKind.i64 1)) 3, type := 3, pos := "law.go:141", after := #[{ on := 7, ground := Ground.data }], guard := none }) (v := ?_) rfl (by kernel_rfl) (by kernel_rfl) (by kernel_rfl) (fun _ _ _ h => h) (Or.inl ⟨by rfl, ?_⟩) (by assumption) ?_
  rotate_left 1
  · (intro W hSW; (try dsimp only at hSW); first | (go_simp; done) | (go_simp; with_reducible rfl))
  try simp only [Act.put, List.setIfInBounds_toArray, List.set_cons_zero, List.set_cons_succ]
  refine wpAnyH_take (i := 9) (oi := { dst := some 37, op := Op.slice 31 (Operand.tmp 33) (some (Operand.tmp 34)) (some (Operand.tmp 36)) none, type := 31, pos := "law.go:141", after := #[{ on := 5, ground := Ground.data }, { on := 6, ground := Ground.data }, { on := 8, ground := Ground.data }], guard := none }) (v := ?_) rfl (by kernel_rfl) (by kernel_rfl) (by kernel_rfl) (fun _ _ _ h => h) (Or.inl ⟨by rfl, ?_⟩) (by assumption) ?_
  rotate_left 1
  · (intro W hSW; (try dsimp only at hSW); first | (go_simp; done) | (go_simp; with_reducible rfl))
  try simp only [Act.put, List.setIfInBounds_toArray, List.set_cons_zero, List.set_cons_succ]
  refine wpAnyH_take (i := 10) (oi := { dst := some 38, op := Op.build 33 #[(0, Operand.tmp 31), (1, Operand.tmp 37)], type := 33, pos := "law.go:141", after := #[{ on := 3, ground := Ground.data }, { on := 9, ground := Ground.data }], guard := none }) (v := ?_) rfl (by kernel_rfl) (by kernel_rfl) (by kernel_rfl) (fun _ _ _ h => h) (Or.inl ⟨by rfl, ?_⟩) (by assumption) ?_
  rotate_left 1
  · (intro W hSW; (try dsimp only at hSW); first | (go_simp; done) | (go_simp; with_reducible rfl))
  try simp only [Act.put, List.setIfInBounds_toArray, List.set_cons_zero, List.set_cons_succ]
  refine wpAnyH_ready (rs := [11]) (by kernel_rfl) (by simp) ?_
  refine AllReadyH.cons (o := { dst := some 9, op := Op.alloc 33, type := 0, pos := "law.go:141", after := #[], guard := none }) rfl (fun K hK => ?_) AllReadyH.nil
  rw [if_pos (by rfl)]
  go_simp
  refine hK.out _ _ (HS.out _ (World.grownBy.trans hdr (World.grownBy_alloc _ _ none))) (fun hHeld => ?_)
  clear hK K
  try simp only [Act.put, List.setIfInBounds_toArray, List.set_cons_zero, List.set_cons_succ]
  refine wpAnyH_ready (rs := [12]) (by kernel_rfl) (by simp) ?_
  refine AllReadyH.cons (o := { dst := none, op := Op.store 33 (Operand.tmp 9) (Operand.tmp 38), type := 0, pos := "law.go:141", after := #[{ on := 11, ground := Ground.data }, { on := 10, ground := Ground.data }, { on := 0, ground := Ground.phase }, { on := 1, ground := Ground.phase }, { on := 2, ground := Ground.phase }, { on := 3, ground := Ground.phase }, { on := 4, ground := Ground.phase }, { on := 5, ground := Ground.phase }, { on := 6, ground := Ground.phase }, { on := 7, ground := Ground.phase }, { on := 8, ground := Ground.phase }, { on := 9, ground := Ground.phase }, { on := 10, ground := Ground.phase }, { on := 11, ground := Ground.phase }], guard := none }) rfl (fun K hK => ?_) AllReadyH.nil
  rw [if_pos (by rfl)]
  go_simp
  refine hK.out _ _ (HS.out _ (World.grownBy.trans hdr (World.grownBy_alloc _ _ none))) (fun hHeld => ?_)
  clear hK K
  try simp only [Act.put, List.setIfInBounds_toArray, List.set_cons_zero, List.set_cons_succ]
  refine wpAnyH_done (by kernel_rfl) ?_ _
  have hEND := hdr
  clear hHeld
  clear hEND hdr a2q a6q htn hwq hsl
  have hgo : w2.grownBy (w2.alloc (.cells #[.slice sa n sc, .int .i64 1, .slice (some ⟨tb, to + q, none⟩) 1 (tc - q), .int .i64 0] 33)).drew none := (World.grownBy_alloc w2 (.cells #[.slice sa n sc, .int .i64 1, .slice (some ⟨tb, to + q, none⟩) 1 (tc - q), .int .i64 0] 33) none).trans ⟨rfl, rfl, rfl, Nat.le_refl _, fun _ _ _ => rfl⟩
  have hcx := four_cells w2 (.slice sa n sc) (.int .i64 1) (.slice (some ⟨tb, to + q, none⟩) 1 (tc - q)) (.int .i64 0) 33
  obtain ⟨V, hV⟩ : ∃ V, (w2.alloc (.cells #[.slice sa n sc, .int .i64 1, .slice (some ⟨tb, to + q, none⟩) 1 (tc - q), .int .i64 0] 33)).drew = V := ⟨_, rfl⟩
  have o0 : V.cell? ⟨w2.heap.size, 0, none⟩ = some (.slice sa n sc) := by rw [← hV]; exact hcx.1
  have o1 : V.cell? ⟨w2.heap.size, 1, none⟩ = some (.int .i64 1) := by rw [← hV]; exact hcx.2.1
  have o2 : V.cell? ⟨w2.heap.size, 2, none⟩ = some (.slice (some ⟨tb, to + q, none⟩) 1 (tc - q)) := by rw [← hV]; exact hcx.2.2.1
  have o3 : V.cell? ⟨w2.heap.size, 3, none⟩ = some (.int .i64 0) := by rw [← hV]; exact hcx.2.2.2
  rw [hV] at hgo
  clear hcx
  have HGV := Lib.hid (HG2.out.trans hgo); clear hgo
  go_wp2_with fail
  rw [hV]
  clear hV a0 a1 a2 a3 b0 b1 b2 b3
  obtain ⟨⟨a0, a1, a2, a3⟩, b0, b1, b2, b3⟩ := HBX.out V HGV.out
  go_region_held3 (fun w' : World => V.grownBy w' none ∧ w'.cell? ⟨w.heap.size, 0, none⟩ = some (.slice s1 ns c1) ∧ w'.cell? ⟨w.heap.size, 1, none⟩ = some (.slice fa f fc) ∧ w'.cell? ⟨w.heap.size, 2, none⟩ = some (.slice s3 n3 q3) ∧ w'.cell? ⟨w.heap.size, 3, none⟩ = some (.slice s4 n4 q4) ∧ w'.cell? ⟨w.heap.size + 1, 0, none⟩ = some (.slice sa n sc) ∧ w'.cell? ⟨w.heap.size + 1, 1, none⟩ = some (.int .i64 st) ∧ w'.cell? ⟨w.heap.size + 1, 2, none⟩ = some (.slice (some ⟨tb, to, none⟩) k tc) ∧ w'.cell? ⟨w.heap.size + 1, 3, none⟩ = some (.int .i64 p) ∧ w'.cell? ⟨w2.heap.size, 0, none⟩ = some (.slice sa n sc) ∧ w'.cell? ⟨w2.heap.size, 1, none⟩ = some (.int .i64 1) ∧ w'.cell? ⟨w2.heap.size, 2, none⟩ = some (.slice (some ⟨tb, to + q, none⟩) 1 (tc - q)) ∧ w'.cell? ⟨w2.heap.size, 3, none⟩ = some (.int .i64 0))
    (first | exact ⟨⟨rfl, rfl, rfl, Nat.le_refl _, fun _ _ _ => rfl⟩, a0, a1, a2, a3, b0, b1, b2, b3, o0, o1, o2, o3⟩ | (go_split_ands; exact held_nextX g3 (by assumption) (by assumption) (by assumption) (by assumption) (by assumption) (by assumption) (by assumption) (by assumption) (by assumption) (by assumption) (by assumption) (by assumption) (by assumption)) | assumption | fail)
    (first | (go_at_call 22; with_reducible refine (HLO.out _).mono ?_; rintro e u1 ⟨rfl, g3⟩) | (go_at_call 30; with_reducible refine (HSH.out _ (HGV.out.trans ?_)).mono ?_; (go_split_ands; assumption); rintro e u2 ⟨x1, d1, x2, d2, rfl, hsp, g3⟩; have hin := hsp.here) | (go_at_call 18; with_reducible refine (HVS.out _ _ _ _ _ (HGV.out.trans ?_) hin.1 hin.2).mono ?_; (go_split_ands; assumption); rintro e u3 ⟨rfl, g3⟩) | (go_at_call 18; with_reducible refine (HVO.out _ (HGV.out.trans ?_)).mono ?_; (go_split_ands; assumption); rintro e u4 ⟨rfl, g3⟩) | fail)
  all_goals
    have h4 : V.grownBy u4 none := by go_split_ands; assumption
    have HE := Lib.hid (HG.out.trans (HGV.out.trans h4)); clear h4
    go_wp2_with fail
    go_ret
    exact ⟨rfl, HE.out⟩
end Go.Proofs.Ytbddpjofhddilaa
