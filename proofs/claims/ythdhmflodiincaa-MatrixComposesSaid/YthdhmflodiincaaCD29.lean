/- Texts of the proof: P4. -/
import Derived.Test.YthdhmflodiincaaCD13
import Derived.Test.YthdhmflodiincaaCD15
import Derived.Test.YthdhmflodiincaaCD22
import Derived.Test.YthdhmflodiincaaCD23
import Derived.Test.YthdhmflodiincaaCD24
import Derived.Test.YthdhmflodiincaaCD28
import Derived.Deep.DeepCutAuto
set_option maxRecDepth 100000
set_option maxHeartbeats 8000000
namespace Go.Proofs.Ythdhmflodiincaa
open Lib (hid)
open Go.RowKit Go.Maps

theorem same3_at {w : World} {a b : Option Addr} {c d n m : Nat} {l : List Cl} {ar br : Int} (hab : ar = br) (e1 : l.length = n) (e2 : l.length = m) (h1 : CellsW w a c l) (h2 : CellsW w b d l) (hl : l.length ≤ 2000) : Calls Try.prog 27 #[.agg #[.int .i64 ar, .slice a n c], .agg #[.int .i64 br, .slice b m d]] w fun e w' => e = .returned (.bool true) ∧ w.grownBy w' none := by
 subst hab e1 e2
 have h := rsame_calls l l ar ar a c b d w h1 h2 hl hl
 rw [decide_eq_true rfl, decide_eq_true rfl] at h
 exact h
theorem pow_c9 {n k : Nat} (hn : n ≤ 3) (hk : k ≤ 2) : n ^ k ≤ 9 := by
 have h1 : n ^ k ≤ 3 ^ k := Nat.pow_le_pow_left hn _
 have h2 : 3 ^ k ≤ 3 ^ 2 := Nat.pow_le_pow_right (by omega) hk
 omega
theorem upM_len4 {g : List Gt} {m : List Cl} {N : Nat} (h : Mat g m) (hr : ∀ c ∈ m, 0 ≤ c.1 ∧ c.1 < (N : Int)) : m.length ≤ N := up_len m 0 N h.1 (fun c hc => by have := hr c hc; omega)
theorem jr_lt4 {n k j : Nat} {a b : List Cl} (hn : 1 ≤ n) (hk : 1 ≤ k) (hj : 1 ≤ j) (ra : ∀ c ∈ a, 0 ≤ c.1 ∧ c.1 < ((n ^ k : Nat) : Int)) (rb : ∀ c ∈ b, 0 ≤ c.1 ∧ c.1 < ((n ^ j : Nat) : Int)) :
  ∀ p ∈ jPairs (n : Int) ((n ^ (j - 1) : Nat) : Int) a b, 0 ≤ jr (n : Int) ((n ^ (j - 1) : Nat) : Int) p ∧ jr (n : Int) ((n ^ (j - 1) : Nat) : Int) p < ((n ^ (k + j - 2) : Nat) : Int) := fun p hp => by
 obtain ⟨h1, h2⟩ := mem_pairs.1 (List.mem_filter.1 hp).1
 obtain ⟨a0, a1⟩ := ra _ h1
 obtain ⟨b0, b1⟩ := rb _ h2
 obtain ⟨x, hx⟩ : ∃ z : Nat, p.1.1 = (z : Int) := ⟨p.1.1.toNat, by omega⟩
 obtain ⟨y, hy⟩ : ∃ z : Nat, p.2.1 = (z : Int) := ⟨p.2.1.toNat, by omega⟩
 have hr : 1 ≤ n ^ (j - 1) := Nat.one_le_pow _ _ hn
 have hx1 : x < n ^ k := by rw [hx] at a1; exact_mod_cast a1
 have e : jr (n : Int) ((n ^ (j - 1) : Nat) : Int) p = ((x / n * n ^ (j - 1) + y % n ^ (j - 1) : Nat) : Int) := by
  unfold jr
  rw [hx, hy]
  push_cast
  rfl
 rw [e]
 refine ⟨Int.natCast_nonneg _, ?_⟩
 have e1 : n ^ k = n * n ^ (k - 1) := by rw [← Nat.pow_succ']; congr 1; omega
 have h3 : x / n < n ^ (k - 1) := Nat.div_lt_of_lt_mul (by rw [← e1]; exact hx1)
 have h4 : y % n ^ (j - 1) < n ^ (j - 1) := Nat.mod_lt _ (by omega)
 have e2 : n ^ (k + j - 2) = n ^ (k - 1) * n ^ (j - 1) := by rw [← Nat.pow_add]; congr 1; omega
 have h5 : (x / n + 1) * n ^ (j - 1) ≤ n ^ (k - 1) * n ^ (j - 1) := Nat.mul_le_mul_right _ h3
 rw [Nat.succ_mul] at h5
 rw [e2]
 exact_mod_cast (by omega : x / n * n ^ (j - 1) + y % n ^ (j - 1) < n ^ (k - 1) * n ^ (j - 1))
theorem mjoin_mat {n k j : Nat} {gs g : List Gt} {a b m : List Cl} (hG : Good gs) (ha : Mat gs a) (hb : Mat gs b) (hl : gs.length + 2 * (a.length * b.length) ≤ 19900) (e : (mjoinP (n : Int) ((n ^ (j - 1) : Nat) : Int) (n ^ (k + j - 2)) a b).run gs = (g, m)) :
  g.length ≤ gs.length + 2 * (a.length * b.length) ∧ Mat g m ∧ (∀ c ∈ m, 0 ≤ c.1 ∧ c.1 < ((n ^ (k + j - 2) : Nat) : Int)) := by
 have h := Pr.safe_run _ (safe_mjoinP (n := (n : Int)) (rest := ((n ^ (j - 1) : Nat) : Int)) (total := n ^ (k + j - 2)) hG ha hb hl)
 rw [e] at h
 simp only at h
 exact ⟨h.grew.len, h.mat (ranksTo_up _), fun c hc => mem_ranksTo.1 (h.up.mem (List.mem_map_of_mem hc))⟩
theorem mprod_len {n j : Nat} {gs g : List Gt} {a b m : List Cl} (hG : Good gs) (ha : Mat gs a) (hb : Mat gs b) (hl : gs.length + a.length * b.length ≤ 19900) (rb : ∀ c ∈ b, 0 ≤ c.1 ∧ c.1 < ((n ^ j : Nat) : Int)) (e : (mprodP ((n ^ j : Nat) : Int) a b).run gs = (g, m)) : g.length ≤ gs.length + a.length * b.length := by
 have h := Pr.safe_run _ (safe_mprodP (p := ((n ^ j : Nat) : Int)) hG ha hb rb hl)
 rw [e] at h
 exact h.grew.len
theorem composes_calls (s : Nat) (l : List Stp) (X Y : List Nat) (nl nx ny : Nat) (sa xa ya : Option Addr) (sc xc yc : Nat) (w : World) (hs : s < 256) (hnl : l.length = nl) (hnx : X.length = nx) (hny : Y.length = ny)
  (hl : StpsW w sa sc l) (ho : ∀ s ∈ l, StpOk s) (hx : U8W w xa xc X) (hxb : ∀ z ∈ X, z < 256) (hxm : (X.length : Int) ≤ 9223372036854775807) (hy : U8W w ya yc Y) (hyb : ∀ z ∈ Y, z < 256) (hym : (Y.length : Int) ≤ 9223372036854775807) :
  Calls Try.prog 4 #[.int .u8 (s : Int), .slice sa nl sc, .slice xa nx xc, .slice ya ny yc] w fun e w' => e = .returned (.bool true) ∧ w.grownBy w' none := by
 have HG := hid (grown_refl w none)
 have HA := hid (fun (U : World) => atoms_calls s hs U)
 obtain ⟨n, hn⟩ : ∃ z, s % 3 + 1 = z := ⟨_, rfl⟩
 obtain ⟨k, hk⟩ : ∃ z, s / 3 % 2 + 1 = z := ⟨_, rfl⟩
 obtain ⟨j, hj⟩ : ∃ z, s / 6 % 2 + 1 = z := ⟨_, rfl⟩
 rw [hn, hk, hj] at HA
 have HNK := hid (show 1 ≤ n ∧ n ≤ 3 ∧ 1 ≤ k ∧ k ≤ 2 ∧ 1 ≤ j ∧ j ≤ 2 from by omega)
 clear hn hk hj
 have HL := hid hl
 have HX := hid hx
 have HY := hid hy
 have HSO := hid ho
 have HXB := hid (And.intro hxb hxm)
 have HYB := hid (And.intro hyb hym)
 have HLN := hid (And.intro hnl (And.intro hnx hny))
 clear hl hx hy ho hxb hxm hyb hym hnl hnx hny hs
 go_enter Try.func4, Try.ntmps4
 go_wp2_with fail
 refine (head_calls _).mono ?_
 rintro e V1 ⟨rfl, g⟩
 replace HL := hid (HL.out.grown g)
 replace HX := hid (HX.out.grown g)
 replace HY := hid (HY.out.grown g)
 replace HG := hid (gT HG.out g)
 clear g
 by_cases hbig : 20 < nl
 ·
  have f1 : decide (20 < nl) = true := decide_eq_true hbig
  have f2 : decide ((20 : Int) < (nl : Int)) = true := decide_eq_true (by omega)
  go_wp2_with fail
  go_ret
  exact ⟨rfl, HG.out⟩
 ·
  have f1 : decide (20 < nl) = false := decide_eq_false hbig
  have f2 : decide ((20 : Int) < (nl : Int)) = false := decide_eq_false (by omega)
  obtain ⟨qb, hqb⟩ : ∃ z, buildC l = z := ⟨_, rfl⟩
  obtain ⟨g, refs⟩ := qb
  have hbu := built l (by rw [HLN.out.1]; omega)
  rw [hqb] at hbu
  have HBU := hid (show Good g ∧ g.length ≤ 61 ∧ refs.length ≤ 20 ∧ ∀ r ∈ refs, Ok g r from ⟨hbu.good, by have h1 := hbu.len; have h2 := HLN.out.1; simp only at h1; omega, by have h1 := hbu.refs; have h2 := HLN.out.1; simp only at h1; omega, hbu.ok⟩)
  have HBC := hid (rbuild_calls l sa sc V1 hqb HL.out (by rw [HLN.out.1]; omega) HSO.out)
  rw [HLN.out.1] at HBC
  clear hqb hbu hbig
  go_wp2_with fail
  clear f1 f2
  refine HBC.out.mono ?_
  rintro e V2 ⟨a0, c0, ra, rc, rfl, hr, hrr, g1⟩
  clear HBC
  replace HL := hid (HL.out.grown g1)
  replace HX := hid (HX.out.grown g1)
  replace HY := hid (HY.out.grown g1)
  replace HG := hid (gT HG.out g1)
  clear g1
  have HR := hid hrr
  clear hrr
  go_upto_region 5 with fail
  have hb := CB.new hr
  have gw := gAl V2 (.cells #[.slice a0 g.length c0] 30) none
  obtain ⟨V3, hV3⟩ : ∃ z, World.alloc V2 (.cells #[.slice a0 g.length c0] 30) = z := ⟨_, rfl⟩
  have hsV3 : V3.heap.size = V2.heap.size + 1 := by rw [← hV3]; simp
  rw [hV3] at gw hb ⊢
  clear hV3
  obtain ⟨bc, hbb⟩ : ∃ b, V2.heap.size = b := ⟨_, rfl⟩
  rw [hbb] at hb hsV3 ⊢
  clear hbb
  replace HL := hid (HL.out.grown gw)
  replace HX := hid (HX.out.grown gw)
  replace HY := hid (HY.out.grown gw)
  replace HR := hid (HR.out.grown gw)
  replace HG := hid (gT HG.out gw)
  clear gw
  have Hc := hid hb
  clear hb
  clear hr hsV3
  have qc := Hc.out.1
  go_wp2_with fail
  clear qc
  refine (HA.out _).mono ?_
  rintro e w9 ⟨rfl, hw9⟩
  rw [hw9]
  clear hw9 w9
  have qc := Hc.out.1
  go_wp2_with fail
  clear qc
  have hm := made_calls refs n k X ra rc xa xc V3 HR.out HX.out (by have := HBU.out; omega) (by have := HXB.out.2; omega) (fun r hr => by have h1 := HBU.out.2.2.2 r hr; have h2 := HBU.out.2.1; unfold Ok at h1; omega) HXB.out.1 (by have := HNK.out; omega) HNK.out.1 (by have := HNK.out; omega) (by have := HNK.out; omega)
  rw [HLN.out.2.1] at hm
  obtain ⟨tA, htA⟩ : ∃ z, min (n ^ k) nx = z := ⟨_, rfl⟩
  rw [htA] at hm
  have hM := made_mat HBU.out.1.pos HBU.out.2.2.2 X tA
  have hR := (madeC_all refs X tA).2
  have hK := madeC_len refs X tA
  obtain ⟨A, hA⟩ : ∃ z, madeC refs X tA = z := ⟨_, rfl⟩
  rw [hA] at hm hM hR hK
  have hT : tA ≤ n ^ k := by rw [← htA]; exact Nat.min_le_left _ _
  have hT9 : n ^ k ≤ 9 := by have h1 : n ^ k ≤ 3 ^ k := Nat.pow_le_pow_left HNK.out.2.1 _; have h2 : 3 ^ k ≤ 3 ^ 2 := Nat.pow_le_pow_right (by omega) (by have := HNK.out; omega); omega
  have HMA := hid (show Mat g A ∧ A.length ≤ 9 ∧ ∀ c ∈ A, 0 ≤ c.1 ∧ c.1 < ((n ^ k : Nat) : Int) from ⟨hM, by omega, fun c hc => ⟨(hR c hc).1, by have h1 := (hR c hc).2.1; omega⟩⟩)
  clear hM hR hK hT hT9 htA hA
  refine hm.mono ?_
  rintro e V4 ⟨aA, cA, mA, rfl, hlA, hr, g1⟩
  clear hm
  replace Hc := hid (Hc.out.grown g1)
  replace HL := hid (HL.out.grown g1)
  replace HX := hid (HX.out.grown g1)
  replace HY := hid (HY.out.grown g1)
  replace HR := hid (HR.out.grown g1)
  replace HG := hid (gT HG.out g1)
  clear g1
  have qc := Hc.out.1
  go_upto_region 7 with fail
  clear qc
  have hb := XB.new (k : Int) hr hlA
  have gw := gAl V4 (.cells #[.int .i64 (k : Int), .slice aA mA cA] 26) none
  obtain ⟨V5, hV5⟩ : ∃ z, World.alloc V4 (.cells #[.int .i64 (k : Int), .slice aA mA cA] 26) = z := ⟨_, rfl⟩
  have hsV5 : V5.heap.size = V4.heap.size + 1 := by rw [← hV5]; simp
  rw [hV5] at gw hb ⊢
  clear hV5
  obtain ⟨ba, hbb⟩ : ∃ b, V4.heap.size = b := ⟨_, rfl⟩
  rw [hbb] at hb hsV5 ⊢
  clear hbb
  replace Hc := hid (Hc.out.grown gw)
  replace HL := hid (HL.out.grown gw)
  replace HX := hid (HX.out.grown gw)
  replace HY := hid (HY.out.grown gw)
  replace HR := hid (HR.out.grown gw)
  replace HG := hid (gT HG.out gw)
  clear gw
  have Ha := hid hb
  clear hb
  clear hr hlA hsV5
  have qc := Hc.out.1
  have qa := Ha.out.1
  have ra := Ha.out.2.1
  go_wp2_with fail
  clear qc qa ra
  have hm := made_calls refs n j Y ra rc ya yc V5 HR.out HY.out (by have := HBU.out; omega) (by have := HYB.out.2; omega) (fun r hr => by have h1 := HBU.out.2.2.2 r hr; have h2 := HBU.out.2.1; unfold Ok at h1; omega) HYB.out.1 (by have := HNK.out; omega) HNK.out.1 (by have := HNK.out; omega) (by have := HNK.out; omega)
  rw [HLN.out.2.2] at hm
  obtain ⟨tB, htB⟩ : ∃ z, min (n ^ j) ny = z := ⟨_, rfl⟩
  rw [htB] at hm
  have hM := made_mat HBU.out.1.pos HBU.out.2.2.2 Y tB
  have hR := (madeC_all refs Y tB).2
  have hK := madeC_len refs Y tB
  obtain ⟨B, hB⟩ : ∃ z, madeC refs Y tB = z := ⟨_, rfl⟩
  rw [hB] at hm hM hR hK
  have hT : tB ≤ n ^ j := by rw [← htB]; exact Nat.min_le_left _ _
  have hT9 : n ^ j ≤ 9 := by have h1 : n ^ j ≤ 3 ^ j := Nat.pow_le_pow_left HNK.out.2.1 _; have h2 : 3 ^ j ≤ 3 ^ 2 := Nat.pow_le_pow_right (by omega) (by have := HNK.out; omega); omega
  have HMB := hid (show Mat g B ∧ B.length ≤ 9 ∧ ∀ c ∈ B, 0 ≤ c.1 ∧ c.1 < ((n ^ j : Nat) : Int) from ⟨hM, by omega, fun c hc => ⟨(hR c hc).1, by have h1 := (hR c hc).2.1; omega⟩⟩)
  clear hM hR hK hT hT9 htB hB
  refine hm.mono ?_
  rintro e V6 ⟨aB, cB, mB, rfl, hlB, hr, g1⟩
  clear hm
  replace Hc := hid (Hc.out.grown g1)
  replace Ha := hid (Ha.out.grown g1)
  replace HL := hid (HL.out.grown g1)
  replace HX := hid (HX.out.grown g1)
  replace HY := hid (HY.out.grown g1)
  replace HR := hid (HR.out.grown g1)
  replace HG := hid (gT HG.out g1)
  clear g1
  have qc := Hc.out.1
  have qa := Ha.out.1
  have ra := Ha.out.2.1
  go_upto_region 8 with fail
  clear qc qa ra
  have hb := XB.new (j : Int) hr hlB
  have gw := gAl V6 (.cells #[.int .i64 (j : Int), .slice aB mB cB] 26) none
  obtain ⟨V7, hV7⟩ : ∃ z, World.alloc V6 (.cells #[.int .i64 (j : Int), .slice aB mB cB] 26) = z := ⟨_, rfl⟩
  have hsV7 : V7.heap.size = V6.heap.size + 1 := by rw [← hV7]; simp
  rw [hV7] at gw hb ⊢
  clear hV7
  obtain ⟨bb, hbb⟩ : ∃ b, V6.heap.size = b := ⟨_, rfl⟩
  rw [hbb] at hb hsV7 ⊢
  clear hbb
  replace Hc := hid (Hc.out.grown gw)
  replace Ha := hid (Ha.out.grown gw)
  replace HL := hid (HL.out.grown gw)
  replace HX := hid (HX.out.grown gw)
  replace HY := hid (HY.out.grown gw)
  replace HR := hid (HR.out.grown gw)
  replace HG := hid (gT HG.out gw)
  clear gw
  have Hb := hid hb
  clear hb
  clear hr hlB hsV7
  have HPX := hid (show n ^ k ≤ 9 ∧ n ^ j ≤ 9 from ⟨pow_c9 HNK.out.2.1 HNK.out.2.2.2.1, pow_c9 HNK.out.2.1 HNK.out.2.2.2.2.2⟩)
  have hk9 : k ≤ 2 := HNK.out.2.2.2.1
  have hj9 : j ≤ 2 := HNK.out.2.2.2.2.2
  have qc := Hc.out.1
  have qa := Ha.out.1
  have ra := Ha.out.2.1
  have qb := Hb.out.1
  have rb := Hb.out.2.1
  go_upto_if 54 with fail
  clear qc qa ra qb rb
  have HG0 := HG
  replace HG := hid (grown_refl V7 none)
  go_cut [] (fun wx => World.grownBy V7 wx none)
  case first =>
   by_cases hc1 : 2 < k + j
   ·
    have f1 : decide ((2 : Int) < (k : Int) + (j : Int)) = true := decide_eq_true (by omega)
    have qc := Hc.out.1
    have qa := Ha.out.1
    have ra := Ha.out.2.1
    have qb := Hb.out.1
    have rb := Hb.out.2.1
    go_upto_region 9 with fail
    clear qc qa ra qb rb
    clear f1
    obtain ⟨rest, hrest⟩ : ∃ z, n ^ (j - 1) = z := ⟨_, rfl⟩
    obtain ⟨rr, hrr⟩ : ∃ z, k + j - 2 = z := ⟨_, rfl⟩
    have HAR := hid (show (k : Int) + (j : Int) - 2 = (rr : Int) ∧ 1 ≤ rr ∧ rr ≤ 2 from by have := HNK.out; omega)
    have h81 : A.length * B.length ≤ 9 * 9 := Nat.mul_le_mul HMA.out.2.1 HMB.out.2.1
    obtain ⟨qj, hqj⟩ : ∃ z, (mjoinP (n : Int) ((n ^ (j - 1) : Nat) : Int) (n ^ (k + j - 2)) A B).run g = z := ⟨_, rfl⟩
    obtain ⟨gj, mj⟩ := qj
    have o := mjoin_mat (n := n) (k := k) (j := j) HBU.out.1 HMA.out.1 HMB.out.1 (by have := HBU.out; omega) hqj
    have hjl := jr_lt4 (n := n) (k := k) (j := j) HNK.out.1 HNK.out.2.2.1 HNK.out.2.2.2.2.1 HMA.out.2.2 HMB.out.2.2
    rw [hrest, hrr] at hjl hqj
    rw [hrr] at o
    have h9r : n ^ rr ≤ 9 := pow_c9 HNK.out.2.1 HAR.out.2.2
    have hml := upM_len4 o.2.1 o.2.2
    have HQJ := hid (And.intro hqj (And.intro h81 (And.intro hrest (And.intro hrr (And.intro hjl h9r)))))
    have HUJ := hid (show gj.length ≤ 300 ∧ mj.length ≤ 81 from ⟨by have h1 := o.1; have := HBU.out; omega, by omega⟩)
    clear hrest hrr h81 hqj o hjl h9r hml
    have hcj := mjoin_calls g A B n k j rest (n ^ rr) gj mj a0 c0 aA mA cA aB mB cB V7 HQJ.out.1 Hc.out.2.2 Ha.out.2.2.2 Ha.out.2.2.1 Hb.out.2.2.2 Hb.out.2.2.1 HBU.out.1 HMA.out.1 HMB.out.1 (by rw [← Ha.out.2.2.1, ← Hb.out.2.2.1]; have := HBU.out; have := HQJ.out; omega) (by have := HMA.out.2.1; have := Ha.out.2.2.1; omega) (by have := HMB.out.2.1; have := Hb.out.2.2.1; omega) HNK.out.1 (by have := HNK.out; omega) HNK.out.2.2.2.2.1 (by have := HNK.out; omega) (by have := HNK.out; omega) HQJ.out.2.2.1.symm (by have := HQJ.out.2.2.2.2.2; omega) (fun c hc => by have h1 := HMA.out.2.2 c hc; have := HPX.out.1; omega) (fun c hc => by have h1 := HMB.out.2.2 c hc; have := HPX.out.2; omega) HQJ.out.2.2.2.2.1
    rw [HAR.out.1] at hcj
    have HCJ := hid hcj
    clear hcj
    have qc := Hc.out.1
    have qa := Ha.out.1
    have ra := Ha.out.2.1
    have qb := Hb.out.1
    have rb := Hb.out.2.1
    go_wp2_with fail
    clear qc qa ra qb rb
    refine (HCJ.out).mono ?_
    rintro e V8 ⟨ad, cd, ae, ne, ce, rfl, hn, hr, hm, g1⟩
    replace Hc := hid (Hc.out.grown g1)
    replace Ha := hid (Ha.out.grown g1)
    replace Hb := hid (Hb.out.grown g1)
    replace HL := hid (HL.out.grown g1)
    replace HX := hid (HX.out.grown g1)
    replace HY := hid (HY.out.grown g1)
    replace HR := hid (HR.out.grown g1)
    replace HG := hid (gT HG.out g1)
    clear g1
    have qc := Hc.out.1
    have qa := Ha.out.1
    have ra := Ha.out.2.1
    have qb := Hb.out.1
    have rb := Hb.out.2.1
    go_upto_region 10 with fail
    clear qc qa ra qb rb
    have h1 := CB.new hr
    have gw := gAl V8 (.cells #[.slice ad gj.length cd] 30) none
    obtain ⟨V9, hU⟩ : ∃ z, World.alloc V8 (.cells #[.slice ad gj.length cd] 30) = z := ⟨_, rfl⟩
    have hsU : V9.heap.size = V8.heap.size + 1 := by rw [← hU]; simp
    rw [hU] at gw h1 ⊢
    clear hU
    obtain ⟨bd, hbb⟩ : ∃ b, V8.heap.size = b := ⟨_, rfl⟩
    rw [hbb] at h1 hsU ⊢
    clear hbb
    replace hm := hm.grown gw
    replace Hc := hid (Hc.out.grown gw)
    replace Ha := hid (Ha.out.grown gw)
    replace Hb := hid (Hb.out.grown gw)
    replace HL := hid (HL.out.grown gw)
    replace HX := hid (HX.out.grown gw)
    replace HY := hid (HY.out.grown gw)
    replace HR := hid (HR.out.grown gw)
    replace HG := hid (gT HG.out gw)
    clear gw
    have hb := XB.new (rr : Int) hm hn
    have gw := gAl V9 (.cells #[.int .i64 (rr : Int), .slice ae ne ce] 26) none
    obtain ⟨V10, hU⟩ : ∃ z, World.alloc V9 (.cells #[.int .i64 (rr : Int), .slice ae ne ce] 26) = z := ⟨_, rfl⟩
    rw [hU] at gw hb ⊢
    clear hU
    rw [hsU] at hb
    clear hsU
    obtain ⟨be, hbb⟩ : ∃ b, bd + 1 = b := ⟨_, rfl⟩
    rw [hbb] at hb ⊢
    clear hbb
    replace h1 := h1.grown gw
    replace Hc := hid (Hc.out.grown gw)
    replace Ha := hid (Ha.out.grown gw)
    replace Hb := hid (Hb.out.grown gw)
    replace HL := hid (HL.out.grown gw)
    replace HX := hid (HX.out.grown gw)
    replace HY := hid (HY.out.grown gw)
    replace HR := hid (HR.out.grown gw)
    replace HG := hid (gT HG.out gw)
    clear gw
    have Hd := hid h1
    clear h1
    have He := hid hb
    clear hb
    clear hr hm hn
    have hcj := rjoin_calls g A B n k j rest (n ^ rr) gj mj a0 c0 aA mA cA aB mB cB V10 HQJ.out.1 Hc.out.2.2 Ha.out.2.2.2 Ha.out.2.2.1 Hb.out.2.2.2 Hb.out.2.2.1 HBU.out.1 HMA.out.1 HMB.out.1 (by rw [← Ha.out.2.2.1, ← Hb.out.2.2.1]; have := HBU.out; have := HQJ.out; omega) (by have := HMA.out.2.1; have := Ha.out.2.2.1; omega) (by have := HMB.out.2.1; have := Hb.out.2.2.1; omega) HNK.out.1 (by have := HNK.out; omega) HNK.out.2.2.1 HNK.out.2.2.2.2.1 (by have := HNK.out; omega) (by have := HNK.out; omega) HQJ.out.2.2.1.symm (by rw [HQJ.out.2.2.2.1]) (fun c hc => by have h1 := HMA.out.2.2 c hc; have := HPX.out.1; omega) (fun c hc => by have h1 := HMB.out.2.2 c hc; have := HPX.out.2; omega) HQJ.out.2.2.2.2.1
    rw [HAR.out.1] at hcj
    have HCR := hid hcj
    clear hcj
    have qc := Hc.out.1
    have qa := Ha.out.1
    have ra := Ha.out.2.1
    have qb := Hb.out.1
    have rb := Hb.out.2.1
    have qd := Hd.out.1
    have qe := He.out.1
    have re := He.out.2.1
    go_wp2_with fail
    clear qc qa ra qb rb qd qe re
    refine (HCR.out).mono ?_
    rintro e V11 ⟨af, cf, ah, nh, ch, rfl, hn, hr, hm, g1⟩
    replace Hc := hid (Hc.out.grown g1)
    replace Ha := hid (Ha.out.grown g1)
    replace Hb := hid (Hb.out.grown g1)
    replace Hd := hid (Hd.out.grown g1)
    replace He := hid (He.out.grown g1)
    replace HL := hid (HL.out.grown g1)
    replace HX := hid (HX.out.grown g1)
    replace HY := hid (HY.out.grown g1)
    replace HR := hid (HR.out.grown g1)
    replace HG := hid (gT HG.out g1)
    clear g1
    have qc := Hc.out.1
    have qa := Ha.out.1
    have ra := Ha.out.2.1
    have qb := Hb.out.1
    have rb := Hb.out.2.1
    have qd := Hd.out.1
    have qe := He.out.1
    have re := He.out.2.1
    go_upto_region 11 with fail
    clear qc qa ra qb rb qd qe re
    have h1 := CB.new hr
    have gw := gAl V11 (.cells #[.slice af gj.length cf] 30) none
    obtain ⟨V12, hU⟩ : ∃ z, World.alloc V11 (.cells #[.slice af gj.length cf] 30) = z := ⟨_, rfl⟩
    have hsU : V12.heap.size = V11.heap.size + 1 := by rw [← hU]; simp
    rw [hU] at gw h1 ⊢
    clear hU
    obtain ⟨bf, hbb⟩ : ∃ b, V11.heap.size = b := ⟨_, rfl⟩
    rw [hbb] at h1 hsU ⊢
    clear hbb
    replace hm := hm.grown gw
    replace Hc := hid (Hc.out.grown gw)
    replace Ha := hid (Ha.out.grown gw)
    replace Hb := hid (Hb.out.grown gw)
    replace Hd := hid (Hd.out.grown gw)
    replace He := hid (He.out.grown gw)
    replace HL := hid (HL.out.grown gw)
    replace HX := hid (HX.out.grown gw)
    replace HY := hid (HY.out.grown gw)
    replace HR := hid (HR.out.grown gw)
    replace HG := hid (gT HG.out gw)
    clear gw
    have hb := XB.new (rr : Int) hm hn
    have gw := gAl V12 (.cells #[.int .i64 (rr : Int), .slice ah nh ch] 26) none
    obtain ⟨V13, hU⟩ : ∃ z, World.alloc V12 (.cells #[.int .i64 (rr : Int), .slice ah nh ch] 26) = z := ⟨_, rfl⟩
    rw [hU] at gw hb ⊢
    clear hU
    rw [hsU] at hb
    clear hsU
    obtain ⟨bh, hbb⟩ : ∃ b, bf + 1 = b := ⟨_, rfl⟩
    rw [hbb] at hb ⊢
    clear hbb
    replace h1 := h1.grown gw
    replace Hc := hid (Hc.out.grown gw)
    replace Ha := hid (Ha.out.grown gw)
    replace Hb := hid (Hb.out.grown gw)
    replace Hd := hid (Hd.out.grown gw)
    replace He := hid (He.out.grown gw)
    replace HL := hid (HL.out.grown gw)
    replace HX := hid (HX.out.grown gw)
    replace HY := hid (HY.out.grown gw)
    replace HR := hid (HR.out.grown gw)
    replace HG := hid (gT HG.out gw)
    clear gw
    have Hf := hid h1
    clear h1
    have Hh := hid hb
    clear hb
    clear hr hm hn
    have qc := Hc.out.1
    have qa := Ha.out.1
    have ra := Ha.out.2.1
    have qb := Hb.out.1
    have rb := Hb.out.2.1
    have qd := Hd.out.1
    have qe := He.out.1
    have re := He.out.2.1
    have qf := Hf.out.1
    have qh := Hh.out.1
    have rh := Hh.out.2.1
    go_wp2_with fail
    clear qc qa ra qb rb qd qe re qf qh rh
    refine (same_at (decide_eq_true rfl) (by have := HUJ.out; omega) (by have := HUJ.out; omega) Hd.out.2.2 Hf.out.2.2).mono ?_
    rintro e V14 ⟨rfl, g⟩
    replace Hc := hid (Hc.out.grown g)
    replace Ha := hid (Ha.out.grown g)
    replace Hb := hid (Hb.out.grown g)
    replace Hd := hid (Hd.out.grown g)
    replace He := hid (He.out.grown g)
    replace Hf := hid (Hf.out.grown g)
    replace Hh := hid (Hh.out.grown g)
    replace HL := hid (HL.out.grown g)
    replace HX := hid (HX.out.grown g)
    replace HY := hid (HY.out.grown g)
    replace HR := hid (HR.out.grown g)
    replace HG := hid (gT HG.out g)
    clear g
    have qc := Hc.out.1
    have qa := Ha.out.1
    have ra := Ha.out.2.1
    have qb := Hb.out.1
    have rb := Hb.out.2.1
    have qd := Hd.out.1
    have qe := He.out.1
    have re := He.out.2.1
    have qf := Hf.out.1
    have qh := Hh.out.1
    have rh := Hh.out.2.1
    go_wp2_with fail
    clear qc qa ra qb rb qd qe re qf qh rh
    refine (same3_at rfl He.out.2.2.1 Hh.out.2.2.1 He.out.2.2.2 Hh.out.2.2.2 (by have := HUJ.out; omega)).mono ?_
    rintro e V15 ⟨rfl, g⟩
    replace Hc := hid (Hc.out.grown g)
    replace Ha := hid (Ha.out.grown g)
    replace Hb := hid (Hb.out.grown g)
    replace Hd := hid (Hd.out.grown g)
    replace He := hid (He.out.grown g)
    replace Hf := hid (Hf.out.grown g)
    replace Hh := hid (Hh.out.grown g)
    replace HL := hid (HL.out.grown g)
    replace HX := hid (HX.out.grown g)
    replace HY := hid (HY.out.grown g)
    replace HR := hid (HR.out.grown g)
    replace HG := hid (gT HG.out g)
    clear g
    clear HCJ HCR HUJ
    have qc := Hc.out.1
    have qa := Ha.out.1
    have ra := Ha.out.2.1
    have qb := Hb.out.1
    have rb := Hb.out.2.1
    have qd := Hd.out.1
    have qe := He.out.1
    have re := He.out.2.1
    have qf := Hf.out.1
    have qh := Hh.out.1
    have rh := Hh.out.2.1
    go_wp2_with fail
    clear qc qa ra qb rb qd qe re qf qh rh
    go_meet
    exact HG.out
   ·
    have f1 : decide ((2 : Int) < (k : Int) + (j : Int)) = false := decide_eq_false (by omega)
    have qc := Hc.out.1
    have qa := Ha.out.1
    have ra := Ha.out.2.1
    have qb := Hb.out.1
    have rb := Hb.out.2.1
    go_wp2_with fail
    clear qc qa ra qb rb
    go_meet
    exact grown_refl V7 none
  case rest =>
   replace HG := HG0
   clear HG0
   obtain ⟨V16, hv9⟩ : ∃ z, z = wc := ⟨_, rfl⟩
   rw [← hv9] at hcut ⊢
   clear hv9
   replace Hc := hid (Hc.out.grown hcut)
   replace Ha := hid (Ha.out.grown hcut)
   replace Hb := hid (Hb.out.grown hcut)
   replace HL := hid (HL.out.grown hcut)
   replace HX := hid (HX.out.grown hcut)
   replace HY := hid (HY.out.grown hcut)
   replace HR := hid (HR.out.grown hcut)
   replace HG := hid (gT HG.out hcut)
   clear hcut
   have qc := Hc.out.1
   have qa := Ha.out.1
   have ra := Ha.out.2.1
   have qb := Hb.out.1
   have rb := Hb.out.2.1
   go_upto_if 84 with fail
   clear qc qa ra qb rb
   have HG0 := HG
   replace HG := hid (grown_refl V16 none)
   go_cut [] (fun wx => World.grownBy V16 wx none)
   case first =>
    by_cases hc1 : k + j < 4
    ·
     have f1 : decide ((k : Int) + (j : Int) < 4) = true := decide_eq_true (by omega)
     have qc := Hc.out.1
     have qa := Ha.out.1
     have ra := Ha.out.2.1
     have qb := Hb.out.1
     have rb := Hb.out.2.1
     go_upto_region 14 with fail
     clear qc qa ra qb rb
     clear f1
     obtain ⟨rr, hrr⟩ : ∃ z, k + j = z := ⟨_, rfl⟩
     have HAR := hid (show (k : Int) + (j : Int) = (rr : Int) ∧ 1 ≤ rr ∧ rr ≤ 3 from by have := HNK.out; omega)
     have h81 : A.length * B.length ≤ 9 * 9 := Nat.mul_le_mul HMA.out.2.1 HMB.out.2.1
     obtain ⟨qj, hqj⟩ : ∃ z, (mprodP ((n ^ j : Nat) : Int) A B).run g = z := ⟨_, rfl⟩
     obtain ⟨gj, mj⟩ := qj
     have o := mprod_len HBU.out.1 HMA.out.1 HMB.out.1 (by have := HBU.out; omega) HMB.out.2.2 hqj
     have hml : mj.length ≤ 81 := by
      have h1 := (Pr.safe_run _ (safe_mprodP (p := ((n ^ j : Nat) : Int)) HBU.out.1 HMA.out.1 HMB.out.1 HMB.out.2.2 (by have := HBU.out; omega))).up.length_le
      rw [hqj, List.length_map] at h1
      unfold prodRanks at h1
      rw [List.length_map, len_pairs] at h1
      simp only at h1
      omega
     have HQJ := hid (And.intro hqj h81)
     have HUJ := hid (show gj.length ≤ 300 ∧ mj.length ≤ 81 from ⟨by have h1 := o; have := HBU.out; omega, hml⟩)
     clear hrr h81 hqj o hml
     have hcj := mprod_calls g A B n k j (n ^ j) gj mj a0 c0 aA mA cA aB mB cB V16 HQJ.out.1 Hc.out.2.2 Ha.out.2.2.2 Ha.out.2.2.1 Hb.out.2.2.2 Hb.out.2.2.1 HBU.out.1 HMA.out.1 HMB.out.1 (by rw [← Ha.out.2.2.1, ← Hb.out.2.2.1]; have := HBU.out; have := HQJ.out; omega) (by have := HMA.out.2.1; have := Ha.out.2.2.1; omega) (by have := HMB.out.2.1; have := Hb.out.2.2.1; omega) (by have := HNK.out; omega) (by have := HNK.out; omega) (by have := HNK.out; omega) rfl (fun c hc => by have h1 := HMA.out.2.2 c hc; have := HPX.out.1; omega) HMB.out.2.2
     rw [HAR.out.1] at hcj
     have HCJ := hid hcj
     clear hcj
     have qc := Hc.out.1
     have qa := Ha.out.1
     have ra := Ha.out.2.1
     have qb := Hb.out.1
     have rb := Hb.out.2.1
     go_wp2_with fail
     clear qc qa ra qb rb
     refine (HCJ.out).mono ?_
     rintro e V17 ⟨ad, cd, ae, ne, ce, rfl, hn, hr, hm, g1⟩
     replace Hc := hid (Hc.out.grown g1)
     replace Ha := hid (Ha.out.grown g1)
     replace Hb := hid (Hb.out.grown g1)
     replace HL := hid (HL.out.grown g1)
     replace HX := hid (HX.out.grown g1)
     replace HY := hid (HY.out.grown g1)
     replace HR := hid (HR.out.grown g1)
     replace HG := hid (gT HG.out g1)
     clear g1
     have qc := Hc.out.1
     have qa := Ha.out.1
     have ra := Ha.out.2.1
     have qb := Hb.out.1
     have rb := Hb.out.2.1
     go_upto_region 15 with fail
     clear qc qa ra qb rb
     have h1 := CB.new hr
     have gw := gAl V17 (.cells #[.slice ad gj.length cd] 30) none
     obtain ⟨V18, hU⟩ : ∃ z, World.alloc V17 (.cells #[.slice ad gj.length cd] 30) = z := ⟨_, rfl⟩
     have hsU : V18.heap.size = V17.heap.size + 1 := by rw [← hU]; simp
     rw [hU] at gw h1 ⊢
     clear hU
     obtain ⟨bd, hbb⟩ : ∃ b, V17.heap.size = b := ⟨_, rfl⟩
     rw [hbb] at h1 hsU ⊢
     clear hbb
     replace hm := hm.grown gw
     replace Hc := hid (Hc.out.grown gw)
     replace Ha := hid (Ha.out.grown gw)
     replace Hb := hid (Hb.out.grown gw)
     replace HL := hid (HL.out.grown gw)
     replace HX := hid (HX.out.grown gw)
     replace HY := hid (HY.out.grown gw)
     replace HR := hid (HR.out.grown gw)
     replace HG := hid (gT HG.out gw)
     clear gw
     have hb := XB.new (rr : Int) hm hn
     have gw := gAl V18 (.cells #[.int .i64 (rr : Int), .slice ae ne ce] 26) none
     obtain ⟨V19, hU⟩ : ∃ z, World.alloc V18 (.cells #[.int .i64 (rr : Int), .slice ae ne ce] 26) = z := ⟨_, rfl⟩
     rw [hU] at gw hb ⊢
     clear hU
     rw [hsU] at hb
     clear hsU
     obtain ⟨be, hbb⟩ : ∃ b, bd + 1 = b := ⟨_, rfl⟩
     rw [hbb] at hb ⊢
     clear hbb
     replace h1 := h1.grown gw
     replace Hc := hid (Hc.out.grown gw)
     replace Ha := hid (Ha.out.grown gw)
     replace Hb := hid (Hb.out.grown gw)
     replace HL := hid (HL.out.grown gw)
     replace HX := hid (HX.out.grown gw)
     replace HY := hid (HY.out.grown gw)
     replace HR := hid (HR.out.grown gw)
     replace HG := hid (gT HG.out gw)
     clear gw
     have Hd := hid h1
     clear h1
     have He := hid hb
     clear hb
     clear hr hm hn
     have hcj := rproduct_calls g A B n k j (n ^ j) gj mj a0 c0 aA mA cA aB mB cB V19 HQJ.out.1 Hc.out.2.2 Ha.out.2.2.2 Ha.out.2.2.1 Hb.out.2.2.2 Hb.out.2.2.1 HBU.out.1 HMA.out.1 HMB.out.1 (by rw [← Ha.out.2.2.1, ← Hb.out.2.2.1]; have := HBU.out; have := HQJ.out; omega) (by have := HMA.out.2.1; have := Ha.out.2.2.1; omega) (by have := HMB.out.2.1; have := Hb.out.2.2.1; omega) (by have := HNK.out; omega) (by have := HNK.out; omega) (by have := HNK.out; omega) rfl (fun c hc => by have h1 := HMA.out.2.2 c hc; have := HPX.out.1; omega) HMB.out.2.2
     rw [HAR.out.1] at hcj
     have HCR := hid hcj
     clear hcj
     have qc := Hc.out.1
     have qa := Ha.out.1
     have ra := Ha.out.2.1
     have qb := Hb.out.1
     have rb := Hb.out.2.1
     have qd := Hd.out.1
     have qe := He.out.1
     have re := He.out.2.1
     go_wp2_with fail
     clear qc qa ra qb rb qd qe re
     refine (HCR.out).mono ?_
     rintro e V20 ⟨af, cf, ah, nh, ch, rfl, hn, hr, hm, g1⟩
     replace Hc := hid (Hc.out.grown g1)
     replace Ha := hid (Ha.out.grown g1)
     replace Hb := hid (Hb.out.grown g1)
     replace Hd := hid (Hd.out.grown g1)
     replace He := hid (He.out.grown g1)
     replace HL := hid (HL.out.grown g1)
     replace HX := hid (HX.out.grown g1)
     replace HY := hid (HY.out.grown g1)
     replace HR := hid (HR.out.grown g1)
     replace HG := hid (gT HG.out g1)
     clear g1
     have qc := Hc.out.1
     have qa := Ha.out.1
     have ra := Ha.out.2.1
     have qb := Hb.out.1
     have rb := Hb.out.2.1
     have qd := Hd.out.1
     have qe := He.out.1
     have re := He.out.2.1
     go_upto_region 16 with fail
     clear qc qa ra qb rb qd qe re
     have h1 := CB.new hr
     have gw := gAl V20 (.cells #[.slice af gj.length cf] 30) none
     obtain ⟨V21, hU⟩ : ∃ z, World.alloc V20 (.cells #[.slice af gj.length cf] 30) = z := ⟨_, rfl⟩
     have hsU : V21.heap.size = V20.heap.size + 1 := by rw [← hU]; simp
     rw [hU] at gw h1 ⊢
     clear hU
     obtain ⟨bf, hbb⟩ : ∃ b, V20.heap.size = b := ⟨_, rfl⟩
     rw [hbb] at h1 hsU ⊢
     clear hbb
     replace hm := hm.grown gw
     replace Hc := hid (Hc.out.grown gw)
     replace Ha := hid (Ha.out.grown gw)
     replace Hb := hid (Hb.out.grown gw)
     replace Hd := hid (Hd.out.grown gw)
     replace He := hid (He.out.grown gw)
     replace HL := hid (HL.out.grown gw)
     replace HX := hid (HX.out.grown gw)
     replace HY := hid (HY.out.grown gw)
     replace HR := hid (HR.out.grown gw)
     replace HG := hid (gT HG.out gw)
     clear gw
     have hb := XB.new (rr : Int) hm hn
     have gw := gAl V21 (.cells #[.int .i64 (rr : Int), .slice ah nh ch] 26) none
     obtain ⟨V22, hU⟩ : ∃ z, World.alloc V21 (.cells #[.int .i64 (rr : Int), .slice ah nh ch] 26) = z := ⟨_, rfl⟩
     rw [hU] at gw hb ⊢
     clear hU
     rw [hsU] at hb
     clear hsU
     obtain ⟨bh, hbb⟩ : ∃ b, bf + 1 = b := ⟨_, rfl⟩
     rw [hbb] at hb ⊢
     clear hbb
     replace h1 := h1.grown gw
     replace Hc := hid (Hc.out.grown gw)
     replace Ha := hid (Ha.out.grown gw)
     replace Hb := hid (Hb.out.grown gw)
     replace Hd := hid (Hd.out.grown gw)
     replace He := hid (He.out.grown gw)
     replace HL := hid (HL.out.grown gw)
     replace HX := hid (HX.out.grown gw)
     replace HY := hid (HY.out.grown gw)
     replace HR := hid (HR.out.grown gw)
     replace HG := hid (gT HG.out gw)
     clear gw
     have Hf := hid h1
     clear h1
     have Hh := hid hb
     clear hb
     clear hr hm hn
     have qc := Hc.out.1
     have qa := Ha.out.1
     have ra := Ha.out.2.1
     have qb := Hb.out.1
     have rb := Hb.out.2.1
     have qd := Hd.out.1
     have qe := He.out.1
     have re := He.out.2.1
     have qf := Hf.out.1
     have qh := Hh.out.1
     have rh := Hh.out.2.1
     go_wp2_with fail
     clear qc qa ra qb rb qd qe re qf qh rh
     refine (same_at (decide_eq_true rfl) (by have := HUJ.out; omega) (by have := HUJ.out; omega) Hd.out.2.2 Hf.out.2.2).mono ?_
     rintro e V23 ⟨rfl, g⟩
     replace Hc := hid (Hc.out.grown g)
     replace Ha := hid (Ha.out.grown g)
     replace Hb := hid (Hb.out.grown g)
     replace Hd := hid (Hd.out.grown g)
     replace He := hid (He.out.grown g)
     replace Hf := hid (Hf.out.grown g)
     replace Hh := hid (Hh.out.grown g)
     replace HL := hid (HL.out.grown g)
     replace HX := hid (HX.out.grown g)
     replace HY := hid (HY.out.grown g)
     replace HR := hid (HR.out.grown g)
     replace HG := hid (gT HG.out g)
     clear g
     have qc := Hc.out.1
     have qa := Ha.out.1
     have ra := Ha.out.2.1
     have qb := Hb.out.1
     have rb := Hb.out.2.1
     have qd := Hd.out.1
     have qe := He.out.1
     have re := He.out.2.1
     have qf := Hf.out.1
     have qh := Hh.out.1
     have rh := Hh.out.2.1
     go_wp2_with fail
     clear qc qa ra qb rb qd qe re qf qh rh
     refine (same3_at rfl He.out.2.2.1 Hh.out.2.2.1 He.out.2.2.2 Hh.out.2.2.2 (by have := HUJ.out; omega)).mono ?_
     rintro e V24 ⟨rfl, g⟩
     replace Hc := hid (Hc.out.grown g)
     replace Ha := hid (Ha.out.grown g)
     replace Hb := hid (Hb.out.grown g)
     replace Hd := hid (Hd.out.grown g)
     replace He := hid (He.out.grown g)
     replace Hf := hid (Hf.out.grown g)
     replace Hh := hid (Hh.out.grown g)
     replace HL := hid (HL.out.grown g)
     replace HX := hid (HX.out.grown g)
     replace HY := hid (HY.out.grown g)
     replace HR := hid (HR.out.grown g)
     replace HG := hid (gT HG.out g)
     clear g
     clear HCJ HCR HUJ
     have qc := Hc.out.1
     have qa := Ha.out.1
     have ra := Ha.out.2.1
     have qb := Hb.out.1
     have rb := Hb.out.2.1
     have qd := Hd.out.1
     have qe := He.out.1
     have re := He.out.2.1
     have qf := Hf.out.1
     have qh := Hh.out.1
     have rh := Hh.out.2.1
     go_wp2_with fail
     clear qc qa ra qb rb qd qe re qf qh rh
     go_meet
     exact HG.out
    ·
     have f1 : decide ((k : Int) + (j : Int) < 4) = false := decide_eq_false (by omega)
     have qc := Hc.out.1
     have qa := Ha.out.1
     have ra := Ha.out.2.1
     have qb := Hb.out.1
     have rb := Hb.out.2.1
     go_wp2_with fail
     clear qc qa ra qb rb
     go_meet
     exact grown_refl V16 none
   case rest =>
    replace HG := HG0
    clear HG0
    obtain ⟨V25, hv9⟩ : ∃ z, z = wc := ⟨_, rfl⟩
    rw [← hv9] at hcut ⊢
    clear hv9
    replace Hc := hid (Hc.out.grown hcut)
    replace Ha := hid (Ha.out.grown hcut)
    replace Hb := hid (Hb.out.grown hcut)
    replace HL := hid (HL.out.grown hcut)
    replace HX := hid (HX.out.grown hcut)
    replace HY := hid (HY.out.grown hcut)
    replace HR := hid (HR.out.grown hcut)
    replace HG := hid (gT HG.out hcut)
    clear hcut
    have qc := Hc.out.1
    have qa := Ha.out.1
    have ra := Ha.out.2.1
    have qb := Hb.out.1
    have rb := Hb.out.2.1
    go_upto_region 18 with fail
    clear qc qa ra qb rb
    by_cases hk2 : k = 2
    ·
     have f3 : ((k : Int) == 2) = true := by rw [hk2]; rfl
     have f4 : ((k : Int) != 2) = false := by rw [bne, f3]; rfl
     have HK2 := hid hk2
     clear hk2
     have hsq : Sq n g A := ⟨HMA.out.1, fun c hc => by have h1 := HMA.out.2.2 c hc; rw [HK2.out, Nat.pow_two, Int.natCast_mul] at h1; exact h1⟩
     have hct := fun (U : World) (hU : World.grownBy V25 U none) => mturn_calls U n (k : Int) A aA cA mA Ha.out.2.2.1 (Ha.out.2.2.2.grown hU) HNK.out.1 (by have := HNK.out; omega) (by have := HMA.out.2.1; have := Ha.out.2.2.1; omega) (fun c hc => by have h1 := HMA.out.2.2 c hc; have := HPX.out.1; omega)
     have hrt := fun (U : World) (hU : World.grownBy V25 U none) => rturn_calls A n mA (k : Int) aA cA U (Ha.out.2.2.2.grown hU) Ha.out.2.2.1 (by have := HMA.out.2.1; have := Ha.out.2.2.1; omega) (by have := HNK.out; omega)
     have HCT := hid hct
     have HRT := hid hrt
     have HSQ := hid hsq
     clear hsq hct hrt
     have HS := hid (fun (Wh : World) (hWh : V25.grownBy Wh none) => (⟨hWh, hWh.cell Ha.out.1 (by simp), hWh.cell Ha.out.2.1 (by simp)⟩ : (fun Wh : World => V25.grownBy Wh none ∧ Wh.cell? ⟨ba, 0, none⟩ = some (.int .i64 (k : Int)) ∧ Wh.cell? ⟨ba, 1, none⟩ = some (.slice aA mA cA)) Wh))
     have hdr : V25.grownBy V25.drew none := ⟨rfl, rfl, rfl, Nat.le_refl _, fun _ _ _ => rfl⟩
     refine wp_region_held_drew (S := (fun Wh : World => V25.grownBy Wh none ∧ Wh.cell? ⟨ba, 0, none⟩ = some (.int .i64 (k : Int)) ∧ Wh.cell? ⟨ba, 1, none⟩ = some (.slice aA mA cA))) (by kernel_rfl) (HS.out _ hdr) (fun hH => ?_)
     refine wpAnyH_take (i := 0) (oi := { dst := some 111, op := Op.move (Operand.tmp 9), type := 4, pos := "law.go:130", after := #[], guard := none }) (v := ?_) rfl (by kernel_rfl) (by kernel_rfl) (by kernel_rfl) (fun _ _ _ h => h) (Or.inl ⟨by rfl, ?_⟩) (by assumption) ?_
     rotate_left 1
     · (intro W h; (try dsimp only at h); go_simp <;> with_reducible rfl)
     try simp only [Act.put, sA, sB, sC]
     refine wpAnyH_take (i := 1) (oi := { dst := some 112, op := Op.move (Operand.tmp 111), type := 4, pos := "law.go:130", after := #[{ on := 0, ground := Ground.data }], guard := none }) (v := ?_) rfl (by kernel_rfl) (by kernel_rfl) (by kernel_rfl) (fun _ _ _ h => h) (Or.inl ⟨by rfl, ?_⟩) (by assumption) ?_
     rotate_left 1
     · (intro W h; (try dsimp only at h); go_simp <;> with_reducible rfl)
     try simp only [Act.put, sA, sB, sC]
     refine wpAnyH_take (i := 2) (oi := { dst := some 113, op := Op.move (Operand.tmp 13), type := 3, pos := "law.go:130", after := #[{ on := 1, ground := Ground.guard }], guard := some (1, true) }) (v := ?_) rfl (by kernel_rfl) (by kernel_rfl) (by kernel_rfl) (fun _ _ _ h => h) (Or.inl ⟨by rfl, ?_⟩) (by assumption) ?_
     rotate_left 1
     · (intro W h; (try dsimp only at h); go_simp <;> with_reducible rfl)
     try simp only [Act.put, sA, sB, sC]
     refine wpAnyH_take (i := 3) (oi := { dst := some 114, op := Op.binOp BinOp.neq 3 (Operand.tmp 113) (Operand.const (Value.int IntKind.i64 2)) 3, type := 4, pos := "law.go:130", after := #[{ on := 2, ground := Ground.data }, { on := 1, ground := Ground.guard }], guard := some (1, true) }) (v := ?_) rfl (by kernel_rfl) (by kernel_rfl) (by kernel_rfl) (fun _ _ _ h => h) (Or.inl ⟨by rfl, ?_⟩) (by assumption) ?_
     rotate_left 1
     · (intro W h; (try dsimp only at h); go_simp <;> with_reducible rfl)
     try simp only [Act.put, sA, sB, sC]
     refine wpAnyH_take (i := 4) (oi := { dst := some 115, op := Op.move (Operand.tmp 114), type := 4, pos := "law.go:130", after := #[{ on := 3, ground := Ground.data }, { on := 1, ground := Ground.chain }, { on := 1, ground := Ground.guard }], guard := some (1, true) }) (v := ?_) rfl (by kernel_rfl) (by kernel_rfl) (by kernel_rfl) (fun _ _ _ h => h) (Or.inl ⟨by rfl, ?_⟩) (by assumption) ?_
     rotate_left 1
     · (intro W h; (try dsimp only at h); go_simp <;> with_reducible rfl)
     try simp only [Act.put, sA, sB, sC]
     refine wpAnyH_take (i := 5) (oi := { dst := some 116, op := Op.move (Operand.tmp 12), type := 3, pos := "law.go:130", after := #[{ on := 4, ground := Ground.guard }], guard := some (4, false) }) (v := ?_) rfl (by kernel_rfl) (by kernel_rfl) (by kernel_rfl) (fun _ _ _ h => h) (Or.inl ⟨by rfl, ?_⟩) (by assumption) ?_
     rotate_left 1
     · (intro W h; (try dsimp only at h); go_simp <;> with_reducible rfl)
     try simp only [Act.put, sA, sB, sC]
     refine wpAnyH_take (i := 6) (oi := { dst := some 117, op := Op.load 26 (Operand.tmp 15), type := 26, pos := "law.go:130", after := #[{ on := 4, ground := Ground.guard }], guard := some (4, false) }) (v := ?_) rfl (by kernel_rfl) (by kernel_rfl) (by kernel_rfl) (fun _ _ _ h => h) (Or.inl ⟨by rfl, ?_⟩) (by assumption) ?_
     rotate_left 1
     · (intro W h; (try dsimp only at h); go_simp <;> with_reducible rfl)
     try simp only [Act.put, sA, sB, sC]
     refine wpAnyH_take (i := 8) (oi := { dst := some 119, op := Op.move (Operand.tmp 12), type := 3, pos := "law.go:130", after := #[{ on := 4, ground := Ground.guard }], guard := some (4, false) }) (v := ?_) rfl (by kernel_rfl) (by kernel_rfl) (by kernel_rfl) (fun _ _ _ h => h) (Or.inl ⟨by rfl, ?_⟩) (by assumption) ?_
     rotate_left 1
     · (intro W h; (try dsimp only at h); go_simp <;> with_reducible rfl)
     try simp only [Act.put, sA, sB, sC]
     refine wpAnyH_take (i := 9) (oi := { dst := some 120, op := Op.load 26 (Operand.tmp 15), type := 26, pos := "law.go:130", after := #[{ on := 4, ground := Ground.guard }], guard := some (4, false) }) (v := ?_) rfl (by kernel_rfl) (by kernel_rfl) (by kernel_rfl) (fun _ _ _ h => h) (Or.inl ⟨by rfl, ?_⟩) (by assumption) ?_
     rotate_left 1
     · (intro W h; (try dsimp only at h); go_simp <;> with_reducible rfl)
     try simp only [Act.put, sA, sB, sC]
     refine wpAnyH_ready (rs := [7]) (by kernel_rfl) (by simp) ?_
     refine (AllReadyH.cons (o := { dst := some 118, op := Op.call { callee := Callee.value (Operand.func 44), args := #[Operand.tmp 116, Operand.tmp 117], argTypes := #[3, 26] }, type := 26, pos := "law.go:130", after := #[{ on := 5, ground := Ground.data }, { on := 6, ground := Ground.data }, { on := 4, ground := Ground.chain }, { on := 4, ground := Ground.guard }], guard := some (4, false) }) rfl (fun K hK => ?_) AllReadyH.nil)
     rw [if_pos (by rfl)]
     go_simp
     go_at_call 44
     refine (HCT.out _ hdr).mono ?_
     rintro e wc1 ⟨bt0, dt0, lt0, rfl, hpt0, hst0, hmt0, gc1⟩
     have hgr1 := gT hdr gc1
     have hlt0 : lt0.length = mA := by rw [hpt0.length_eq]; unfold turnM; rw [List.length_map]; exact Ha.out.2.2.1
     have e90 := trTo_turn HSQ.out hpt0 hst0
     go_wp2_with fail
     refine hK.out _ _ (HS.out _ hgr1) (fun hH => ?_)
     clear hK K
     try simp only [Act.put, sA, sB, sC]
     refine wpAnyH_ready (rs := [10]) (by kernel_rfl) (by simp) ?_
     refine (AllReadyH.cons (o := { dst := some 121, op := Op.call { callee := Callee.value (Operand.func 45), args := #[Operand.tmp 119, Operand.tmp 120], argTypes := #[3, 26] }, type := 26, pos := "law.go:130", after := #[{ on := 8, ground := Ground.data }, { on := 9, ground := Ground.data }, { on := 7, ground := Ground.chain }, { on := 4, ground := Ground.guard }], guard := some (4, false) }) rfl (fun K hK => ?_) AllReadyH.nil)
     rw [if_pos (by rfl)]
     go_simp
     go_at_call 45
     refine (HRT.out _ hgr1).mono ?_
     rintro e wc2 ⟨br0, qr0, dr0, rfl, hqr0, hmr0, gc2⟩
     have hgr2 := gT hgr1 gc2
     rw [e90] at hqr0 hmr0
     have hmt0b := hmt0.grown gc2
     go_wp2_with fail
     refine hK.out _ _ (HS.out _ hgr2) (fun hH => ?_)
     clear hK K
     try simp only [Act.put, sA, sB, sC]
     refine wpAnyH_ready (rs := [11]) (by kernel_rfl) (by simp) ?_
     refine (AllReadyH.cons (o := { dst := some 122, op := Op.call { callee := Callee.value (Operand.func 27), args := #[Operand.tmp 118, Operand.tmp 121], argTypes := #[26, 26] }, type := 4, pos := "law.go:130", after := #[{ on := 7, ground := Ground.data }, { on := 10, ground := Ground.data }, { on := 10, ground := Ground.chain }, { on := 4, ground := Ground.guard }], guard := some (4, false) }) rfl (fun K hK => ?_) AllReadyH.nil)
     rw [if_pos (by rfl)]
     go_simp
     go_at_call 27
     refine (same3_at (by rw [HK2.out]; rfl) hlt0 hqr0 hmt0b hmr0 (by have := HMA.out.2.1; have := Ha.out.2.2.1; omega)).mono ?_
     rintro e wc3 ⟨rfl, gc3⟩
     have hgr3 := gT hgr2 gc3
     go_wp2_with fail
     refine hK.out _ _ (HS.out _ hgr3) (fun hH => ?_)
     clear hK K
     try simp only [Act.put, sA, sB, sC]
     refine wpAnyH_take (i := 12) (oi := { dst := some 123, op := Op.pick (Operand.tmp 115) (Operand.const (Value.bool true)) (Operand.tmp 122), type := 4, pos := "law.go:130", after := #[{ on := 4, ground := Ground.data }, { on := 11, ground := Ground.data }, { on := 1, ground := Ground.guard }], guard := some (1, true) }) (v := ?_) rfl (by kernel_rfl) (by kernel_rfl) (by kernel_rfl) (fun _ _ _ h => h) (Or.inl ⟨by rfl, ?_⟩) (by assumption) ?_
     rotate_left 1
     · (intro W h; (try dsimp only at h); go_simp <;> with_reducible rfl)
     try simp only [Act.put, sA, sB, sC]
     refine wpAnyH_take (i := 13) (oi := { dst := some 124, op := Op.pick (Operand.tmp 112) (Operand.tmp 123) (Operand.const (Value.bool false)), type := 4, pos := "law.go:130", after := #[{ on := 1, ground := Ground.data }, { on := 12, ground := Ground.data }], guard := none }) (v := ?_) rfl (by kernel_rfl) (by kernel_rfl) (by kernel_rfl) (fun _ _ _ h => h) (Or.inl ⟨by rfl, ?_⟩) (by assumption) ?_
     rotate_left 1
     · (intro W h; (try dsimp only at h); go_simp <;> with_reducible rfl)
     try simp only [Act.put, sA, sB, sC]
     refine wpAnyH_take (i := 14) (oi := { dst := some 8, op := Op.assign (Operand.tmp 124), type := 4, pos := "law.go:130", after := #[{ on := 13, ground := Ground.data }, { on := 11, ground := Ground.chain }, { on := 0, ground := Ground.phase }, { on := 1, ground := Ground.phase }, { on := 2, ground := Ground.phase }, { on := 3, ground := Ground.phase }, { on := 4, ground := Ground.phase }, { on := 5, ground := Ground.phase }, { on := 6, ground := Ground.phase }, { on := 7, ground := Ground.phase }, { on := 8, ground := Ground.phase }, { on := 9, ground := Ground.phase }, { on := 10, ground := Ground.phase }, { on := 11, ground := Ground.phase }, { on := 12, ground := Ground.phase }, { on := 13, ground := Ground.phase }], guard := none }) (v := ?_) rfl (by kernel_rfl) (by kernel_rfl) (by kernel_rfl) (fun _ _ _ h => h) (Or.inl ⟨by rfl, ?_⟩) (by assumption) ?_
     rotate_left 1
     · (intro W h; (try dsimp only at h); go_simp <;> with_reducible rfl)
     try simp only [Act.put, sA, sB, sC]
     refine wpAnyH_done (by kernel_rfl) ?_ _
     have hEND := hgr3
     clear hH
     go_wp2_with fail
     go_ret
     exact ⟨rfl, gT HG.out hEND⟩
    ·
     have f3 : ((k : Int) == 2) = false := by rw [beq_eq_false_iff_ne]; omega
     have f4 : ((k : Int) != 2) = true := by rw [bne, f3]; rfl
     have HK2 := hid hk2
     clear hk2
     have HS := hid (fun (Wh : World) (hWh : V25.grownBy Wh none) => (⟨hWh, hWh.cell Ha.out.1 (by simp), hWh.cell Ha.out.2.1 (by simp)⟩ : (fun Wh : World => V25.grownBy Wh none ∧ Wh.cell? ⟨ba, 0, none⟩ = some (.int .i64 (k : Int)) ∧ Wh.cell? ⟨ba, 1, none⟩ = some (.slice aA mA cA)) Wh))
     have hdr : V25.grownBy V25.drew none := ⟨rfl, rfl, rfl, Nat.le_refl _, fun _ _ _ => rfl⟩
     refine wp_region_held_drew (S := (fun Wh : World => V25.grownBy Wh none ∧ Wh.cell? ⟨ba, 0, none⟩ = some (.int .i64 (k : Int)) ∧ Wh.cell? ⟨ba, 1, none⟩ = some (.slice aA mA cA))) (by kernel_rfl) (HS.out _ hdr) (fun hH => ?_)
     refine wpAnyH_take (i := 0) (oi := { dst := some 111, op := Op.move (Operand.tmp 9), type := 4, pos := "law.go:130", after := #[], guard := none }) (v := ?_) rfl (by kernel_rfl) (by kernel_rfl) (by kernel_rfl) (fun _ _ _ h => h) (Or.inl ⟨by rfl, ?_⟩) (by assumption) ?_
     rotate_left 1
     · (intro W h; (try dsimp only at h); go_simp <;> with_reducible rfl)
     try simp only [Act.put, sA, sB, sC]
     refine wpAnyH_take (i := 1) (oi := { dst := some 112, op := Op.move (Operand.tmp 111), type := 4, pos := "law.go:130", after := #[{ on := 0, ground := Ground.data }], guard := none }) (v := ?_) rfl (by kernel_rfl) (by kernel_rfl) (by kernel_rfl) (fun _ _ _ h => h) (Or.inl ⟨by rfl, ?_⟩) (by assumption) ?_
     rotate_left 1
     · (intro W h; (try dsimp only at h); go_simp <;> with_reducible rfl)
     try simp only [Act.put, sA, sB, sC]
     refine wpAnyH_take (i := 2) (oi := { dst := some 113, op := Op.move (Operand.tmp 13), type := 3, pos := "law.go:130", after := #[{ on := 1, ground := Ground.guard }], guard := some (1, true) }) (v := ?_) rfl (by kernel_rfl) (by kernel_rfl) (by kernel_rfl) (fun _ _ _ h => h) (Or.inl ⟨by rfl, ?_⟩) (by assumption) ?_
     rotate_left 1
     · (intro W h; (try dsimp only at h); go_simp <;> with_reducible rfl)
     try simp only [Act.put, sA, sB, sC]
     refine wpAnyH_take (i := 3) (oi := { dst := some 114, op := Op.binOp BinOp.neq 3 (Operand.tmp 113) (Operand.const (Value.int IntKind.i64 2)) 3, type := 4, pos := "law.go:130", after := #[{ on := 2, ground := Ground.data }, { on := 1, ground := Ground.guard }], guard := some (1, true) }) (v := ?_) rfl (by kernel_rfl) (by kernel_rfl) (by kernel_rfl) (fun _ _ _ h => h) (Or.inl ⟨by rfl, ?_⟩) (by assumption) ?_
     rotate_left 1
     · (intro W h; (try dsimp only at h); go_simp <;> with_reducible rfl)
     try simp only [Act.put, sA, sB, sC]
     refine wpAnyH_take (i := 4) (oi := { dst := some 115, op := Op.move (Operand.tmp 114), type := 4, pos := "law.go:130", after := #[{ on := 3, ground := Ground.data }, { on := 1, ground := Ground.chain }, { on := 1, ground := Ground.guard }], guard := some (1, true) }) (v := ?_) rfl (by kernel_rfl) (by kernel_rfl) (by kernel_rfl) (fun _ _ _ h => h) (Or.inl ⟨by rfl, ?_⟩) (by assumption) ?_
     rotate_left 1
     · (intro W h; (try dsimp only at h); go_simp <;> with_reducible rfl)
     try simp only [Act.put, sA, sB, sC]
     refine wpAnyH_take (i := 5) (oi := { dst := some 116, op := Op.move (Operand.tmp 12), type := 3, pos := "law.go:130", after := #[{ on := 4, ground := Ground.guard }], guard := some (4, false) }) (v := undef) rfl (by kernel_rfl) (by kernel_rfl) (by kernel_rfl) (fun _ _ _ h => h) (Or.inr ⟨by rfl, rfl⟩) (by assumption) ?_
     try simp only [Act.put, sA, sB, sC]
     refine wpAnyH_take (i := 6) (oi := { dst := some 117, op := Op.load 26 (Operand.tmp 15), type := 26, pos := "law.go:130", after := #[{ on := 4, ground := Ground.guard }], guard := some (4, false) }) (v := undef) rfl (by kernel_rfl) (by kernel_rfl) (by kernel_rfl) (fun _ _ _ h => h) (Or.inr ⟨by rfl, rfl⟩) (by assumption) ?_
     try simp only [Act.put, sA, sB, sC]
     refine wpAnyH_take (i := 7) (oi := { dst := some 118, op := Op.call { callee := Callee.value (Operand.func 44), args := #[Operand.tmp 116, Operand.tmp 117], argTypes := #[3, 26] }, type := 26, pos := "law.go:130", after := #[{ on := 5, ground := Ground.data }, { on := 6, ground := Ground.data }, { on := 4, ground := Ground.chain }, { on := 4, ground := Ground.guard }], guard := some (4, false) }) (v := undef) rfl (by kernel_rfl) (by kernel_rfl) (by kernel_rfl) (fun _ _ _ h => h) (Or.inr ⟨by rfl, rfl⟩) (by assumption) ?_
     try simp only [Act.put, sA, sB, sC]
     refine wpAnyH_take (i := 8) (oi := { dst := some 119, op := Op.move (Operand.tmp 12), type := 3, pos := "law.go:130", after := #[{ on := 4, ground := Ground.guard }], guard := some (4, false) }) (v := undef) rfl (by kernel_rfl) (by kernel_rfl) (by kernel_rfl) (fun _ _ _ h => h) (Or.inr ⟨by rfl, rfl⟩) (by assumption) ?_
     try simp only [Act.put, sA, sB, sC]
     refine wpAnyH_take (i := 9) (oi := { dst := some 120, op := Op.load 26 (Operand.tmp 15), type := 26, pos := "law.go:130", after := #[{ on := 4, ground := Ground.guard }], guard := some (4, false) }) (v := undef) rfl (by kernel_rfl) (by kernel_rfl) (by kernel_rfl) (fun _ _ _ h => h) (Or.inr ⟨by rfl, rfl⟩) (by assumption) ?_
     try simp only [Act.put, sA, sB, sC]
     refine wpAnyH_take (i := 10) (oi := { dst := some 121, op := Op.call { callee := Callee.value (Operand.func 45), args := #[Operand.tmp 119, Operand.tmp 120], argTypes := #[3, 26] }, type := 26, pos := "law.go:130", after := #[{ on := 8, ground := Ground.data }, { on := 9, ground := Ground.data }, { on := 7, ground := Ground.chain }, { on := 4, ground := Ground.guard }], guard := some (4, false) }) (v := undef) rfl (by kernel_rfl) (by kernel_rfl) (by kernel_rfl) (fun _ _ _ h => h) (Or.inr ⟨by rfl, rfl⟩) (by assumption) ?_
     try simp only [Act.put, sA, sB, sC]
     refine wpAnyH_take (i := 11) (oi := { dst := some 122, op := Op.call { callee := Callee.value (Operand.func 27), args := #[Operand.tmp 118, Operand.tmp 121], argTypes := #[26, 26] }, type := 4, pos := "law.go:130", after := #[{ on := 7, ground := Ground.data }, { on := 10, ground := Ground.data }, { on := 10, ground := Ground.chain }, { on := 4, ground := Ground.guard }], guard := some (4, false) }) (v := undef) rfl (by kernel_rfl) (by kernel_rfl) (by kernel_rfl) (fun _ _ _ h => h) (Or.inr ⟨by rfl, rfl⟩) (by assumption) ?_
     try simp only [Act.put, sA, sB, sC]
     refine wpAnyH_take (i := 12) (oi := { dst := some 123, op := Op.pick (Operand.tmp 115) (Operand.const (Value.bool true)) (Operand.tmp 122), type := 4, pos := "law.go:130", after := #[{ on := 4, ground := Ground.data }, { on := 11, ground := Ground.data }, { on := 1, ground := Ground.guard }], guard := some (1, true) }) (v := ?_) rfl (by kernel_rfl) (by kernel_rfl) (by kernel_rfl) (fun _ _ _ h => h) (Or.inl ⟨by rfl, ?_⟩) (by assumption) ?_
     rotate_left 1
     · (intro W h; (try dsimp only at h); go_simp <;> with_reducible rfl)
     try simp only [Act.put, sA, sB, sC]
     refine wpAnyH_take (i := 13) (oi := { dst := some 124, op := Op.pick (Operand.tmp 112) (Operand.tmp 123) (Operand.const (Value.bool false)), type := 4, pos := "law.go:130", after := #[{ on := 1, ground := Ground.data }, { on := 12, ground := Ground.data }], guard := none }) (v := ?_) rfl (by kernel_rfl) (by kernel_rfl) (by kernel_rfl) (fun _ _ _ h => h) (Or.inl ⟨by rfl, ?_⟩) (by assumption) ?_
     rotate_left 1
     · (intro W h; (try dsimp only at h); go_simp <;> with_reducible rfl)
     try simp only [Act.put, sA, sB, sC]
     refine wpAnyH_take (i := 14) (oi := { dst := some 8, op := Op.assign (Operand.tmp 124), type := 4, pos := "law.go:130", after := #[{ on := 13, ground := Ground.data }, { on := 11, ground := Ground.chain }, { on := 0, ground := Ground.phase }, { on := 1, ground := Ground.phase }, { on := 2, ground := Ground.phase }, { on := 3, ground := Ground.phase }, { on := 4, ground := Ground.phase }, { on := 5, ground := Ground.phase }, { on := 6, ground := Ground.phase }, { on := 7, ground := Ground.phase }, { on := 8, ground := Ground.phase }, { on := 9, ground := Ground.phase }, { on := 10, ground := Ground.phase }, { on := 11, ground := Ground.phase }, { on := 12, ground := Ground.phase }, { on := 13, ground := Ground.phase }], guard := none }) (v := ?_) rfl (by kernel_rfl) (by kernel_rfl) (by kernel_rfl) (fun _ _ _ h => h) (Or.inl ⟨by rfl, ?_⟩) (by assumption) ?_
     rotate_left 1
     · (intro W h; (try dsimp only at h); go_simp <;> with_reducible rfl)
     try simp only [Act.put, sA, sB, sC]
     refine wpAnyH_done (by kernel_rfl) ?_ _
     have hEND := hdr
     clear hH
     go_wp2_with fail
     go_ret
     exact ⟨rfl, gT HG.out hEND⟩
end Go.Proofs.Ythdhmflodiincaa
