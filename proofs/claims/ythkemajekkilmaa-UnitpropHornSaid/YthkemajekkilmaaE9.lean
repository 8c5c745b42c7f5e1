/- The law on Horn formulas. -/
import Derived.Test.YthkemajekkilmaaGA10
namespace Go.Proofs.Ythkemajekkilmaa
open Go.RowKit
theorem mk38 (w : World) (n : Nat) (hn : n ≤ 1000000) : (Instr.makeSlice 38 (.int .i64 (n : Int)) (.int .i64 (n : Int))).run Try.prog w = .ok (.slice (some ⟨w.heap.size, 0, none⟩) n n) (w.alloc (.cells (madeCells #[.bool false] n) 4)) := by
  obtain ⟨i0, hi0, hz0, hz1, hz2⟩ := info_parts info4
  have hr := run_make (P := Try.prog) w 38 4 i0 (.bool false) Try.underlying38 hi0 hz0 .i64 .i64 n n (by omega) (Int.le_refl _) (by rw [hz2]; omega) (by omega)
  simp only [Int.toNat_natCast, hz1, Nat.mul_one] at hr
  exact hr
/-- The assignment in the making. -/
def hsT (V : Nat) (l : List Int) (k : Nat) : List Bool := (List.range V).map fun i : Nat => decide (i < k) && decide ((i : Int) + 1 ∈ l)
theorem hsT_len (V : Nat) (l : List Int) (k : Nat) : (hsT V l k).length = V := by unfold hsT; rw [List.length_map, List.length_range]
theorem hsT_zero (V : Nat) (l : List Int) : hsT V l 0 = List.replicate V false := by
  unfold hsT
  simp [List.map_const']
theorem hsT_all (V : Nat) (l : List Int) : hsT V l V = vsH V l := by
  unfold hsT vsH
  refine List.map_congr_left fun i hi => ?_
  rw [decide_eq_true (List.mem_range.1 hi), Bool.true_and]
theorem hsT_succ {V : Nat} (l : List Int) (k : Nat) (hk : k < V) : (hsT V l k).set k (decide ((k : Int) + 1 ∈ l)) = hsT V l (k + 1) := by
  refine List.ext_getElem? fun i => ?_
  rw [List.getElem?_set, hsT_len]
  by_cases h : i < V
  · have h1 : ∀ m, (hsT V l m)[i]? = some (decide (i < m) && decide ((i : Int) + 1 ∈ l)) := fun m => by unfold hsT; rw [List.getElem?_map, List.getElem?_range h]; rfl
    rw [h1, h1]
    by_cases e : k = i
    · subst e; simp [h]
    · have : (i < k) ↔ (i < k + 1) := by omega
      simp [e, this]
  · have h1 : ∀ m, (hsT V l m)[i]? = none := fun m => by rw [List.getElem?_eq_none]; rw [hsT_len]; omega
    rw [h1, h1, if_neg (by omega)]
set_option maxHeartbeats 16000000 in
set_option maxRecDepth 100000 in
theorem horn_law (V : Int) (C : List (List Int)) (ca : Option Addr) (cc : Nat) (w : World) (h : ClsW w ca cc C) :
    Calls Try.prog 9 #[.agg #[.int .i64 V, .slice ca C.length cc]] w fun e w' => e = .returned (.bool true) ∧ w.grownBy w' none := by
  obtain ⟨cn, hcn⟩ : ∃ n, C.length = n := ⟨_, rfl⟩
  obtain ⟨W1, hW1⟩ : ∃ z, w.alloc (.cells #[.int .i64 V, .slice ca cn cc] 24) = z := ⟨_, rfl⟩
  obtain ⟨q0, q1, hg1⟩ := box_at w _ _ hW1
  obtain ⟨bf, hbf⟩ : ∃ z, w.heap.size = z := ⟨_, rfl⟩
  rw [hbf] at q0 q1
  have HC := Lib.hid (And.intro (h.grown hg1) hcn)
  have HG1 := Lib.hid hg1
  have HQ := Lib.hid (And.intro q0 q1)
  rw [hcn]
  clear h hcn hg1 q0 q1
  go_enter Try.func9, Try.ntmps9
  go_wp2_with fail
  clear hW1
  refine (head_calls _).mono ?_
  rintro e w2 ⟨rfl, hg2⟩
  have q0 := hg2.cell HQ.out.1 (by simp)
  have q1 := hg2.cell HQ.out.2 (by simp)
  have G2 := Lib.hid hg2
  clear hg2
  have HS := small_calls V C ca cc w2 (HC.out.1.grown G2.out)
  rw [HC.out.2] at HS
  replace HS := Lib.hid HS
  go_wp2_with fail
  refine HS.out.mono ?_
  rintro e w3 ⟨rfl, hg⟩
  replace q0 := hg.cell q0 (by simp)
  replace q1 := hg.cell q1 (by simp)
  have G3 := Lib.hid (World.grownBy.trans G2.out hg)
  clear hg HS
  obtain ⟨sb, hsb⟩ : ∃ z, smallB V C = z := ⟨_, rfl⟩
  rw [hsb]
  cases sb
  case false =>
    go_wp2_with fail
    go_ret
    exact ⟨rfl, World.grownBy.trans HG1.out G3.out⟩
  obtain ⟨v, rfl, hv, hC40, hC12, hR⟩ := small_true hsb
  have HSM := Lib.hid (And.intro hC40 (And.intro hC12 hR))
  have hcn40 : cn ≤ 40 := by rw [← HC.out.2]; exact hC40
  clear hC40 hC12 hR hsb
  have HH := horn_calls (v : Int) C ca cc w3 (HC.out.1.grown G3.out) (by have := HSM.out.1; omega) (fun c hc => by have := HSM.out.2.1 c hc; omega)
  rw [HC.out.2] at HH
  replace HH := Lib.hid HH
  go_wp2_with fail
  refine HH.out.mono ?_
  rintro e w4 ⟨rfl, hg⟩
  replace q0 := hg.cell q0 (by simp)
  replace q1 := hg.cell q1 (by simp)
  have G4 := Lib.hid (World.grownBy.trans G3.out hg)
  clear hg HH
  obtain ⟨hb, hhb⟩ : ∃ z, hornB C = z := ⟨_, rfl⟩
  rw [hhb]
  cases hb
  case false =>
    go_wp2_with fail
    go_ret
    exact ⟨rfl, World.grownBy.trans HG1.out G4.out⟩
  have HHB := Lib.hid hhb
  clear hhb
  have HP := propagate_calls v C ca cc [] none 0 w4 (HC.out.1.grown G4.out) (by omega) (by have := HSM.out.1; omega) (fun c hc => by have := HSM.out.2.1 c hc; omega) HSM.out.2.2 ⟨Nat.le_refl _, .inl rfl⟩ (by simp) (fun x hx => by cases hx)
  rw [HC.out.2, List.length_nil] at HP
  replace HP := Lib.hid HP
  go_wp2_with fail
  refine HP.out.mono ?_
  rintro e w5 ⟨la, lc, rfl, hl, hg⟩
  replace q0 := hg.cell q0 (by simp)
  replace q1 := hg.cell q1 (by simp)
  have G5 := Lib.hid (World.grownBy.trans G4.out hg)
  have Hl := Lib.hid hl
  clear hg HP hl
  obtain ⟨ln, hln⟩ : ∃ z, (impP v C []).length = z := ⟨_, rfl⟩
  have hlv : ln ≤ v := by rw [← hln]; exact imp_le HSM.out.2.2 []
  rw [hln]
  obtain ⟨kf, hkf⟩ : ∃ z, cfP v C [] = z := ⟨_, rfl⟩
  rw [hkf]
  have HLN := Lib.hid hln
  have HKF := Lib.hid hkf
  clear hln hkf
  have hkf1 : -1 ≤ kf := by
    have hcl := (closed_all HSM.out.2.2 (A := []) rfl).2.2
    rw [HKF.out] at hcl
    by_cases hk : kf = -1
    · omega
    · obtain ⟨i, h1, _⟩ := hcl hk; omega
  by_cases hk : kf = -1
  case neg =>
    have c1 : decide (0 ≤ kf) = true := decide_eq_true (by omega)
    obtain ⟨N, hN⟩ : ∃ N : Nat, 2 ^ v = N := ⟨_, rfl⟩
    have hN256 : N ≤ 256 := by rw [← hN]; exact Nat.pow_le_pow_right (by omega) (show v ≤ 8 from hv)
    have hsh : wrap64 ((2 : Int) ^ v) = (N : Int) := by
      rw [show ((2 : Int) ^ v) = (N : Int) from by rw [← hN]; simp]
      exact IntWalk.wrap64_in _ ⟨by omega, by omega⟩
    clear hN
    have HQ7 := Lib.hid (And.intro q0 q1)
    go_wp2_with fail
    go_loopg [6, 7] N (fun gk s6 _s7 wr => ∃ k : Nat, s6 = .int .i64 (k : Int) ∧ gk = N - k ∧ k ≤ N ∧ w5.grownBy wr none)
    case atStart => exact ⟨0, rfl, rfl, by omega, grown_refl _ _⟩
    case round =>
      obtain ⟨k, rfl, hgk, hkk, hg⟩ := hrel
      have HI := Lib.hid (And.intro hgk hg)
      replace q0 := hg.cell HQ7.out.1 (by simp)
      replace q1 := hg.cell HQ7.out.2 (by simp)
      clear hgk hg
      by_cases hkN : k < N
      · have f1 : decide ((k : Int) < (N : Int)) = true := decide_eq_true (by omega)
        have f1' : decide (k < N) = true := decide_eq_true hkN
        have k1 : IntKind.i64.wrap ((k : Int) + 1) = (k : Int) + 1 := IntWalk.i64_in _ (by omega)
        have HAS : Hid (∀ W, wr.grownBy W none → Calls Try.prog 23 #[.int .i64 (v : Int), .int .i64 (k : Int)] W fun e w' => ∃ a c, e = .returned (.slice a v c) ∧ w'.ownsRow W.heap.size 4 1 (.slice a v c) v (blC (asgP v (k : Int))) ∧ W.grownBy w' none) := Lib.hid (fun W _ => assignment_calls v (k : Int) W (by omega) (by omega) (by omega))
        have HALL : Hid (∀ W a c, wr.grownBy W none → BW W a c (asgP v (k : Int)) → Calls Try.prog 24 #[.slice a v c, .slice ca cn cc] W fun e w' => e = .returned (.bool false) ∧ w' = W) := Lib.hid (fun W a c hW hb => by
          have hlen := asg_len v (k : Int)
          have := all_calls (asgP v (k : Int)) a c C ca cc W hb (HC.out.1.grown (World.grownBy.trans G5.out (World.grownBy.trans HI.out.2 hW))) (by have := HSM.out.1; omega) (fun c hc => by have := HSM.out.2.1 c hc; omega) (by omega) (by rw [hlen]; exact HSM.out.2.2)
          rw [hlen, HC.out.2] at this
          refine this.mono ?_
          rintro e w' ⟨rfl, hw⟩
          refine ⟨?_, hw⟩
          cases hal : (C.all fun c => c.any (litT (asgP v (k : Int)))) with
          | false => rfl
          | true => exact absurd (prop_sound HSM.out.2.2 (A := []) (fun x hx => by cases hx) (List.all_eq_true.1 hal) rfl).1 (by rw [HKF.out]; exact hk))
        go_wp2_with fail
        go_region_held3 (fun w' => wr.grownBy w' none ∧ w'.cell? ⟨bf, 0, none⟩ = some (.int .i64 (v : Int)) ∧ w'.cell? ⟨bf, 1, none⟩ = some (.slice ca cn cc))
          (first | exact ⟨⟨rfl, rfl, rfl, Nat.le_refl _, fun _ _ _ => rfl⟩, q0, q1⟩ | (go_split_ands; exact held_two g7 (by assumption) (by assumption) (by assumption)) | (go_split_ands; exact ⟨by assumption, by assumption, by assumption⟩))
          (first | (go_at_call 23; refine (HAS.out _ ?_).mono ?_; (go_split_ands; assumption); rintro e w7 ⟨va, vc, rfl, hown7, g7⟩) | (go_at_call 24; refine (HALL.out _ _ _ ?_ (bw_own hown7).2).mono ?_; (go_split_ands; assumption); rintro e w8 ⟨rfl, hw8⟩; subst hw8))
        have h8 : wr.grownBy w8 none := by go_split_ands; assumption
        have H8 := Lib.hid (World.grownBy.trans HI.out.2 h8)
        clear hown7 g7 h8 HAS HALL
        go_wp2_with fail
        go_roundg (N - (k + 1))
        case measure => rw [HI.out.1]; omega
        case rel => exact ⟨k + 1, rfl, rfl, by omega, H8.out⟩
      · have hke : k = N := by omega
        subst hke
        have f1 : decide (k < k) = false := by simp
        go_wp2_with fail
        go_ret
        exact ⟨rfl, World.grownBy.trans HG1.out (World.grownBy.trans G5.out HI.out.2)⟩
  case pos =>
    subst hk
    have hmk := fun w => mk38 w v (by omega)
    have hg8 := World.grownBy_alloc w5 (.cells (madeCells #[.bool false] v) 4) none
    have hown8 := made_own w5 w5.heap.size v (.bool false) 4 (Nat.le_refl _) (by omega)
    obtain ⟨W8, hW8⟩ : ∃ z, w5.alloc (.cells (madeCells #[.bool false] v) 4) = z := ⟨_, rfl⟩
    obtain ⟨gb, hgb⟩ : ∃ z, w5.heap.size = z := ⟨_, rfl⟩
    rw [hW8] at hg8 hown8
    rw [hgb] at hown8
    have HO := Lib.hid (And.intro hown8 (And.intro hg8 hgb))
    clear hown8 hg8
    have HQ7 := Lib.hid (And.intro q0 q1)
    have hbq : bf < gb := by rw [← hgb]; exact lies_lt q0
    have i0 : (0 : Int) ≤ (v : Int) := by omega
    go_wp2_with fail
    clear hW8 hgb hmk
    go_loopg [9] v (fun gk s9 wr => ∃ k : Nat, s9 = .int .i64 (k : Int) ∧ gk = v - k ∧ k ≤ v ∧ w5.grownBy wr none ∧ wr.ownsRow gb 4 1 (.slice (some ⟨gb, 0, none⟩) v v) v (blC (hsT v (impP v C []) k)))
    case atStart => exact ⟨0, rfl, rfl, by omega, HO.out.2.1, by rw [hsT_zero, blC, List.map_replicate]; exact HO.out.1⟩
    case round =>
      obtain ⟨k, rfl, hgk, hkk, hg, hown⟩ := hrel
      have HI := Lib.hid (And.intro hgk (And.intro hg hown))
      replace q0 := hg.cell HQ7.out.1 (by simp)
      replace q1 := hg.cell HQ7.out.2 (by simp)
      clear hgk hg hown
      by_cases hkv : k < v
      · have f1 : decide ((k : Int) < (v : Int)) = true := decide_eq_true (by omega)
        have f1' : decide (k < v) = true := decide_eq_true hkv
        have n0 : (0 : Int) ≤ (k : Int) := by omega
        have n1 : (k : Int) < (v : Int) := by omega
        have k1 : IntKind.i64.wrap ((k : Int) + 1) = (k : Int) + 1 := IntWalk.i64_in _ (by omega)
        have hcall := has_calls (impP v C []) la lc ((k : Int) + 1) wr (Hl.out.grown HI.out.2.1) (by rw [HLN.out]; omega)
        rw [HLN.out] at hcall
        obtain ⟨d, hd⟩ : ∃ d, decide (((k : Int) + 1) ∈ impP v C []) = d := ⟨_, rfl⟩
        rw [hd] at hcall
        have HCALL := Lib.hid hcall
        have HD := Lib.hid hd
        have hfr := World.ownsRow.frozenAt HI.out.2.2 k
        obtain ⟨b0, hb0⟩ : ∃ b, (hsT v (impP v C []) k)[k]? = some b := ⟨_, List.getElem?_eq_getElem (by rw [hsT_len]; exact hkv)⟩
        have hcell : wr.cell? ⟨gb, k, none⟩ = some (.bool b0) := by
          rw [World.ownsRow.cellAt HI.out.2.2 k (by omega), blC, List.getElem?_map, hb0]; rfl
        have HST := Lib.hid (World.ownsRow.stored HI.out.2.2 k (.bool d))
        clear hcall hd hb0
        go_wp2_with fail
        refine HCALL.out.mono ?_
        rintro e w8 ⟨rfl, hw8⟩
        rw [hw8]
        clear hw8 w8 HCALL
        go_wp2_with fail
        clear hfr hcell
        go_roundg (v - (k + 1))
        case measure => rw [HI.out.1]; omega
        case rel => exact ⟨k + 1, rfl, rfl, by omega, grown_past HI.out.2.1 HST.out.2 (by rw [HO.out.2.2]; exact Nat.le_refl _), by rw [← hsT_succ _ _ hkv, HD.out, blC, List.map_set]; exact HST.out.1⟩
      · have hke : k = v := by omega
        subst hke
        have f1 : decide (k < k) = false := by simp
        have hown := HI.out.2.2
        rw [hsT_all] at hown
        obtain ⟨hvl, hbw⟩ := bw_own hown
        have hall := all_calls (vsH k (impP k C [])) (some ⟨gb, 0, none⟩) k C ca cc wr hbw (HC.out.1.grown (World.grownBy.trans G5.out HI.out.2.1)) (by have := HSM.out.1; omega) (fun c hc => by have := HSM.out.2.1 c hc; omega) (by rw [hvl]; omega) (by rw [hvl]; exact HSM.out.2.2)
        rw [hvl, HC.out.2, horn_model HSM.out.2.2 HHB.out HKF.out] at hall
        have HALL := Lib.hid hall
        clear hall hown hvl hbw
        go_wp2_with fail
        refine HALL.out.mono ?_
        rintro e w8 ⟨rfl, hw8⟩
        rw [hw8]
        clear hw8 w8 HALL
        go_wp2_with fail
        go_ret
        exact ⟨rfl, World.grownBy.trans HG1.out (World.grownBy.trans G5.out HI.out.2.1)⟩
end Go.Proofs.Ythkemajekkilmaa
