/- The law UniverseFull, walked whole. -/
import Derived.Test.YtagfkapgjdaiaaaDoorAb
import Derived.Test.YtagfkapgjdaiaaaDoorAh
namespace Go.Proofs.YtagfkapgjdaiaaaDoor
open Go.RowKit

theorem held_four {wr W W' : World} {x0 x1 x2 x3 : Addr} {v0 v1 v2 v3 : Value} (g : W.grownBy W' none) (h : wr.grownBy W none) (h0 : W.cell? x0 = some v0) (h1 : W.cell? x1 = some v1) (h2 : W.cell? x2 = some v2) (h3 : W.cell? x3 = some v3) :
    wr.grownBy W' none ∧ W'.cell? x0 = some v0 ∧ W'.cell? x1 = some v1 ∧ W'.cell? x2 = some v2 ∧ W'.cell? x3 = some v3 :=
  ⟨h.trans g, g.cell h0 (by simp), g.cell h1 (by simp), g.cell h2 (by simp), g.cell h3 (by simp)⟩
theorem field_run (ra : Option Addr) (x : Int) (n c : Nat) (W : World) : (Instr.field 44 (.agg #[.int .i64 x, .slice ra n c]) 1).run Tryd.prog W = .ok (.slice ra n c) W := by kernel_rfl
set_option maxRecDepth 100000 in
set_option maxHeartbeats 8000000 in
theorem fullLaw_calls (hh : HeadSays) (raw : List Nat) (ra : Option Addr) (rc : Nat) (qs : List Nat) (qa : Option Addr) (qc : Nat) (w : World) (h : Bytes w ra rc raw) (hl : (raw.length : Int) ≤ 9223372036854775807) (hq : Bytes w qa qc qs) (hql : (qs.length : Int) ≤ 9223372036854775807) :
    Calls Tryd.prog 7 #[.slice ra raw.length rc, .slice qa qs.length qc] w fun e w' => e = .returned (.bool true) ∧ w.grownBy w' none := by
  have HR := Lib.hid (And.intro h hl); clear h
  have HQ := Lib.hid hq; clear hq
  obtain ⟨i0, hi0, hz0, hz1, hz2⟩ := info_parts info3
  obtain ⟨m, hm⟩ : ∃ m, qs.length = m := ⟨_, rfl⟩
  rw [hm] at hql ⊢
  have HM := Lib.hid hm; clear hm
  go_enter Tryd.func7, Tryd.ntmps7
  go_wp2_with fail
  refine (hh w).mono ?_
  rintro e w1 ⟨rfl, g1⟩
  go_wp2_with fail
  refine (scope_calls raw ra rc 0 w1 (HR.out.1.grown g1) HR.out.2 (by omega)).mono ?_
  rintro e w2 ⟨a, c, rfl, hnums, g2⟩
  have hb := sizes_bound raw 4 12
  obtain ⟨l, hle⟩ : ∃ l, scopeL raw = l := ⟨_, rfl⟩
  rw [show sizes raw 4 12 = l from hle] at hb
  rw [hle] at hnums ⊢
  clear hle hl
  have HSC := Lib.hid (ScV.start (T := 1) hnums (g1.trans g2))
  have HL : Hid ((∀ z ∈ l, z ≤ 5) ∧ l.length ≤ 4 ∧ sum l ≤ 12 ∧ ∀ z ∈ l, 1 ≤ z) := Lib.hid ⟨fun z hz => (hb.2.2 z hz).2, hb.1, hb.2.1, fun z hz => (hb.2.2 z hz).1⟩
  have HG12 := Lib.hid (And.intro g1 g2)
  clear hnums g1 g2 hb
  obtain ⟨N, hN⟩ : ∃ N, sum l = N := ⟨_, rfl⟩
  have hN12 : N ≤ 12 := by have := HL.out.2.2.1; omega
  have HN := Lib.hid hN; clear hN
  obtain ⟨n, hn⟩ : ∃ n, l.length = n := ⟨_, rfl⟩
  have hn4 : n ≤ 4 := by have := HL.out.2.1; omega
  have HLN := Lib.hid hn
  rw [hn] at HSC ⊢
  clear hn
  have hfr := field_run
  by_cases hnm : n = 0 ∨ m = 0
  · have HFN2 : Hid (∀ W, ScV w W w2.heap.size a c 1 l → Calls Tryd.prog 28 #[.agg #[.slice a n c, .int .i64 1], .slice none 0 0] W fun e w' => ∃ ra rc, e = .returned (.agg #[.int .i64 0, .slice ra 0 rc]) ∧ w.grownBy w' none) := Lib.hid (fun W hW => by
      have hf := full_calls l a c 1 [] none 0 W hW.nums HL.out.1 HL.out.2.1 ⟨Nat.le_refl _, .inl ⟨rfl, rfl, rfl⟩⟩ (by decide)
      rw [HLN.out] at hf
      refine hf.mono ?_
      rintro e w' ⟨ra', rc', rfl, _, hg⟩
      exact ⟨ra', rc', rfl, hW.grown.trans hg⟩)
    rcases hnm with h0 | h0
    · subst h0
      go_wp2_with fail
      refine (HFN2.out _ HSC.out).mono ?_
      rintro e w4 ⟨ra', rc', rfl, g4⟩
      have HG4 := Lib.hid g4; clear g4
      go_wp2_with fail
      go_ret
      exact ⟨rfl, HG4.out⟩
    · subst h0
      by_cases hn0 : n = 0
      · subst hn0
        go_wp2_with fail
        refine (HFN2.out _ HSC.out).mono ?_
        rintro e w4 ⟨ra', rc', rfl, g4⟩
        have HG4 := Lib.hid g4; clear g4
        go_wp2_with fail
        go_ret
        exact ⟨rfl, HG4.out⟩
      · have hn0B : ((n : Int) == 0) = false := by simpa using hn0
        go_wp2_with fail
        refine (HFN2.out _ HSC.out).mono ?_
        rintro e w4 ⟨ra', rc', rfl, g4⟩
        have HG4 := Lib.hid g4; clear g4
        go_wp2_with fail
        go_ret
        exact ⟨rfl, HG4.out⟩
  have hn1 : 1 ≤ n := by omega
  have hm1 : 1 ≤ m := by omega
  have hnB : ((n : Int) == 0) = false := by simp; omega
  have hmB : ((m : Int) == 0) = false := by simp; omega
  clear hnm
  go_wp2_with fail
  clear hnB hmB
  obtain ⟨g, hg⟩ : ∃ g, w2.heap.size = g := ⟨_, rfl⟩
  rw [hg] at HSC ⊢
  have HSX : Hid (ScV w (w2.alloc (.cells #[.slice a n c, .int .i64 1] 30)) g a c 1 l) := HSC
  clear HSC
  have HSC := HSX; clear HSX
  obtain ⟨w4, hw⟩ : ∃ w4, w2.alloc (.cells #[.slice a n c, .int .i64 1] 30) = w4 := ⟨_, rfl⟩
  rw [hw] at HSC ⊢
  clear hw hg
  obtain ⟨c0, c1, _, _⟩ := HSC.out
  rw [HLN.out] at c0
  have HS4 : Hid (ScV w w4 g a c 1 l) := HSC
  clear HSC
  have hnI : (0 : Int) < (n : Int) := by omega
  obtain ⟨cs, hcs⟩ : ∃ cs, tupOf n qs = cs := ⟨_, rfl⟩
  obtain ⟨k, hk⟩ : ∃ k, cs.length = k := ⟨_, rfl⟩
  have HD : Hid (tupOf n qs = cs ∧ cs.length = k ∧ (∀ d ∈ cs, d < n) ∧ k = min 3 m) := Lib.hid ⟨hcs, hk, by rw [← hcs]; exact tupOf_lt hn1 qs, by rw [← hk, ← hcs, tupOf_length, HM.out]⟩
  have hk3 : k ≤ 3 := by have := HD.out.2.2.2; omega
  have hk1 : 1 ≤ k := by have := HD.out.2.2.2; omega
  clear hcs hk
  obtain ⟨B, hB⟩ : ∃ B, w4.heap.size = B := ⟨_, rfl⟩
  have hBw : w.heap.size ≤ B := by rw [← hB]; exact HS4.out.grown.size
  have hgB : g < B := by rw [← hB]; exact World.block_lt_of_cell? w4 ⟨g, 0, none⟩ HS4.out.c0
  have HB := Lib.hid hB; clear hB
  go_loopg [7, 8, 9] 3 (fun gk s7 s8 s9 wr => ∃ (i : Nat), s9 = .int .i64 (i : Int) ∧ s8 = .int .i64 ((prodFrom l 1 (cs.take i) : Nat) : Int) ∧ gk = 3 - i ∧ i ≤ k ∧ wr.ownsRow B 3 1 s7 i (numCells (cs.take i)) ∧ w4.grownBy wr none)
  case atStart => exact ⟨0, rfl, rfl, rfl, Nat.zero_le _, World.ownsRow_nil _ _ _ _, grown_refl _ _⟩
  case round =>
    obtain ⟨i, rfl, rfl, hgi, hik, hown, hgr⟩ := hrel
    obtain ⟨va, vc, rfl⟩ := own_shape hown
    have hBr : B ≤ wr.heap.size := by rw [← HB.out]; exact hgr.size
    have HI := Lib.hid (And.intro hgi (And.intro hown (And.intro hgr (HS4.out.go hgr)))); clear hgi hown hgr
    clear c0 c1
    obtain ⟨c0, c1, _, _⟩ := HI.out.2.2.2
    rw [HLN.out] at c0
    by_cases hi : i < k
    · have hkm := HD.out.2.2.2
      have e1 : decide (i < m) = true := by simp; omega
      have e2 : decide (i < 3) = true := by simp; omega
      have e2' : decide ((i : Int) < 3) = true := by simp; omega
      have eI : (i : Int) < (m : Int) := by omega
      obtain ⟨z, hz⟩ : ∃ z, qs[i]? = some z := ⟨_, List.getElem?_eq_getElem (by rw [HM.out]; omega)⟩
      have hz256 := HQ.out.1 z (List.mem_of_getElem? hz)
      obtain ⟨bb, oo, rfl, hcell⟩ : ∃ b o, qa = some ⟨b, o, none⟩ ∧ wr.cell? ⟨b, o + i, none⟩ = some (.int .u8 (z : Int)) := (HQ.out.grown HI.out.2.2.2.grown).2 i z hz
      obtain ⟨y, hy⟩ : ∃ y, z % n = y := ⟨_, rfl⟩
      have hyI : (z : Int) % (n : Int) = (y : Int) := by rw [← hy]; rfl
      have hyN : y < n := by rw [← hy]; exact Nat.mod_lt _ hn1
      have hyNI : (y : Int) < (n : Int) := by omega
      obtain ⟨sz, hsz⟩ : ∃ sz, l[y]? = some sz := ⟨_, List.getElem?_eq_getElem (by rw [HLN.out]; omega)⟩
      have hsz5 := HL.out.1 sz (List.mem_of_getElem? hsz)
      have HY : Hid (cs[i]? = some y ∧ l[y]? = some sz ∧ prodFrom l 1 (cs.take (i + 1)) = prodFrom l 1 (cs.take i) * sz) := Lib.hid (by
        have h1 : cs[i]? = some y := by rw [← HD.out.1, tupOf_get hz (by omega), hy]
        refine ⟨h1, hsz, ?_⟩
        rw [List.take_add_one, h1, Option.toList_some, prodFrom_snoc, List.getD_eq_getElem?_getD, hsz, Option.getD_some])
      have hP := prodFrom_le HL.out.1 (cs.take i) 1
      have hP2 : 5 ^ (cs.take i).length ≤ 5 ^ 3 := Nat.pow_le_pow_right (by omega) (by rw [List.length_take, HD.out.2.1]; omega)
      obtain ⟨P, hPP⟩ : ∃ P, prodFrom l 1 (cs.take i) = P := ⟨_, rfl⟩
      rw [hPP] at hP HY ⊢
      have hP125 : P ≤ 125 := by omega
      have hmul : (P : Int) * (sz : Int) ≤ 625 := by
        have h1 : P * sz ≤ 125 * 5 := Nat.mul_le_mul hP125 hsz5
        have h2 : ((P * sz : Nat) : Int) ≤ 625 := by omega
        rwa [Int.natCast_mul] at h2
      have hmul0 : 0 ≤ (P : Int) * (sz : Int) := Int.mul_nonneg (by omega) (by omega)
      obtain ⟨ab, ao, rfl, hcz⟩ := HI.out.2.2.2.nums.at hsz
      clear hy hz hkm hPP hP hP2 hsz
      go_wp2_with fail
      go_quiet (fail)
      obtain ⟨wq, hwq⟩ : ∃ wq, wr.drewN nq = wq := ⟨_, rfl⟩
      have hgq : wr.grownBy wq none := by rw [← hwq]; exact grown_drewN _ _ _
      have HIQ := Lib.hid (And.intro (row_kept HI.out.2.1 hgq (fun r e => by cases e)) (And.intro (HI.out.2.2.1.trans hgq) (HI.out.2.2.2.go hgq)))
      have hBq : B ≤ wq.heap.size := Nat.le_trans hBr hgq.size
      rw [hwq]
      clear hwq hgq hcz c0 c1 hcell
      go_wp2_with (at_builtin; refine wpList_append_own _ rfl _ _ 28 rfl B 3 i0 (.int .i64 0) 1 8 Tryd.underlying28 hi0 hz0 hz1 hz2 rfl (by decide) _ _ _ rfl (HIQ.out.1.alloc _) ⟨wq.heap.size, 0, none⟩ 1 1 [.int .i64 (y : Int)] rfl rfl (cell_one_new _ _ _) (fun u hu => by simp at hu; subst hu; rfl) (by unfold maxLen; omega) (by omega) (by simp; omega) ?_; intro v' w5 hown' hgrow5 hnil5; obtain ⟨g', cap', rfl⟩ := own_shape hown'; have HO5 := Lib.hid (And.intro hown' (grown_own (HIQ.out.2.1.trans (World.grownBy_alloc _ _ _)) hgrow5 (fun j hj => by rw [HB.out]; exact (HIQ.out.1.lt j hj).1))); clear hown' hgrow5 hnil5; have HS5 := Lib.hid (HS4.out.go HO5.out.2); obtain ⟨d0, d1, dn, _⟩ := HS5.out; rw [HLN.out] at d0; obtain ⟨ab2, ao2, hab, dz⟩ := dn.at HY.out.2.1; injection hab with hab; injection hab with hab1 hab2; subst hab1; subst hab2)
      go_wp2
      go_roundg (3 - (i + 1))
      case measure => rw [HI.out.1]; omega
      case rel => exact ⟨i + 1, rfl, by rw [HY.out.2.2]; simp, rfl, by omega, by rw [List.take_add_one, HY.out.1, numCells, List.map_append]; exact HO5.out.1, HO5.out.2⟩
    · have hie : i = k := by omega
      subst hie
      have e1 : decide (i < m) = false ∨ (decide (i < m) = true ∧ decide (i < 3) = false ∧ decide ((i : Int) < 3) = false) := by
        have := HD.out.2.2.2
        by_cases h1 : i < m
        · exact .inr ⟨by simpa using h1, by simp; omega, by simp; omega⟩
        · exact .inl (by simpa using h1)
      have HT : Hid (cs.take i = cs) := Lib.hid (List.take_of_length_le (by rw [HD.out.2.1]; exact Nat.le_refl _))
      have HS5 := Lib.hid HI.out.2.2.2
      have HO := Lib.hid (show wr.ownsRow B 3 1 (.slice va i vc) i (numCells cs) by have := HI.out.2.1; rw [HT.out] at this; exact this)
      have HV := Lib.hid (ints_of_own HO.out HD.out.2.1)
      rw [HT.out]
      have HDC : Hid ((digs l 0 cs).length = prodFrom l 1 cs) := Lib.hid (digs_count ..)
      have hP := prodFrom_le HL.out.1 cs 1
      have hP2 : 5 ^ cs.length ≤ 5 ^ 3 := Nat.pow_le_pow_right (by omega) (by rw [HD.out.2.1]; omega)
      obtain ⟨P, hPP⟩ : ∃ P, prodFrom l 1 cs = P := ⟨_, rfl⟩
      rw [hPP] at hP HDC ⊢
      have hP125 : P ≤ 125 := by omega
      clear hPP hP hP2 HI HT
      have HFU := Lib.hid (by
        have hf := full_calls l a c 1 (ints cs) va vc wr HS5.out.nums HL.out.1 HL.out.2.1 HV.out (by rw [List.length_map, HD.out.2.1]; omega)
        have hfit : fits l.length (ints cs) = true := by
          simp only [fits, List.length_map, HD.out.2.1, decide_eq_true_eq]
          refine ⟨by omega, hk3, fun s hs => ?_⟩
          obtain ⟨d, hd, rfl⟩ := List.mem_map.1 hs
          have := HD.out.2.2.1 d hd
          have := HLN.out
          simp; omega
        have hK : fullK l.length (ints cs) = i := by simp only [fullK, hfit, if_true, List.length_map]; exact HD.out.2.1
        have hL : fullL l (ints cs) = ints (digs l 0 cs) := by
          simp only [fullL, hfit, if_true, List.map_map]
          rw [show (Int.toNat ∘ Int.ofNat) = id from rfl, List.map_id]
        have hf2 : Calls Tryd.prog 28 #[.agg #[.slice a n c, .int .i64 1], .slice va i vc] wr fun e w' => ∃ ra rc, e = .returned (.agg #[.int .i64 (i : Int), .slice ra P rc]) ∧ Ints w' ra rc (ints (digs l 0 cs)) ∧ wr.grownBy w' none := by
          have h1 : (ints cs).length = i := by rw [List.length_map]; exact HD.out.2.1
          rw [h1, HLN.out] at hf
          refine hf.mono ?_
          rintro e w' ⟨ra', rc', rfl, hi, hg⟩
          rw [← HLN.out, hK, hL]
          rw [hL] at hi
          exact ⟨ra', rc', by rw [List.length_map, HDC.out], hi, hg⟩
        exact hf2)
      have HST := Lib.hid (fun (W : World) (x : Int) (hW : ScV w W g a c 1 l) => by
        have hf := sort_calls l a c 1 x W hW.nums HL.out.1 HL.out.2.1
        rw [HLN.out] at hf
        exact hf)
      have HTU := Lib.hid (fun (W : World) (R : Nat) (hR : R < N ^ i) (hW : ScV w W g a c 1 l) => by
        have hr := pow_le hN12 hk3
        have hf := tuple_calls l a c 1 (i : Int) (R : Int) W hW.nums HL.out.1 HL.out.2.1 (by omega)
        have hN1 : 1 ≤ N ∨ i = 0 := by
          rcases Nat.eq_zero_or_pos N with h0 | h0
          · subst h0; rw [Nat.zero_pow (by omega)] at hR; omega
          · exact .inl h0
        have hlen : ((dig N i R).map Int.ofNat).length = i := by rw [List.length_map, dig_length]
        rw [HLN.out, HN.out, tupI_in hk3 hN1 hR, hlen] at hf
        exact hf)
      rcases e1 with e1 | ⟨e1, e2, e3⟩
      all_goals
        go_wp2_with fail
        refine HFU.out.mono ?_
        rintro e w5 ⟨ta, tc, rfl, hti, g5⟩
        go_wp2_with fail
        obtain ⟨gr, hgr⟩ : ∃ gr, w5.heap.size = gr := ⟨_, rfl⟩
        rw [hgr]
        have hb0 : (w5.alloc (.cells #[.int .i64 (i : Int), .slice ta P tc] 44)).cell? ⟨gr, 1, none⟩ = some (.slice ta P tc) := by rw [← hgr]; clear hgr; go_simp
        obtain ⟨w6, hw6⟩ : ∃ w6, w5.alloc (.cells #[.int .i64 (i : Int), .slice ta P tc] 44) = w6 := ⟨_, rfl⟩
        have g6 : w5.grownBy w6 none := by rw [← hw6]; exact World.grownBy_alloc _ _ _
        rw [hw6] at hb0 ⊢
        have HS6 := Lib.hid (HS5.out.go (g5.trans g6))
        have HV6 := Lib.hid (HV.out.grown (g5.trans g6))
        have HT6 := Lib.hid (hti.grown g6)
        have HX6 := Lib.hid hb0
        clear hb0 g5 g6 hw6 hgr hti c0 c1 HFU
        go_loopg [12] P (fun gk s12 wx => ∃ (j : Nat), s12 = .int .i64 (j : Int) ∧ gk = P - j ∧ j ≤ P ∧ w6.grownBy wx none)
        case atStart => exact ⟨0, rfl, rfl, Nat.zero_le _, grown_refl _ _⟩
        case round =>
          obtain ⟨j, rfl, hgj, hjP, hgx⟩ := hrel
          have HJ := Lib.hid (And.intro hgj hgx); clear hgj hgx
          have x1 := HJ.out.2.cell HX6.out (by simp)
          have HSX := Lib.hid (HS6.out.go HJ.out.2)
          obtain ⟨c0, c1, _, _⟩ := HSX.out
          rw [HLN.out] at c0
          by_cases hj : j < P
          · have hjB : decide (j < P) = true := by simpa using hj
            have hjI : (j : Int) < (P : Int) := by omega
            obtain ⟨R, hR⟩ : ∃ R, (digs l 0 cs)[j]? = some R := ⟨_, List.getElem?_eq_getElem (by rw [HDC.out]; exact hj)⟩
            have HTP := Lib.hid (digs_tuple (List.mem_of_getElem? hR))
            obtain ⟨tb, to, rfl, cR⟩ := (HT6.out.grown HJ.out.2).at (i := j) (z := (R : Int)) (by rw [List.getElem?_map, hR]; rfl)
            have HRJ := Lib.hid hR; clear hR
            go_wp2_with fail
            go_region_held3 (fun w' => wr.grownBy w' none ∧ w'.cell? ⟨g, 0, none⟩ = some (.slice a n c) ∧ w'.cell? ⟨g, 1, none⟩ = some (.int .i64 1) ∧ w'.cell? ⟨gr, 1, none⟩ = some (.slice (some ⟨tb, to, none⟩) P tc) ∧ w'.cell? ⟨tb, to + j, none⟩ = some (.int .i64 (R : Int)))
              (first | exact ⟨⟨rfl, rfl, rfl, Nat.le_refl _, fun _ _ _ => rfl⟩, c0, c1, x1, cR⟩ | (go_split_ands; exact held_four g3 (by assumption) (by assumption) (by assumption) (by assumption) (by assumption)))
              (first | (go_at_call 25; refine (HTU.out _ _ ?_ ?_).mono ?_; (have h := HTP.out.2; rw [HD.out.2.1, HN.out] at h; exact h); (refine HSX.out.go ?_; go_split_ands; assumption); rintro e w7 ⟨ua, uc, rfl, ui, g3⟩))
            go_wp2_with fail
            have h7 : wr.grownBy w7 none := by go_split_ands; assumption
            have y1 := h7.cell x1 (by simp)
            have yR := h7.cell cR (by simp)
            have H7 := Lib.hid (And.intro h7 (And.intro (HSX.out.go h7) ui)); clear h7 ui c0 c1 x1 cR g3
            have HEX : Hid (∀ W : World, w7.grownBy W none → ∀ (K : Prop), K → K) := Lib.hid (fun _ _ _ k => k)
            by_cases hj0 : j = 0
            · subst hj0
              clear hjI hjB
              go_wp2_with fail
              go_quiet (fail)
              go_wp2_with fail
              obtain ⟨w8, hw8⟩ : ∃ w8, w7.drewN nq = w8 := ⟨_, rfl⟩
              have H8 := Lib.hid (show w7.grownBy w8 none by rw [← hw8]; exact grown_drewN _ _ _)
              rw [hw8]
              clear hw8 y1 yR
              go_loopg [14] i (fun gk s14 wx => ∃ p : Nat, s14 = .int .i64 (p : Int) ∧ gk = i - p ∧ p ≤ i ∧ w8.grownBy wx none)
              case atStart => exact ⟨0, rfl, rfl, Nat.zero_le _, grown_refl _ _⟩
              case round =>
                obtain ⟨p, rfl, hgp, hpi, hgy⟩ := hrel
                have HP := Lib.hid (And.intro hgp (And.intro (H8.out.trans hgy) hgy)); clear hgp hgy
                by_cases hp : p < i
                · have hpB : decide (p < i) = true := by simpa using hp
                  have hpI : (p : Int) < (i : Int) := by omega
                  obtain ⟨d, hd⟩ : ∃ d, (dig N i R)[p]? = some d := ⟨_, List.getElem?_eq_getElem (by rw [dig_length]; exact hp)⟩
                  obtain ⟨s, hs⟩ : ∃ s, cs[p]? = some s := ⟨_, List.getElem?_eq_getElem (by rw [HD.out.2.1]; exact hp)⟩
                  have HSP := Lib.hid (H7.out.2.1.go HP.out.2.1)
                  have hso : sortI l (d : Int) = (s : Int) := by
                    have h1 := HTP.out.1.2 p d s (by rw [HD.out.2.1, HN.out]; exact hd) hs
                    have h2 := HTP.out.1.lt d (by rw [HD.out.2.1, HN.out]; exact List.mem_of_getElem? hd)
                    exact (sortI_is (by omega) (by omega)).2 (by omega)
                  have HSO := Lib.hid (fun (W : World) (hW : wr.grownBy W none) => by
                    have hf := HST.out W (d : Int) (HSP.out.go hW)
                    rw [hso] at hf
                    exact hf)
                  obtain ⟨ub, uo, rfl, cd⟩ := (H7.out.2.2.grown HP.out.2.1).at (i := p) (z := (d : Int)) (by rw [List.getElem?_map, hd]; rfl)
                  obtain ⟨vb, vo, rfl, cv⟩ := (HV6.out.grown ((HJ.out.2.trans H7.out.1).trans HP.out.2.1)).at (i := p) (z := (s : Int)) (by rw [List.getElem?_map, hs]; rfl)
                  obtain ⟨c0, c1, _, _⟩ := HSP.out
                  rw [HLN.out] at c0
                  clear hd hs hso
                  go_wp2_with fail
                  go_region_held3 (fun w' => wr.grownBy w' none ∧ w'.cell? ⟨g, 0, none⟩ = some (.slice a n c) ∧ w'.cell? ⟨g, 1, none⟩ = some (.int .i64 1) ∧ w'.cell? ⟨ub, uo + p, none⟩ = some (.int .i64 (d : Int)) ∧ w'.cell? ⟨vb, vo + p, none⟩ = some (.int .i64 (s : Int)))
                    (first | exact ⟨⟨rfl, rfl, rfl, Nat.le_refl _, fun _ _ _ => rfl⟩, c0, c1, cd, cv⟩ | (go_split_ands; exact held_four g3 (by assumption) (by assumption) (by assumption) (by assumption) (by assumption)))
                    (first | (go_at_call 20; refine (HSO.out _ ?_).mono ?_; (go_split_ands; assumption); rintro e w9 ⟨rfl, g3⟩))
                  go_wp2_with fail
                  have h9 : wr.grownBy w9 none := by go_split_ands; assumption
                  go_roundg (i - (p + 1))
                  case measure => rw [HP.out.1]; omega
                  case rel => exact ⟨p + 1, rfl, rfl, by omega, HP.out.2.2.trans h9⟩
                · have hpe : p = i := by omega
                  subst hpe
                  have hpB : decide (p < p) = false := by simp
                  go_wp2_with fail
                  go_roundg (P - (0 + 1))
                  case measure => rw [HJ.out.1]; omega
                  case rel => exact ⟨0 + 1, rfl, rfl, by omega, (HJ.out.2.trans H7.out.1).trans HP.out.2.1⟩
            · obtain ⟨q, rfl⟩ : ∃ q, j = q + 1 := ⟨j - 1, by omega⟩
              obtain ⟨R', hR'⟩ : ∃ R', (digs l 0 cs)[q]? = some R' := ⟨_, List.getElem?_eq_getElem (by rw [HDC.out]; omega)⟩
              have hlt := digs_lt (Nat.lt_succ_self q) hR' HRJ.out
              have yR' : w7.cell? ⟨tb, to + q, none⟩ = some (.int .i64 (R' : Int)) := by
                obtain ⟨b', o', hbo, hc⟩ := (HT6.out.grown (HJ.out.2.trans H7.out.1)).at (i := q) (z := (R' : Int)) (by rw [List.getElem?_map, hR']; rfl)
                cases hbo
                exact hc
              have dR : decide (R ≤ R') = false := by simp; omega
              have hqI : (q : Int) < (P : Int) := by omega
              have hq1I : (q : Int) + 1 < (P : Int) := by omega
              have dq : decide ((0 : Int) < (q : Int) + 1) = true := by simp only [decide_eq_true_eq]; omega
              clear hR'
              go_wp2_with fail
              go_quiet (fail)
              go_wp2_with fail
              obtain ⟨w8, hw8⟩ : ∃ w8, w7.drewN nq = w8 := ⟨_, rfl⟩
              have H8 := Lib.hid (show w7.grownBy w8 none by rw [← hw8]; exact grown_drewN _ _ _)
              rw [hw8]
              clear hw8 y1 yR
              go_loopg [14] i (fun gk s14 wx => ∃ p : Nat, s14 = .int .i64 (p : Int) ∧ gk = i - p ∧ p ≤ i ∧ w8.grownBy wx none)
              case atStart => exact ⟨0, rfl, rfl, Nat.zero_le _, grown_refl _ _⟩
              case round =>
                obtain ⟨p, rfl, hgp, hpi, hgy⟩ := hrel
                have HP := Lib.hid (And.intro hgp (And.intro (H8.out.trans hgy) hgy)); clear hgp hgy
                by_cases hp : p < i
                · have hpB : decide (p < i) = true := by simpa using hp
                  have hpI : (p : Int) < (i : Int) := by omega
                  obtain ⟨d, hd⟩ : ∃ d, (dig N i R)[p]? = some d := ⟨_, List.getElem?_eq_getElem (by rw [dig_length]; exact hp)⟩
                  obtain ⟨s, hs⟩ : ∃ s, cs[p]? = some s := ⟨_, List.getElem?_eq_getElem (by rw [HD.out.2.1]; exact hp)⟩
                  have HSP := Lib.hid (H7.out.2.1.go HP.out.2.1)
                  have hso : sortI l (d : Int) = (s : Int) := by
                    have h1 := HTP.out.1.2 p d s (by rw [HD.out.2.1, HN.out]; exact hd) hs
                    have h2 := HTP.out.1.lt d (by rw [HD.out.2.1, HN.out]; exact List.mem_of_getElem? hd)
                    exact (sortI_is (by omega) (by omega)).2 (by omega)
                  have HSO := Lib.hid (fun (W : World) (hW : wr.grownBy W none) => by
                    have hf := HST.out W (d : Int) (HSP.out.go hW)
                    rw [hso] at hf
                    exact hf)
                  obtain ⟨ub, uo, rfl, cd⟩ := (H7.out.2.2.grown HP.out.2.1).at (i := p) (z := (d : Int)) (by rw [List.getElem?_map, hd]; rfl)
                  obtain ⟨vb, vo, rfl, cv⟩ := (HV6.out.grown ((HJ.out.2.trans H7.out.1).trans HP.out.2.1)).at (i := p) (z := (s : Int)) (by rw [List.getElem?_map, hs]; rfl)
                  obtain ⟨c0, c1, _, _⟩ := HSP.out
                  rw [HLN.out] at c0
                  clear hd hs hso
                  go_wp2_with fail
                  go_region_held3 (fun w' => wr.grownBy w' none ∧ w'.cell? ⟨g, 0, none⟩ = some (.slice a n c) ∧ w'.cell? ⟨g, 1, none⟩ = some (.int .i64 1) ∧ w'.cell? ⟨ub, uo + p, none⟩ = some (.int .i64 (d : Int)) ∧ w'.cell? ⟨vb, vo + p, none⟩ = some (.int .i64 (s : Int)))
                    (first | exact ⟨⟨rfl, rfl, rfl, Nat.le_refl _, fun _ _ _ => rfl⟩, c0, c1, cd, cv⟩ | (go_split_ands; exact held_four g3 (by assumption) (by assumption) (by assumption) (by assumption) (by assumption)))
                    (first | (go_at_call 20; refine (HSO.out _ ?_).mono ?_; (go_split_ands; assumption); rintro e w9 ⟨rfl, g3⟩))
                  go_wp2_with fail
                  have h9 : wr.grownBy w9 none := by go_split_ands; assumption
                  go_roundg (i - (p + 1))
                  case measure => rw [HP.out.1]; omega
                  case rel => exact ⟨p + 1, rfl, rfl, by omega, HP.out.2.2.trans h9⟩
                · have hpe : p = i := by omega
                  subst hpe
                  have hpB : decide (p < p) = false := by simp
                  go_wp2_with fail
                  go_roundg (P - ((q + 1) + 1))
                  case measure => rw [HJ.out.1]; omega
                  case rel => exact ⟨(q + 1) + 1, rfl, rfl, by omega, (HJ.out.2.trans H7.out.1).trans HP.out.2.1⟩
          · have hje : j = P := by omega
            subst hje
            have hjB : decide (j < j) = false := by simp
            go_wp2_with fail
            go_ret
            exact ⟨rfl, HSX.out.grown⟩
end Go.Proofs.YtagfkapgjdaiaaaDoor
