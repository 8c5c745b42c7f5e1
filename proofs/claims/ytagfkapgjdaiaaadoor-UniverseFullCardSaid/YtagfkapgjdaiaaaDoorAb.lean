/- The law UniverseTuples, walked whole. -/
import Derived.Test.YtagfkapgjdaiaaaDoorY
import Derived.Test.YtagfkapgjdaiaaaDoorU
namespace Go.Proofs.YtagfkapgjdaiaaaDoor
open Go.RowKit

/-- The tuple that is made of raw bytes. -/
def tupOf (N : Nat) (raw : List Nat) : List Nat := (raw.take 3).map (· % N)
theorem tupOf_length (N : Nat) (raw : List Nat) : (tupOf N raw).length = min 3 raw.length := by simp [tupOf]
theorem tupOf_lt {N : Nat} (hN : 1 ≤ N) (raw : List Nat) : ∀ d ∈ tupOf N raw, d < N := fun d hd => by
  obtain ⟨x, _, rfl⟩ := List.mem_map.1 hd
  exact Nat.mod_lt _ hN
theorem tupOf_get {N : Nat} {raw : List Nat} {i z : Nat} (hz : raw[i]? = some z) (hi : i < 3) : (tupOf N raw)[i]? = some (z % N) := by
  simp [tupOf, hi, hz]

theorem ints_of_own {w : World} {B i c : Nat} {a : Option Addr} {ds : List Nat} (h : w.ownsRow B 3 1 (.slice a i c) i (numCells ds)) (hl : ds.length = i) : Ints w a c (ints ds) := by
  subst hl
  obtain ⟨a', c', he, hn⟩ := own_nums h
  injection he with e1 _ e3
  subst e1; subst e3
  exact hn.ints

theorem ints_four {W W' : World} (g : (W.alloc (.cells #[.int .i64 0, .int .i64 0, .int .i64 0, .int .i64 0] 3)).grownBy W' none) : Ints W' (some ⟨W.heap.size, 0, none⟩) 4 [0, 0, 0, 0] := by
  refine Ints.grown ⟨Nat.le_refl _, .inr ⟨_, 0, rfl, by simp, fun j z hj => ?_⟩⟩ g
  match j, hj with
  | 0, hj => simp at hj; subst hj; go_simp
  | 1, hj => simp at hj; subst hj; go_simp
  | 2, hj => simp at hj; subst hj; go_simp
  | 3, hj => simp at hj; subst hj; go_simp
theorem row_news {W : World} {g c : Nat} {ds : List Nat} (h : Ints W (some ⟨g, 0, none⟩) c (ints ds)) : ∀ j u, (numCells ds)[j]? = some u → W.cell? ((⟨g, 0, none⟩ : Addr).add j) = some u := by
  intro j u hu
  obtain ⟨_, ⟨_, h, _⟩ | ⟨b, o, ha, _, hc⟩⟩ := h
  · cases h
  · injection ha with ha
    injection ha with h1 h2
    subst h1; subst h2
    rw [numCells, List.getElem?_map] at hu
    cases hd : ds[j]? with
    | none => rw [hd] at hu; simp at hu
    | some d =>
      rw [hd] at hu
      simp at hu
      subst hu
      have := hc j (d : Int) (by rw [List.getElem?_map, hd]; rfl)
      have hadd : (⟨g, 0, none⟩ : Addr).add j = ⟨g, j, none⟩ := by unfold Addr.add; split <;> simp_all
      rw [hadd]; rw [Nat.zero_add] at this; exact this
/-- A row of the call's own that is written at one place. -/
theorem own_put {W : World} {B gu i cu J : Nat} {ds : List Nat} {x : Int} (h : W.ownsRow B 3 1 (.slice (some ⟨gu, 0, none⟩) i cu) i (numCells ds)) (hJ : J < i) (hl : ds.length = i) :
    (∃ u, W.cell? ⟨gu, J, none⟩ = some u) ∧ W.frozen? ⟨gu, J, none⟩ = false ∧ Ints (W.setCell ⟨gu, J, none⟩ (.int .i64 x)) (some ⟨gu, 0, none⟩) cu ((ints ds).set J x) ∧ W.grownBy (W.setCell ⟨gu, J, none⟩ (.int .i64 x)) (some gu) ∧ B ≤ gu := by
  refine ⟨?_, h.frozenAt J, ?_, (h.stored J (.int .i64 x)).2, (h.lt gu rfl).1⟩
  · have hd : ds[J]? = some ds[J] := List.getElem?_eq_getElem (by omega)
    have := @World.ownsRow.cells W B 3 1 _ i _ h gu rfl J (.int .i64 (ds[J] : Int)) (by rw [numCells, List.getElem?_map, hd]; rfl)
    have hadd : (⟨gu, 0, none⟩ : Addr).add J = ⟨gu, J, none⟩ := by unfold Addr.add; split <;> simp_all
    rw [hadd] at this
    exact ⟨_, this⟩
  · have h1 := (h.stored J (.int .i64 x)).1
    have h2 : (numCells ds).set J (.int .i64 x) = intCells ((ints ds).set J x) := by
      rw [intCells, List.map_set, List.map_map]; rfl
    have h3 : ((ints ds).set J x).length = i := by rw [List.length_set, List.length_map]; exact hl
    rw [h2] at h1
    have h4 : (W.setCell ⟨gu, J, none⟩ (.int .i64 x)).ownsRow B 3 1 (.slice (some ⟨gu, 0, none⟩) i cu) ((ints ds).set J x).length (intCells ((ints ds).set J x)) := by rw [h3]; exact h1
    obtain ⟨a', c', he, hn⟩ := own_ints h4
    injection he with e1 _ e3
    subst e1; subst e3
    exact hn
theorem own_at {W : World} {B i cu : Nat} {gu : Option Addr} {xs : List Value} (h : W.ownsRow B 3 1 (.slice gu i cu) i xs) (hi : ¬ i = 0) : ∃ g, gu = some ⟨g, 0, none⟩ := by
  rcases h.2 with ⟨_, h⟩ | ⟨g', _, _, h, _⟩
  · omega
  · injection h with h1 _ _; exact ⟨g', h1⟩
theorem made_at (W : World) (b : Nat) (hb : W.heap.size = b) : (W.alloc (.cells #[] 3)).ownsRow b 3 1 (.slice (some ⟨b, 0, none⟩) 0 0) 0 [] := by
  subst hb
  exact World.ownsRow_made (e := 3) (size := 1) W #[] 0 (Nat.le_refl _) (Nat.zero_le _) rfl
theorem rankI_bad {N J : Nat} {ts : List Int} {x : Int} (hJ : J < ts.length) (hx : x < 0 ∨ (N : Int) ≤ x) : rankI N (ts.set J x) = -1 := by
  unfold rankI
  by_cases h : 3 < (ts.set J x).length
  · rw [if_pos h]
  · rw [if_neg h, if_neg]
    intro hall
    rw [List.all_eq_true] at hall
    have := hall x (List.mem_iff_getElem?.2 ⟨J, by rw [List.getElem?_set]; simp [hJ]⟩)
    simp [inside] at this
    omega

set_option maxRecDepth 100000 in
set_option maxHeartbeats 8000000 in
theorem tuplesLaw_calls (hh : HeadSays) (raw : List Nat) (ra : Option Addr) (rc : Nat) (qs : List Nat) (qa : Option Addr) (qc bad : Nat) (w : World) (h : Bytes w ra rc raw) (hl : (raw.length : Int) ≤ 9223372036854775807) (hq : Bytes w qa qc qs) (hql : (qs.length : Int) ≤ 9223372036854775807) (hbad : bad < 256) :
    Calls Tryd.prog 6 #[.slice ra raw.length rc, .slice qa qs.length qc, .int .u8 (bad : Int)] w fun e w' => e = .returned (.bool true) ∧ w.grownBy w' none := by
  have HR := Lib.hid (And.intro h hl); clear h
  have HQ := Lib.hid hq; clear hq
  obtain ⟨i0, hi0, hz0, hz1, hz2⟩ := info_parts info3
  obtain ⟨m, hm⟩ : ∃ m, qs.length = m := ⟨_, rfl⟩
  rw [hm] at hql ⊢
  have HM := Lib.hid hm; clear hm
  go_enter Tryd.func6, Tryd.ntmps6
  go_wp2_with fail
  refine (hh w).mono ?_
  rintro e w1 ⟨rfl, g1⟩
  go_wp2_with fail
  refine (scope_calls raw ra rc 0 w1 (HR.out.1.grown g1) HR.out.2 (by omega)).mono ?_
  rintro e w2 ⟨a, c, rfl, hnums, g2⟩
  have hb := sizes_bound raw 4 12
  obtain ⟨l, hle⟩ : ∃ l, scopeL raw = l := ⟨_, rfl⟩
  rw [show sizes raw 4 12 = l from hle] at hb
  rw [hle] at hnums ⊢
  clear hle hl
  have HSC := Lib.hid (ScV.start (T := 1) hnums (g1.trans g2))
  have HL : Hid ((∀ z ∈ l, z ≤ 5) ∧ l.length ≤ 4 ∧ sum l ≤ 12 ∧ ∀ z ∈ l, 1 ≤ z) := Lib.hid ⟨fun z hz => (hb.2.2 z hz).2, hb.1, hb.2.1, fun z hz => (hb.2.2 z hz).1⟩
  have hg1 := g1
  have hg2 := g2
  clear hnums g1 g2 hb
  have HG12 := Lib.hid (And.intro hg1 hg2); clear hg1 hg2
  go_wp2_with fail
  obtain ⟨g, hg⟩ : ∃ g, w2.heap.size = g := ⟨_, rfl⟩
  rw [hg] at HSC ⊢
  have hw3 : Hid (ScV w (w2.alloc (.cells #[.slice a l.length c, .int .i64 1] 30)) g a c 1 l) := HSC
  obtain ⟨w3, hw⟩ : ∃ w3, w2.alloc (.cells #[.slice a l.length c, .int .i64 1] 30) = w3 := ⟨_, rfl⟩
  rw [hw] at hw3 ⊢
  clear hw hg HSC
  have HSC := hw3; clear hw3
  obtain ⟨N, hN⟩ : ∃ N, sum l = N := ⟨_, rfl⟩
  have hN12 : N ≤ 12 := by have := HL.out.2.2.1; omega
  have HN := Lib.hid hN; clear hN
  obtain ⟨n, hn⟩ : ∃ n, l.length = n := ⟨_, rfl⟩
  have hn4 : n ≤ 4 := by have := HL.out.2.1; omega
  have HLN := Lib.hid hn; clear hn
  refine (atoms_calls l a c 1 w3 HSC.out.nums HL.out.1 HL.out.2.1).mono ?_
  rintro e w4 ⟨rfl, g4⟩
  rw [HN.out]
  have HS4 := Lib.hid (HSC.out.go g4); clear g4 HSC
  obtain ⟨c0, c1, _, _⟩ := HS4.out
  rw [HLN.out] at c0
  by_cases hN0 : N = 0
  · subst hN0
    go_wp2_with fail
    go_ret
    exact ⟨rfl, HS4.out.grown⟩
  have hN1 : 1 ≤ N := by omega
  have d1 : decide ((N : Int) ≤ 0) = false := by simp; omega
  have d2 : decide ((12 : Int) < (N : Int)) = false := by simp; omega
  have hNI : (0 : Int) < (N : Int) := by omega
  obtain ⟨ds, hds⟩ : ∃ ds, tupOf N qs = ds := ⟨_, rfl⟩
  obtain ⟨k, hk⟩ : ∃ k, ds.length = k := ⟨_, rfl⟩
  have HD : Hid (tupOf N qs = ds ∧ ds.length = k ∧ (∀ d ∈ ds, d < N) ∧ k = min 3 m) := Lib.hid ⟨hds, hk, by rw [← hds]; exact tupOf_lt hN1 qs, by rw [← hk, ← hds, tupOf_length, HM.out]⟩
  have hk3 : k ≤ 3 := by have := HD.out.2.2.2; omega
  clear hds hk hN0
  go_wp2_with fail
  obtain ⟨B, hB⟩ : ∃ B, w4.heap.size = B := ⟨_, rfl⟩
  have hBw : w.heap.size ≤ B := by rw [← hB]; exact HS4.out.grown.size
  have hgB : g < B := by rw [← hB]; exact World.block_lt_of_cell? w4 ⟨g, 0, none⟩ HS4.out.c0
  have HB := Lib.hid hB; clear hB
  go_loopg [10, 11] 3 (fun gk s10 s11 wr => ∃ (i : Nat), s11 = .int .i64 (i : Int) ∧ gk = 3 - i ∧ i ≤ k ∧ wr.ownsRow B 3 1 s10 i (numCells (ds.take i)) ∧ w4.grownBy wr none)
  case atStart => exact ⟨0, rfl, rfl, Nat.zero_le _, World.ownsRow_nil _ _ _ _, grown_refl _ _⟩
  case round =>
    obtain ⟨i, rfl, hgi, hik, hown, hgr⟩ := hrel
    obtain ⟨va, vc, rfl⟩ := own_shape hown
    have hBr : B ≤ wr.heap.size := by rw [← HB.out]; exact hgr.size
    have HI := Lib.hid (And.intro hgi (And.intro hown (And.intro hgr (HS4.out.go hgr)))); clear hgi hown hgr
    by_cases hi : i < k
    · have hkm := HD.out.2.2.2
      have e1 : decide (i < m) = true := by simp; omega
      have e2 : decide (i < 3) = true := by simp; omega
      have e2' : decide ((i : Int) < 3) = true := by simp; omega
      have eI : (i : Int) < (m : Int) := by omega
      obtain ⟨z, hz⟩ : ∃ z, qs[i]? = some z := ⟨_, List.getElem?_eq_getElem (by rw [HM.out]; omega)⟩
      have hz256 := HQ.out.1 z (List.mem_of_getElem? hz)
      obtain ⟨bb, oo, rfl, hcell⟩ : ∃ b o, qa = some ⟨b, o, none⟩ ∧ wr.cell? ⟨b, o + i, none⟩ = some (.int .u8 (z : Int)) := (HQ.out.grown HI.out.2.2.2.grown).2 i z hz
      obtain ⟨y, hy⟩ : ∃ y, z % N = y := ⟨_, rfl⟩
      have hyI : (z : Int) % (N : Int) = (y : Int) := by rw [← hy]; rfl
      have hyN : y < N := by rw [← hy]; exact Nat.mod_lt _ hN1
      have HY : Hid (ds[i]? = some y) := Lib.hid (by rw [← HD.out.1, tupOf_get hz (by omega), hy])
      clear hy hz hkm
      go_wp2_with (at_builtin; refine wpList_append_own _ rfl _ _ 28 rfl B 3 i0 (.int .i64 0) 1 8 Tryd.underlying28 hi0 hz0 hz1 hz2 rfl (by decide) _ _ _ rfl (HI.out.2.1.alloc _) ⟨wr.heap.size, 0, none⟩ 1 1 [.int .i64 (y : Int)] rfl rfl (cell_one_new _ _ _) (fun u hu => by simp at hu; subst hu; rfl) (by unfold maxLen; omega) (by omega) (by simp; omega) ?_; intro v' w5 hown' hgrow5 hnil5; obtain ⟨g', cap', rfl⟩ := own_shape hown')
      have HO5 := Lib.hid (And.intro hown' (grown_own (HI.out.2.2.1.trans (World.grownBy_alloc _ _ _)) hgrow5 (fun j hj => by rw [HB.out]; exact (HI.out.2.1.lt j hj).1))); clear hown' hgrow5 hnil5
      go_wp2
      go_roundg (3 - (i + 1))
      case measure => rw [HI.out.1]; omega
      case rel => exact ⟨i + 1, rfl, rfl, by omega, by rw [List.take_add_one, HY.out, numCells, List.map_append]; exact HO5.out.1, HO5.out.2⟩
    · have hie : i = k := by omega
      subst hie
      have e1 : decide (i < m) = false ∨ (decide (i < m) = true ∧ decide (i < 3) = false ∧ decide ((i : Int) < 3) = false) := by
        have := HD.out.2.2.2
        by_cases h1 : i < m
        · exact .inr ⟨by simpa using h1, by simp; omega, by simp; omega⟩
        · exact .inl (by simpa using h1)
      have HT : Hid (ds.take i = ds) := Lib.hid (List.take_of_length_le (by rw [HD.out.2.1]; exact Nat.le_refl _))
      have HS5 := Lib.hid HI.out.2.2.2
      have HO := Lib.hid (show wr.ownsRow B 3 1 (.slice va i vc) i (numCells ds) by have := HI.out.2.1; rw [HT.out] at this; exact this)
      have HG := Lib.hid HI.out.2.2.1
      clear HI HS4
      obtain ⟨c0, c1, _, _⟩ := HS5.out
      rw [HLN.out] at c0
      have HW : Hid (∀ W : World, wr.grownBy W none → Ints W va vc (ints ds)) := Lib.hid (fun W hW => (ints_of_own HO.out HD.out.2.1).grown hW)
      obtain ⟨R, hR⟩ : ∃ R, num N ds = R := ⟨_, rfl⟩
      have hlen : (ints ds).length = i := by rw [List.length_map]; exact HD.out.2.1
      have HRK := Lib.hid (fun (W : World) (hW : wr.grownBy W none) => by
        have hf := rank_calls l a c 1 (ints ds) va vc W (HS5.out.nums.grown hW) HL.out.1 HL.out.2.1 (HW.out W hW) (by omega)
        rw [hlen, HLN.out, HN.out, rankI_in (by rw [HD.out.2.1]; exact hk3) HD.out.2.2.1, hR] at hf
        exact hf)
      have hRN : R < N ^ i := by rw [← hR]; exact num_lt N i ds HD.out.2.1 HD.out.2.2.1
      have hR1728 := pow_le hN12 hk3
      have htup : tupI N (i : Int) (R : Int) = ints ds := by
        rw [tupI_in hk3 (.inl hN1) hRN, ← hR, dig_num i ds HD.out.2.1 HD.out.2.2.1]
      have HTU := Lib.hid (fun (W : World) (hW : wr.grownBy W none) => by
        have hf := tuple_calls l a c 1 (i : Int) (R : Int) W (HS5.out.nums.grown hW) HL.out.1 HL.out.2.1 (by omega)
        rw [HLN.out, HN.out, htup, hlen] at hf
        exact hf)
      have HSM := Lib.hid (fun (W : World) (a' : Option Addr) (c' : Nat) (h1 : Ints W a' c' (ints ds)) (h2 : wr.grownBy W none) => by
        have hf := sameTuple_calls (ints ds) (ints ds) a' va c' vc W h1 (HW.out W h2) (by omega) (by omega)
        rw [hlen, show decide (ints ds = ints ds) = true by simp] at hf
        exact hf.mono (R' := fun e w' => e = .returned (.bool true) ∧ W.grownBy w' none) fun e w' h => ⟨h.1, by obtain ⟨q, hq⟩ := h.2; rw [hq]; exact grown_drewN _ _ _⟩)
      clear hR hRN htup hlen
      rcases e1 with e1 | ⟨e1, e2, e3⟩
      all_goals
        go_wp2_with fail
        go_region_held3 (fun w' => wr.grownBy w' none ∧ w'.cell? ⟨g, 0, none⟩ = some (.slice a n c) ∧ w'.cell? ⟨g, 1, none⟩ = some (.int .i64 1))
          (first | exact ⟨⟨rfl, rfl, rfl, Nat.le_refl _, fun _ _ _ => rfl⟩, c0, c1⟩ | (go_split_ands; exact held_next2 g3 (by assumption) (by assumption) (by assumption)))
          (first | (go_at_call 22; refine (HRK.out _ ?_).mono ?_; (go_split_ands; assumption); rintro e w6 ⟨rfl, g3⟩) | (go_at_call 25; refine (HTU.out _ ?_).mono ?_; (go_split_ands; assumption); rintro e w7 ⟨ta, tc, rfl, ti, g3⟩) | (go_at_call 24; refine (HSM.out _ _ _ (by assumption) ?_).mono ?_; (go_split_ands; assumption); rintro e w8 ⟨rfl, g3⟩))
        have h8 : wr.grownBy w8 none := by go_split_ands; assumption
        obtain ⟨W4, hW4⟩ : ∃ W4, w8.alloc (.cells #[.int .i64 0, .int .i64 0, .int .i64 0, .int .i64 0] 3) = W4 := ⟨_, rfl⟩
        have ga : w8.grownBy W4 none := by rw [← hW4]; exact World.grownBy_alloc _ _ _
        have HF := Lib.hid (fun (W : World) (hW : W4.grownBy W none) => by
          have hf := rank_calls l a c 1 [0, 0, 0, 0] (some ⟨w8.heap.size, 0, none⟩) 4 W (HS5.out.nums.grown ((h8.trans ga).trans hW)) HL.out.1 HL.out.2.1 (ints_four (W := w8) (by rw [hW4]; exact hW)) (by decide)
          rw [HLN.out, show rankI (sum l) [0, 0, 0, 0] = -1 from rfl] at hf
          exact hf)
        have HS9 := Lib.hid (HS5.out.go (h8.trans ga))
        have HWG := Lib.hid (And.intro h8 ga); clear h8 ga
        clear c0 c1
        obtain ⟨c0, c1, _, _⟩ := HS9.out
        rw [HLN.out] at c0
        by_cases hiz : i = 0
        · subst hiz
          go_wp2_with fail
          refine (HF.out _ (grown_refl _ _)).mono ?_
          rintro e w9 ⟨rfl, g9⟩
          have HG9 := Lib.hid (HS9.out.grown.trans g9); clear g9
          go_wp2_with fail
          go_ret
          exact ⟨rfl, HG9.out⟩
        · have hi0B : ((i : Int) == 0) = false := by simpa using hiz
          obtain ⟨g0, rfl⟩ := own_at HO.out hiz
          obtain ⟨J, hJ⟩ : ∃ J, bad % i = J := ⟨_, rfl⟩
          have hJI : (bad : Int) % (i : Int) = (J : Int) := by rw [← hJ]; rfl
          have hJi : J < i := by rw [← hJ]; exact Nat.mod_lt _ (by omega)
          have hJiI : (J : Int) < (i : Int) := by omega
          have hiI : (0 : Int) < (i : Int) := by omega
          have hdl := HD.out.2.1
          clear hJ
          have hB4 : W4.heap.size ≤ (W4.alloc (.cells #[] 3)).heap.size := by simp
          have hnl : (numCells ds).length = i * 1 := by rw [List.length_map, hdl, Nat.mul_one]
          have HNL := Lib.hid (And.intro hdl hnl); clear hdl hnl
          have HOM := Lib.hid (World.ownsRow_made (e := 3) (size := 1) W4 #[] 0 (Nat.le_refl W4.heap.size) (Nat.zero_le _) rfl)
          have HNW := Lib.hid (row_news ((HW.out _ (HWG.out.1.trans HWG.out.2)).grown (World.grownBy_alloc W4 (.cells #[] 3) none)))
          have tok1 : True := trivial
          go_wp2_with (first | (at_builtin; have _t := tok1; refine wpList_append_own _ rfl _ _ 28 rfl W4.heap.size 3 i0 (.int .i64 0) 1 8 Tryd.underlying28 hi0 hz0 hz1 hz2 rfl (by decide) _ _ _ rfl HOM.out ⟨g0, 0, none⟩ i _ (numCells ds) rfl HNL.out.2 HNW.out (fun u hu => by obtain ⟨d, _, rfl⟩ := List.mem_map.1 hu; rfl) (by unfold maxLen; omega) (by omega) (by simp) ?_; intro v' w9 hown' hgrow' hnil'; rw [Nat.zero_add, List.nil_append] at hown'; obtain ⟨gs, cu, rfl⟩ := own_shape hown'; obtain ⟨gu, rfl⟩ := own_at hown' hiz; obtain ⟨⟨xu, hxu⟩, hfu, hiu, hgu, hbu⟩ := own_put (x := (N : Int)) hown' hJi HNL.out.1; have HU := Lib.hid (And.intro hiu (grown_own (grown_own (World.grownBy_alloc W4 (.cells #[] 3) none) hgrow' (fun j hj => by cases hj; exact Nat.le_refl _)) hgu (fun j hj => by cases hj; exact hbu))); clear hiu hgu hbu hown' hgrow' hnil' tok1 _t; have HOM2 := Lib.hid (made_at (w9.setCell ⟨gu, J, none⟩ (.int .i64 (N : Int))) w9.heap.size (by simp [World.setCell])); have HNW2 := Lib.hid (row_news ((HW.out _ ((HWG.out.1.trans HWG.out.2).trans HU.out.2)).grown (World.grownBy_alloc (w9.setCell ⟨gu, J, none⟩ (.int .i64 (N : Int))) (.cells #[] 3) none))); have tok2 : True := trivial) | (at_builtin; have _t := tok2; refine wpList_append_own _ rfl _ _ 28 rfl w9.heap.size 3 i0 (.int .i64 0) 1 8 Tryd.underlying28 hi0 hz0 hz1 hz2 rfl (by decide) _ _ _ rfl HOM2.out ⟨g0, 0, none⟩ i _ (numCells ds) rfl HNL.out.2 HNW2.out (fun u hu => by obtain ⟨d, _, rfl⟩ := List.mem_map.1 hu; rfl) (by unfold maxLen; omega) (by omega) (by simp) ?_; intro v' w11 hown' hgrow' hnil'; rw [Nat.zero_add, List.nil_append] at hown'; obtain ⟨gs, cv, rfl⟩ := own_shape hown'; obtain ⟨gv, rfl⟩ := own_at hown' hiz; obtain ⟨⟨xv, hxv⟩, hfv, hiv, hgv, hbv⟩ := own_put (x := (-1)) hown' hJi HNL.out.1; have HV := Lib.hid (And.intro hiv (grown_own (grown_own (World.grownBy_alloc (w9.setCell ⟨gu, J, none⟩ (.int .i64 (N : Int))) (.cells #[] 3) none) hgrow' (fun j hj => by cases hj; simp [World.setCell])) hgv (fun j hj => by cases hj; simpa [World.setCell] using hbv))); clear hiv hgv hbv hown' hgrow' hnil' tok2 _t; have HSW := Lib.hid (HS9.out.go (HU.out.2.trans HV.out.2)); obtain ⟨d0, d1, _, _⟩ := HSW.out; rw [HLN.out] at d0))
          have HIU := Lib.hid (HU.out.1.grown HV.out.2)
          have HIV := Lib.hid HV.out.1
          have HB1 : Hid (rankI N ((ints ds).set J (N : Int)) = -1 ∧ rankI N ((ints ds).set J (-1)) = -1 ∧ ((ints ds).set J (N : Int)).length = i ∧ ((ints ds).set J (-1)).length = i) := Lib.hid ⟨rankI_bad (by rw [List.length_map, HNL.out.1]; exact hJi) (.inr (Int.le_refl _)), rankI_bad (by rw [List.length_map, HNL.out.1]; exact hJi) (.inl (by omega)), by rw [List.length_set, List.length_map, HNL.out.1], by rw [List.length_set, List.length_map, HNL.out.1]⟩
          have HFW := Lib.hid (HF.out _ (HU.out.2.trans HV.out.2))
          clear HU HV HOM HOM2 HNW HNW2 hxu hfu hxv hfv c0 c1
          refine HFW.out.mono ?_
          rintro e w13 ⟨rfl, g13⟩
          have HS13 := Lib.hid (HSW.out.go g13)
          have HIU2 := Lib.hid (HIU.out.grown g13)
          have HIV2 := Lib.hid (HIV.out.grown g13)
          clear g13 HSW HIU HIV d0 d1 HFW
          obtain ⟨d0, d1, _, _⟩ := HS13.out
          rw [HLN.out] at d0
          go_wp2_with fail
          have hf := rank_calls l a c 1 ((ints ds).set J (N : Int)) (some ⟨gu, 0, none⟩) cu w13 HS13.out.nums HL.out.1 HL.out.2.1 HIU2.out (by rw [HB1.out.2.2.1]; omega)
          rw [HLN.out, HN.out, HB1.out.1, HB1.out.2.2.1] at hf
          refine hf.mono ?_
          clear hf
          rintro e w14 ⟨rfl, g14⟩
          have HS14 := Lib.hid (HS13.out.go g14)
          have HIV3 := Lib.hid (HIV2.out.grown g14)
          clear g14 HS13 HIU2 HIV2 d0 d1
          obtain ⟨d0, d1, _, _⟩ := HS14.out
          rw [HLN.out] at d0
          go_wp2_with fail
          have hf := rank_calls l a c 1 ((ints ds).set J (-1)) (some ⟨gv, 0, none⟩) cv w14 HS14.out.nums HL.out.1 HL.out.2.1 HIV3.out (by rw [HB1.out.2.2.2]; omega)
          rw [HLN.out, HN.out, HB1.out.2.1, HB1.out.2.2.2] at hf
          refine hf.mono ?_
          clear hf
          rintro e w15 ⟨rfl, g15⟩
          have HG15 := Lib.hid (HS14.out.grown.trans g15); clear g15 d0 d1
          go_wp2_with fail
          go_ret
          exact ⟨rfl, HG15.out⟩
end Go.Proofs.YtagfkapgjdaiaaaDoor
