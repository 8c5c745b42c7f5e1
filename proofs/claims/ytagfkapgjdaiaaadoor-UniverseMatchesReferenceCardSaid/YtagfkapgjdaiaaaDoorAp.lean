/- The reference's Tuple, and which scopes it takes for valid. -/
import Derived.Test.YtagfkapgjdaiaaaDoorAo
namespace Go.Proofs.YtagfkapgjdaiaaaDoor
open Go.RowKit

set_option maxRecDepth 100000 in
set_option maxHeartbeats 4000000 in
theorem rTuple_calls (zs : List Nat) (a : Option Addr) (c : Nat) (st k r : Int) (w : World) (h : Nums w a c zs) (hz : ∀ z ∈ zs, z ≤ 5) (hl : zs.length ≤ 4) (hr : -9223372036854775808 ≤ r ∧ r ≤ 9223372036854775807) :
    Calls Tryd.prog 26 #[.agg #[.slice a zs.length c, .int .i64 st], .int .i64 k, .int .i64 r] w fun e w' => ∃ a' c', e = .returned (.slice a' (tupI (sum zs) k r).length c') ∧ Ints w' a' c' (tupI (sum zs) k r) ∧ w.grownBy w' none := by
  have hsl := sum_le hz
  obtain ⟨N, hN⟩ : ∃ N, sum zs = N := ⟨_, rfl⟩
  rw [hN] at hsl ⊢
  have hN20 : N ≤ 20 := by omega
  obtain ⟨n, hn⟩ : ∃ n, zs.length = n := ⟨_, rfl⟩
  have HA := Lib.hid (fun (W : World) (hW : w.grownBy W none) => by
    have hf := rAtoms_calls zs a c st W (h.grown hW) hz hl
    rw [hN, hn] at hf
    exact hf)
  have HK := Lib.hid (fun (W : World) (m : Nat) (hm : m ≤ 3) (hW : w.grownBy W none) => by
    have hf := rRanks_calls zs a c st m W (h.grown hW) hz hl hm
    rw [hN, hn] at hf
    exact hf)
  rw [hn]
  have hg := World.grownBy_alloc w (.cells #[.slice a n c, .int .i64 st] 30) none
  have q0 : (w.alloc (.cells #[.slice a n c, .int .i64 st] 30)).cell? ⟨w.heap.size, 0, none⟩ = some (.slice a n c) := by go_simp
  have q1 : (w.alloc (.cells #[.slice a n c, .int .i64 st] 30)).cell? ⟨w.heap.size, 1, none⟩ = some (.int .i64 st) := by go_simp
  have HG := Lib.hid (And.intro hg (And.intro q0 q1)); clear hg q0 q1
  clear hsl hl hN h hz hn
  by_cases hbad : k < 0 ∨ 3 < k ∨ r < 0
  · have HR : Hid (tupI N k r = []) := Lib.hid (by
      unfold tupI
      by_cases h1 : k < 0 ∨ 3 < k ∨ (0 < k ∧ N < 1)
      · rw [if_pos h1]
      · rw [if_neg h1, if_pos (.inl (by omega))])
    have h4 : decide (k < 0) = true ∨ (decide (k < 0) = false ∧ decide (3 < k) = true) ∨ (decide (k < 0) = false ∧ decide (3 < k) = false ∧ decide (r < 0) = true) := by
      by_cases b1 : k < 0
      · exact .inl (by simpa using b1)
      · by_cases b2 : 3 < k
        · exact .inr (.inl ⟨by simpa using b1, by simpa using b2⟩)
        · exact .inr (.inr ⟨by simpa using b1, by simpa using b2, by simp; omega⟩)
    clear hbad
    rcases h4 with e1 | ⟨e1, e2⟩ | ⟨e1, e2, e3⟩
    all_goals
      go_enter Tryd.func26, Tryd.ntmps26
      go_wp2_with fail
      go_ret
      exact ⟨none, 0, by rw [HR.out]; rfl, by rw [HR.out]; exact ⟨Nat.le_refl _, .inl ⟨rfl, rfl, rfl⟩⟩, HG.out.1⟩
  · obtain ⟨m, hm⟩ : ∃ m : Nat, k = (m : Int) := ⟨k.toNat, by omega⟩
    subst hm
    obtain ⟨R, hR⟩ : ∃ R : Nat, r = (R : Int) := ⟨r.toNat, by omega⟩
    subst hR
    have hm3 : m ≤ 3 := by omega
    have e1 : decide (((m : Nat) : Int) < 0) = false := by simp
    have e2 : decide ((3 : Int) < (m : Int)) = false := by simp; omega
    have e3 : decide (((R : Nat) : Int) < 0) = false := by simp
    clear hbad
    go_enter Tryd.func26, Tryd.ntmps26
    go_wp2_with fail
    refine (HK.out _ m hm3 HG.out.1).mono ?_
    rintro e w1 ⟨rfl, g1⟩
    have c0 := g1.cell HG.out.2.1 (by simp)
    have c1 := g1.cell HG.out.2.2 (by simp)
    have HG1 := Lib.hid (HG.out.1.trans g1); clear g1
    obtain ⟨M, hM⟩ : ∃ M, N ^ m = M := ⟨_, rfl⟩
    rw [hM]
    have HM := Lib.hid hM; clear hM
    by_cases hbig : M ≤ R
    · have d1 : decide (M ≤ R) = true := by simpa using hbig
      have HR : Hid (tupI N (m : Int) (R : Int) = []) := Lib.hid (tupI_out (by rw [HM.out]; exact hbig))
      go_wp2_with fail
      go_ret
      exact ⟨none, 0, by rw [HR.out]; rfl, by rw [HR.out]; exact ⟨Nat.le_refl _, .inl ⟨rfl, rfl, rfl⟩⟩, HG1.out⟩
    have d1 : decide (M ≤ R) = false := by simpa using hbig
    have hNm : 0 < m → 1 ≤ N := fun h0 => by
      rcases Nat.eq_zero_or_pos N with h | h
      · subst h; have := HM.out; rw [Nat.zero_pow h0] at this; omega
      · exact h
    have HR : Hid (tupI N (m : Int) (R : Int) = (dig N m R).map Int.ofNat) := Lib.hid (tupI_in hm3 (by
      by_cases h0 : m = 0
      · exact .inr h0
      · exact .inl (hNm (by omega))) (by rw [HM.out]; omega))
    clear hbig
    have hmk : ∀ W : World, (Instr.makeSlice 28 (.int .i64 3) (.int .i64 3)).run Tryd.prog W = .ok (.slice (some ⟨W.heap.size, 0, none⟩) 3 3) (W.alloc (.cells #[.int .i64 0, .int .i64 0, .int .i64 0] 3)) := make_run 3 (Nat.le_refl _)
    have hown : Own w1 (w1.alloc (.cells #[.int .i64 0, .int .i64 0, .int .i64 0] 3)) w1.heap.size 3 := Own.make w1 3
    have q0 := hown.grown.cell c0 (by simp)
    have q1 := hown.grown.cell c1 (by simp)
    have HOW := Lib.hid hown; clear hown c0 c1
    go_wp2_with fail
    clear hmk
    obtain ⟨g, hg⟩ : ∃ g, w1.heap.size = g := ⟨_, rfl⟩
    obtain ⟨W, hW⟩ : ∃ W, w1.alloc (.cells #[.int .i64 0, .int .i64 0, .int .i64 0] 3) = W := ⟨_, rfl⟩
    rw [hW] at HOW q0 q1 ⊢
    rw [hg] at HOW ⊢
    clear hW hg
    refine (HA.out _ (HG1.out.trans HOW.out.grown)).mono ?_
    rintro e w2 ⟨rfl, g2⟩
    have HOW2 : Hid (Own w1 w2 g 3) := Lib.hid ⟨⟨HOW.out.size.1, Nat.lt_of_lt_of_le HOW.out.size.2 g2.size⟩, fun j hj => by
      obtain ⟨h1, h2⟩ := HOW.out.there j hj
      obtain ⟨u, hu⟩ := Option.isSome_iff_exists.1 h1
      exact ⟨by rw [g2.cell hu (by simp)]; rfl, (World.frozen?_of_block (a := ⟨g, j, none⟩) (g2.block g HOW.out.size.2 (by simp))).trans h2⟩, HOW.out.grown.trans g2⟩
    clear g2 HOW q0 q1
    go_wp2_with fail
    go_loopg [9, 10] m (fun gk s9 s10 wr => ∃ (q L : Nat) (x : Int) (S : List Nat), s9 = .int .i64 (L : Int) ∧ s10 = .int .i64 x ∧ x = (q : Int) - 1 ∧ gk = q ∧ q ≤ m ∧ S.length = m - q ∧ dig N m R = dig N q L ++ S ∧
      (∀ (j : Nat) (z : Nat), S[j]? = some z → wr.cell? ⟨g, q + j, none⟩ = some (.int .i64 (z : Int))) ∧ Own w1 wr g 3 ∧ (L : Int) ≤ 9223372036854775807)
    case atStart => exact ⟨m, R, _, [], rfl, rfl, rfl, rfl, Nat.le_refl _, by simp, by simp, by simp, HOW2.out, hr.2⟩
    case round =>
      obtain ⟨q, L, x, S, rfl, rfl, hx, hgk, hqm, hSl, ht, hcs, ho, hL⟩ := hrel
      have HGK := Lib.hid (And.intro hgk (And.intro hSl ht)); clear hgk hSl ht
      have HCS := Lib.hid hcs; clear hcs
      have HO := Lib.hid ho; clear ho
      cases q with
      | zero =>
        have hx0 : x = -1 := by omega
        subst hx0
        clear hx
        have HTup : Hid (dig N m R = S ∧ S.length = m) := Lib.hid ⟨by rw [HGK.out.2.2]; simp [dig], by rw [HGK.out.2.1]; rfl⟩
        have hm3I : (m : Int) ≤ 3 := by omega
        go_wp2_with fail
        go_ret
        refine ⟨some ⟨g, 0, none⟩, 3, by rw [HR.out, HTup.out.1, List.length_map, HTup.out.2]; simp, ?_, HG1.out.trans HO.out.grown⟩
        rw [HR.out, HTup.out.1]
        refine ⟨by rw [List.length_map, HTup.out.2]; exact hm3, .inr ⟨g, 0, rfl, HO.out.size.2, fun j z hj => ?_⟩⟩
        rw [List.getElem?_map] at hj
        cases hq : S[j]? with
        | none => rw [hq] at hj; simp at hj
        | some y =>
          rw [hq] at hj
          simp at hj
          subst hj
          exact HCS.out j y hq
      | succ p =>
        have hxp : x = (p : Int) := by omega
        subst hxp
        clear hx
        have hp0 : decide ((0 : Int) ≤ (p : Int)) = true := by simp
        have hpm : p < m := by omega
        have hp3 : p < 3 := by omega
        have hpI : (p : Int) < 3 := by omega
        have hNp := hNm (by omega)
        have hNI : (N : Int) ≠ 0 := by omega
        have hNI2 : (0 : Int) < (N : Int) := by omega
        obtain ⟨hsome, hfr⟩ := HO.out.there p hp3
        obtain ⟨old, hold⟩ := Option.isSome_iff_exists.1 hsome
        obtain ⟨y, hy⟩ : ∃ y, L % N = y := ⟨_, rfl⟩
        obtain ⟨v, hv⟩ : ∃ v, L / N = v := ⟨_, rfl⟩
        have hyI : (L : Int) % (N : Int) = (y : Int) := by rw [← hy]; rfl
        have hvI : (L : Int) / (N : Int) = (v : Int) := by rw [← hv]; rfl
        have HV : Hid ((v : Int) ≤ 9223372036854775807) := Lib.hid (by have := Nat.div_le_self L N; rw [hv] at this; omega)
        have hvb := HV.out
        have HDG : Hid (dig N (p + 1) L = dig N p v ++ [y]) := Lib.hid (by rw [dig, hy, hv])
        have HNO := Lib.hid (HO.out.set p (.int .i64 (y : Int)))
        have HNC : Hid (∀ (j : Nat) (z : Nat), (y :: S)[j]? = some z → (wr.setCell ⟨g, p, none⟩ (.int .i64 (y : Int))).cell? ⟨g, p + j, none⟩ = some (.int .i64 (z : Int))) := Lib.hid (fun j z hj => by
          cases j with
          | zero =>
            simp at hj; subst hj
            exact World.cell?_setCell_same' _ _ _ (HO.out.there p hp3).1
          | succ j =>
            rw [World.cell?_setCell_other _ _ _ _ (by intro e; simp at e), show p + (j + 1) = p + 1 + j by omega]
            exact HCS.out j z (by simpa using hj))
        clear hy hv
        go_wp2_with fail
        go_roundg p
        case measure => rw [HGK.out.1]; omega
        case rel => exact ⟨p, v, _, y :: S, rfl, rfl, rfl, rfl, by omega, by rw [List.length_cons, HGK.out.2.1]; omega, by rw [HGK.out.2.2, HDG.out]; simp, HNC.out, HNO.out, HV.out⟩
end Go.Proofs.YtagfkapgjdaiaaaDoor
