/- What the function value of ranks gives, where sorts are left. -/
import Derived.Test.YtbddpjofhddilaaUR
namespace Go.Proofs.Ytbddpjofhddilaa
open Go.RowKit Go.Shelf
attribute [local go_sem] Oper.semAt_some

set_option maxRecDepth 100000 in
set_option maxHeartbeats 4000000 in
theorem ranks_some (zs : List Nat) (a : Option Addr) (c : Nat) (st : Int) (hz : ∀ z ∈ zs, z ≤ 5) (hl : zs.length ≤ 4) (s : Nat) (ss : List Nat) (hss : ss.length ≤ 2) (hs : s < zs.length)
    (ih : ∀ (x : Nat) (sa : Option Addr) (sc bc bp bs : Nat) (w : World), x < 20 ^ (3 - ss.length) → Cap w zs a c st x ss sa sc bc bp bs →
      Gives Fence.wide Try.prog 130 #[.pointer (some ⟨bs, 0, none⟩), .pointer (some ⟨bp, 0, none⟩), .pointer (some ⟨bc, 0, none⟩)] (capsOf a sa bc bp bs) (ints (digs zs x ss)) w)
    (x : Nat) (sa : Option Addr) (sc bc bp bs : Nat) (w : World) (hx : x < 20 ^ (2 - ss.length)) (h : Cap w zs a c st x (s :: ss) sa sc bc bp bs) :
    Gives Fence.wide Try.prog 130 #[.pointer (some ⟨bs, 0, none⟩), .pointer (some ⟨bp, 0, none⟩), .pointer (some ⟨bc, 0, none⟩)] (capsOf a sa bc bp bs) (ints (digs zs x (s :: ss))) w := by
  intro n l J Safe hcap hJ hY h0
  have hg := World.grownBy_alloc w (.cells #[.func (.yield l) #[] #[]] 98) none
  have cy : (w.alloc (.cells #[.func (.yield l) #[] #[]] 98)).cell? ⟨w.heap.size, 0, none⟩ = some (.func (.yield l) #[] #[]) := by go_simp
  have hw1 : ∃ W, w.alloc (.cells #[.func (.yield l) #[] #[]] 98) = W := ⟨_, rfl⟩
  obtain ⟨k, hk⟩ : ∃ k, ss.length = k := ⟨_, rfl⟩
  obtain ⟨N, hN⟩ : ∃ N, zs.length = N := ⟨_, rfl⟩
  have HH := Lib.hid (And.intro hz (And.intro hl (And.intro ih (And.intro hcap (And.intro hJ (And.intro hY (And.intro h0 (And.intro hk hN))))))))
  clear hz ih hcap hJ hY h0
  have hc1 := h.grown hg
  have HC := Lib.hid hc1
  obtain ⟨c0, c1, p, sx, _, _⟩ := hc1
  simp only [List.length_cons] at sx
  rw [hk] at sx hss hx
  rw [hN] at c0 hs hl
  have HG := Lib.hid hg
  clear hg h hk hN
  obtain ⟨b0, o0, rfl, cs⟩ := HC.out.sn.at (i := 0) (z := s) rfl
  obtain ⟨z, hzs⟩ : ∃ z, zs[s]? = some z := ⟨_, List.getElem?_eq_getElem (by have := HH.out.2.2.2.2.2.2.2.2; omega)⟩
  obtain ⟨b1, o1, rfl, cz⟩ := HC.out.zn.at (i := s) (z := z) hzs
  have HZ := Lib.hid hzs; clear hzs
  refine callsIn_of_wp_marks Try.func130 rfl trivial ?_ rfl
  simp only [Try.ntmps130, List.size_toArray, List.length_cons, List.length_nil, Nat.reduceAdd, Nat.reduceSub, Array.replicate_succ, Array.replicate_zero, List.push_toArray, List.append_toArray, List.nil_append, List.cons_append]
  refine wpIn_wide.2 ?_
  rw [Nat.add_zero] at cs
  go_wp2_with fail
  obtain ⟨W, hW⟩ := hw1
  rw [hW] at HC HG cy c0 c1 p sx cs cz ⊢
  have HF := Lib.hid (fun (W' : World) (hW' : W.grownBy W' none) => by
    have hf := first_calls zs (some ⟨b1, o1, none⟩) c st W' (HC.out.zn.grown hW') HH.out.1 HH.out.2.1 s (by have := HH.out.2.2.2.2.2.2.2.2; omega)
    rw [HH.out.2.2.2.2.2.2.2.2] at hf
    exact hf)
  have hk0 : (0 : Int) < ((k + 1 : Nat) : Int) := by omega
  have hsI : (s : Int) < (N : Int) := by omega
  obtain ⟨S, hS⟩ : ∃ S, sum (zs.take s) = S := ⟨_, rfl⟩
  rw [hS] at HF
  have HS := Lib.hid hS; clear hS
  go_region_held3 (fun w' => W.grownBy w' none ∧ w'.cell? ⟨bc, 0, none⟩ = some (.slice (some ⟨b1, o1, none⟩) N c) ∧ w'.cell? ⟨bc, 1, none⟩ = some (.int .i64 st) ∧ w'.cell? ⟨bp, 0, none⟩ = some (.int .i64 (x : Int)) ∧ w'.cell? ⟨bs, 0, none⟩ = some (.slice (some ⟨b0, o0, none⟩) (k + 1) sc) ∧ w'.cell? ⟨b0, o0, none⟩ = some (.int .i64 (s : Int)))
    (first | exact ⟨⟨rfl, rfl, rfl, Nat.le_refl _, fun _ _ _ => rfl⟩, c0, c1, p, sx, cs⟩ | (go_split_ands; exact held_next5 g3 (by assumption) (by assumption) (by assumption) (by assumption) (by assumption) (by assumption)))
    (first | (go_at_call 36; refine (HF.out _ ?_).mono ?_; (go_split_ands; assumption); rintro e w3 ⟨rfl, g3⟩))
  have h3 : W.grownBy w3 none := by go_split_ands; assumption
  have e0 := h3.cell c0 (by simp)
  have ex := h3.cell sx (by simp)
  have es := h3.cell cs (by simp)
  have ez := h3.cell cz (by simp)
  go_wp2_with fail
  go_quiet (fail)
  go_wp2_with fail
  obtain ⟨W4, hW4⟩ : ∃ W4, w3.drewN nq = W4 := ⟨_, rfl⟩
  have h4 : w.grownBy W4 none := by rw [← hW4]; exact (HG.out.trans h3).trans (grown_drewN _ _ _)
  rw [hW4]
  have HB := Lib.hid (Rnd.start HH.out.2.2.2.2.1 HH.out.2.2.2.1 HH.out.2.2.2.2.2.2.1 (HC.out.grown (h3.trans (by rw [← hW4]; exact grown_drewN _ _ _))) h4 ((h3.trans (by rw [← hW4]; exact grown_drewN _ _ _)).cell cy (by simp)))
  clear hW4 e0 ex es ez cz cs sx p c0 c1
  refine wp_loop_ghost_k (fun gk a' wr => ∃ (u6 u7 u27 u28 u29 u30 u31 u32 u33 u34 u35 u36 u37 u38 u39 u40 u41 u42 u43 u44 u45 u46 : Value) (i : Nat) (ds : List Nat), (gk = z - i ∧ i ≤ z ∧ Rnd w wr l J Safe zs (some ⟨b1, o1, none⟩) c st x (s :: ss) (some ⟨b0, o0, none⟩) sc bc bp bs ds (ints (digsTo zs x s ss i))) ∧ a' = { tmps := #[.func (.yield l) #[] #[], .pointer (some ⟨bs, 0, none⟩), .pointer (some ⟨bp, 0, none⟩), .pointer (some ⟨bc, 0, none⟩), .pointer (some ⟨w.heap.size, 0, none⟩), .int .i64 (S : Int), u6, u7, .slice (some ⟨b0, o0, none⟩) (k + 1) sc, .int .i64 ((k : Int) + 1), .bool false, undef, undef, undef, .agg #[.slice (some ⟨b1, o1, none⟩) N c, .int .i64 st], .slice (some ⟨b0, o0, none⟩) (k + 1) sc, .pointer (some ⟨b0, o0, none⟩), .int .i64 (s : Int), .int .i64 (S : Int), .pointer (some ⟨bc, 0, none⟩), .slice (some ⟨b1, o1, none⟩) N c, .slice (some ⟨b0, o0, none⟩) (k + 1) sc, .pointer (some ⟨b0, o0, none⟩), .int .i64 (s : Int), .pointer (some ⟨b1, o1 + s, none⟩), .int .i64 (z : Int), .int .i64 (i : Int), u27, u28, u29, u30, u31, u32, u33, u34, u35, u36, u37, u38, u39, u40, u41, u42, u43, u44, u45, u46], defers := marks ds }) z ?_ ?_
  · exact ⟨_, _, _, _, _, _, _, _, _, _, _, _, _, _, _, _, _, _, _, _, _, _, 0, [], ⟨rfl, Nat.zero_le _, HB.out⟩, rfl⟩
  intro gk a' wr hinv J' K' hJ' hK'
  obtain ⟨u6, u7, u27, u28, u29, u30, u31, u32, u33, u34, u35, u36, u37, u38, u39, u40, u41, u42, u43, u44, u45, u46, i, ds, ⟨hgk, hiz, hrel⟩, rfl⟩ := hinv
  have HR := Lib.hid hrel; clear hrel HB
  have HGK := Lib.hid (And.intro hgk hiz); clear hgk hiz
  obtain ⟨d0, d1, dp, dx, _, _⟩ := HR.out.cap
  rw [HH.out.2.2.2.2.2.2.2.2] at d0
  simp only [List.length_cons] at dx
  rw [HH.out.2.2.2.2.2.2.2.1] at dx
  by_cases hiz : i < z
  · have hizB : decide (i < z) = true := by simpa using hiz
    have hz5 := HH.out.1 z (List.mem_of_getElem? HZ.out)
    have hS20 : S ≤ 20 := by
      have h1 := sum_le (l := zs.take s) (m := 5) (fun y hy => HH.out.1 y (List.mem_of_mem_take hy))
      have h2 := HH.out.2.1
      rw [List.length_take, HS.out] at h1
      omega
    have HA := Lib.hid (fun (W' : World) (hW' : wr.grownBy W' none) => by
      have hf := atoms_calls zs (some ⟨b1, o1, none⟩) c st W' (HR.out.cap.zn.grown hW') HH.out.1 HH.out.2.1
      rw [HH.out.2.2.2.2.2.2.2.2] at hf
      exact hf)
    obtain ⟨M, hM⟩ : ∃ M, sum zs = M := ⟨_, rfl⟩
    rw [hM] at HA
    have hM20 : M ≤ 20 := by
      have h1 := sum_le (l := zs) (m := 5) (fun y hy => HH.out.1 y hy)
      have h2 := HH.out.2.1
      rw [hM] at h1
      omega
    have hx400 : x ≤ 400 := by
      have h1 : 20 ^ (2 - k) ≤ 20 ^ 2 := Nat.pow_le_pow_right (by omega) (by omega)
      omega
    have HM := Lib.hid (And.intro hM hx); clear hM hx
    obtain ⟨D, hD⟩ : ∃ D, S + i = D := ⟨_, rfl⟩
    have hwr : IntKind.i64.wrap ((S : Int) + (i : Int)) = (D : Int) := by
      rw [IntWalk.i64_in _ (by omega)]; omega
    have hD25 : D ≤ 25 := by omega
    have HD := Lib.hid hD; clear hD
    have HNU := Lib.hid (fun (W' : World) (ad : Option Addr) (hW' : Nums W' ad 2 [x, D]) => number_calls M [x, D] ad 2 W' hW' (by omega) (by intro d hd; simp at hd; omega) (by
      intro m
      match m with
      | 0 => simp [num]
      | 1 => simp [num]; omega
      | m + 2 => simp [num]; have := Nat.mul_le_mul hx400 hM20; omega) (by simp))
    obtain ⟨X, hX⟩ : ∃ X, num M [x, D] = X := ⟨_, rfl⟩
    rw [hX] at HNU
    have HX := Lib.hid hX; clear hX
    go_wp2_with fail
    obtain ⟨sa2, hsb, hsl, htl⟩ := nums_tail (b := b0) (o := o0) (k := k) (sc := sc) (by have := HR.out.cap.sn.1; simp only [List.length_cons, HH.out.2.2.2.2.2.2.2.1] at this; exact this)
    have HSB := Lib.hid (And.intro hsb htl); clear hsb htl
    have dy := HR.out.yld
    go_region_held3 (fun w' => wr.grownBy w' none ∧ w'.cell? ⟨bc, 0, none⟩ = some (.slice (some ⟨b1, o1, none⟩) N c) ∧ w'.cell? ⟨bc, 1, none⟩ = some (.int .i64 st) ∧ w'.cell? ⟨bp, 0, none⟩ = some (.int .i64 (x : Int)) ∧ w'.cell? ⟨bs, 0, none⟩ = some (.slice (some ⟨b0, o0, none⟩) (k + 1) sc) ∧ w'.cell? ⟨w.heap.size, 0, none⟩ = some (.func (.yield l) #[] #[]))
      (first | exact ⟨⟨rfl, rfl, rfl, Nat.le_refl _, fun _ _ _ => rfl⟩, d0, d1, dp, dx, dy⟩ | (go_split_ands; exact held_next5 g3 (by assumption) (by assumption) (by assumption) (by assumption) (by assumption) (by assumption)) | (go_split_ands; exact held_next5 (World.grownBy_alloc _ _ none) (by assumption) (by assumption) (by assumption) (by assumption) (by assumption) (by assumption)) | assumption)
      (first | (go_at_call 34; refine (HA.out _ ?_).mono ?_; (go_split_ands; assumption); rintro e w3 ⟨rfl, g3⟩) | (go_at_call 89; refine (HNU.out _ _ ?_).mono ?_; (first | exact nums_two (grown_refl _ none) | exact nums_two' (by assumption)); rintro e w5 ⟨rfl, rfl⟩) | (go_at_call 113; refine (ranks_gets _ _ _ _ _ _ _ _ _).mono ?_; rintro e w6 ⟨b6, rfl, g3, k0, k1, k2, k3, k4, k5⟩; replace k0 : wr.heap.size ≤ b6 := Nat.le_trans (World.grownBy.size (by go_split_ands; assumption)) k0))
    all_goals
      have h6 : wr.grownBy w6 none := by go_split_ands; assumption
      have hk := HH.out.2.2.2.2.2.2.2.1
      have hN := HH.out.2.2.2.2.2.2.2.2
      have HC6 : Hid (Cap w6 zs (some ⟨b1, o1, none⟩) c st X ss sa2 (sc - 1) b6 (b6 + 1) (b6 + 2)) := Lib.hid ⟨by rw [hN]; exact k2, k3, k4, by rw [hk]; exact k5, HR.out.cap.zn.grown h6, HSB.out.2 w6 s ss hk (HR.out.cap.sn.grown h6)⟩
      have HR6 := Lib.hid (HR.out.grown HH.out.2.2.2.2.1 h6)
      have HXI : Hid (digsTo zs x s ss (i + 1) = digsTo zs x s ss i ++ digs zs X ss) := Lib.hid (by
        rw [digsTo_succ, ← HX.out]
        simp only [num, List.foldl_cons, List.foldl_nil, Nat.zero_mul, Nat.zero_add]
        rw [HM.out.1, HS.out, HD.out])
      have HX3 : Hid (X < 20 ^ (3 - ss.length)) := Lib.hid (by
        rw [hk, show 3 - k = (2 - k) + 1 by omega, Nat.pow_succ, ← HX.out]
        simp only [num, List.foldl_cons, List.foldl_nil, Nat.zero_mul, Nat.zero_add]
        have h1 := HM.out.2
        have h2 : x * M ≤ x * 20 := Nat.mul_le_mul_left _ hM20
        have h3 : D < 20 := by
          have h4 := sum_take_succ HZ.out
          have h5 := sum_take_mono zs (i := s + 1) (j := zs.length) (by omega)
          rw [List.take_length, HM.out.1] at h5
          have := HD.out; have := HS.out; omega
        omega)
      have HB6 := Lib.hid (And.intro k0 (And.intro k1 h6))
      clear k0 k1 k2 k3 k4 k5 h6 hk hN g3
      go_wp2_with fail
      refine wpIn_wide.1 (rangeYes (n := n) (gf := 130) (lb := #[.pointer (some ⟨b6 + 2, 0, none⟩), .pointer (some ⟨b6 + 1, 0, none⟩), .pointer (some ⟨b6, 0, none⟩)]) rfl rfl rfl trivial (enters_of Try.func130 (by kernel_rfl) rfl)
        (caps := capsOf (some ⟨b1, o1, none⟩) sa2 b6 (b6 + 1) (b6 + 2)) (xs := ints (digs zs X ss)) (fun W g => HH.out.2.2.1 X sa2 _ _ _ _ W HX3.out (HC6.out.grown g))
        (fun s' W' => Rnd w W' l J Safe zs (some ⟨b1, o1, none⟩) c st x (s :: ss) (some ⟨b0, o0, none⟩) sc bc bp bs ds (ints (digsTo zs x s ss i) ++ s')) Safe ?hI ?hcap (by rw [List.append_nil]; exact HR6.out) ?round ?done)
      case hI => exact Rnd.abide HH.out.2.2.2.2.1 (Nat.le_of_lt HR6.out.size) (fun E hE => (Array.getElem?_eq_some_iff.1 (HR6.out.mark E hE).2.1).1)
      case hcap =>
        intro b hb
        simp only [capsOf, List.mem_cons, List.mem_append, Option.mem_toList, HSB.out.1] at hb
        have hs6 := HR6.out.safe
        have hfr : ∀ b', wr.heap.size ≤ b' → b' < w6.heap.size → Safe w6 b' := fun b' h1 h2 => HH.out.2.2.2.2.1.fresh _ _ _ b' HR.out.inv (.of_none HB6.out.2.2) h1 h2
        have h1 := HB6.out.1
        have h2 := HB6.out.2.1
        rcases hb with rfl | rfl | rfl | hb | hb
        · exact hfr _ h1 (by omega)
        · exact hfr _ (by omega) (by omega)
        · exact hfr _ (by omega) (by omega)
        · exact hs6 b (by simp only [capsOf, List.mem_cons, List.mem_append, Option.mem_toList]; exact .inr (.inr (.inr (.inl hb))))
        · exact hs6 b (by simp only [capsOf, List.mem_cons, List.mem_append, Option.mem_toList]; exact .inr (.inr (.inr (.inr hb))))
      case round =>
        intro l' pre' x' W' hR' hpre
        clear HR6 HB6 HC6
        have HPR := Lib.hid hpre; clear hpre
        have HRP := Lib.hid hR'; clear hR'
        gi_wp2
        refine ⟨trivial, fun W2 hR2 => ?_⟩
        have HY := HH.out.2.2.2.2.2.1 (ints (digsTo zs x s ss i) ++ pre') x' W2 hR2.inv (by
          have h1 := List.IsPrefix.trans ((List.prefix_append_right_inj (ints (digsTo zs x s ss i))).2 HPR.out) (by
            have := digsTo_le zs x s ss (i := i + 1) (j := z) (by omega)
            rw [HXI.out] at this
            have h2 := List.IsPrefix.map Int.ofNat this
            rw [List.map_append] at h2
            exact h2)
          rw [digs_cons HZ.out, List.append_assoc]
          exact h1)
        obtain ⟨fn, tmps, assign, body, hy, hRI⟩ := HY
        have hyl := hR2.yld
        have HR2 := Lib.hid hR2; clear hR2
        gi_wp2
        refine ⟨fun h => (by cases h), ?_⟩
        refine (round_within hRI).mono ?_
        rintro e W3 ⟨rfl, hJ3, hs3⟩
        have HR3 := Lib.hid (And.intro (HR2.out.saved hs3 hJ3) hs3)
        clear hJ3 hs3
        gi_wp2
        rw [List.append_assoc] at HR3
        exact HR3.out
      case done =>
        intro D' W' hD' hR' hsD hdef
        have HM2 := Lib.hid (Rnd.mark_more HH.out.2.2.2.2.1 hR' (fun E hE => by have h1 := (Array.getElem?_eq_some_iff.1 (HR.out.mark E hE).2.1).1; have := HB6.out.2.2.size; omega) (by have := HR6.out.size; omega) hdef hsD)
        clear hR' hsD hdef
        have hzw : IntKind.i64.wrap ((i : Int) + 1) = ((i + 1 : Nat) : Int) := by rw [IntWalk.i64_in _ (by omega)]; rfl
        go_wp2_with fail
        refine Handed.intro (z - (i + 1)) (by have := HGK.out.1; omega) ?_
        go_step
        refine ⟨_, _, _, _, _, _, _, _, _, _, _, _, _, _, _, _, _, _, _, _, _, _, i + 1, D' :: ds, ⟨rfl, by omega, ?_⟩, rfl⟩
        rw [HXI.out, ints_append]
        exact HM2.out
  · have hie : i = z := by have := HGK.out.2; omega
    subst hie
    have hizB : decide (i < i) = false := by simp
    go_wp2_with fail
    exact leaves_marks HH.out.2.2.2.2.1 (fun W' h => ⟨_, results_none rfl _ _ _, ⟨_, rfl⟩, (by rw [digs_cons HZ.out]; exact h)⟩) ds wr HR.out.inv HR.out.nodup (fun E hE => ⟨(HR.out.mark E hE).1, (HR.out.mark E hE).2.1⟩)

theorem ranks_gives (zs : List Nat) (a : Option Addr) (c : Nat) (st : Int) (hz : ∀ z ∈ zs, z ≤ 5) (hl : zs.length ≤ 4) : ∀ (ss : List Nat), ss.length ≤ 3 → (∀ s ∈ ss, s < zs.length) → ∀ (x : Nat) (sa : Option Addr) (sc bc bp bs : Nat) (w : World), x < 20 ^ (3 - ss.length) →
    Cap w zs a c st x ss sa sc bc bp bs → Gives Fence.wide Try.prog 130 #[.pointer (some ⟨bs, 0, none⟩), .pointer (some ⟨bp, 0, none⟩), .pointer (some ⟨bc, 0, none⟩)] (capsOf a sa bc bp bs) (ints (digs zs x ss)) w
  | [], _, _, x, sa, sc, bc, bp, bs, w, _, h => ranks_none zs a c st x sa sc bc bp bs w h
  | s :: ss, hl3, hss, x, sa, sc, bc, bp, bs, w, hx, h =>
    ranks_some zs a c st hz hl s ss (by simp at hl3; omega) (hss s (by simp)) (fun x sa sc bc bp bs w hx h => ranks_gives zs a c st hz hl ss (by simp at hl3; omega) (fun s hs => hss s (by simp [hs])) x sa sc bc bp bs w hx h)
      x sa sc bc bp bs w (by simpa using hx) h
end Go.Proofs.Ytbddpjofhddilaa
