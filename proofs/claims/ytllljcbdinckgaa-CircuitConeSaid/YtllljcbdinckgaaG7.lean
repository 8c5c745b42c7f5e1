/- The methods of a growing circuit: Input, And, Or. -/
import Derived.Test.YtllljcbdinckgaaG6
namespace Go.Proofs.Ytllljcbdinckgaa
open Go.RowKit

/-- What an operation leaves of a growing circuit: its gates are hs; nothing else has turned. -/
def GR (p : Nat) (w0 : World) (lo hi : Int) (hs : List Gt) (w' : World) : Prop :=
  ∃ owned' va' vc' vis', Grow (p + 1) p w' owned' va' vc' hs vis' ∧ (lo ≤ vis' ∧ vis' ≤ hi) ∧ w0.grownBy w' none
theorem GR.wide {p : Nat} {w0 w' : World} {lo hi lo' hi' : Int} {hs : List Gt} (h : GR p w0 lo hi hs w') (h1 : lo' ≤ lo) (h2 : hi ≤ hi') : GR p w0 lo' hi' hs w' := by
  obtain ⟨o, a, c, v, h3, h4, h5⟩ := h
  exact ⟨o, a, c, v, h3, ⟨by omega, by omega⟩, h5⟩
theorem beqT {a b : Int} (h : a = b) : (a == b) = true := by simp [h]
theorem beqF {a b : Int} (h : ¬ a = b) : (a == b) = false := by simp [h]
theorem good_from {gs : List Gt} (h : Good gs) {A B i : Nat} (hi : gs[i]? = some (2, (A : Int), (B : Int))) : B / 2 + 1 ≤ i := by
  have h0 : 0 < i := by
    cases i with
    | zero => rw [h.zero] at hi; cases hi
    | succ n => omega
  rcases h.form i _ h0 hi with hf | ⟨_, _, _, h3, _⟩
  · simp at hf
  · simp only at h3; omega

set_option maxHeartbeats 1000000 in
theorem ginput_calls (gs : List Gt) (v : Int) (p : Nat) (w w0 : World) (lo hi : Int) (h : GR p w0 lo hi gs w) (hG : Good gs) (hl : gs.length ≤ 990) (hlo : 0 ≤ lo) (hhi : hi ≤ 8 * (gs.length : Int)) (hp : w0.heap.size ≤ p) :
    Calls Try.prog 35 #[.pointer (some ⟨p, 0, none⟩), .int .i64 v] w fun e w' => e = .returned (.int .i64 (inputC gs v).2) ∧ GR p w0 lo (hi + (gs.length : Int)) (inputC gs v).1 w' := by
  by_cases h1 : v < 1
  · have f1 : decide (v < 1) = true := decide_eq_true h1
    have HE := Lib.hid (show inputC gs v = (gs, -1) by unfold inputC; rw [if_pos (.inl h1)])
    have HH := Lib.hid (h.wide (Int.le_refl _) (show hi ≤ hi + (gs.length : Int) by omega))
    clear h h1
    go_enter Try.func35, Try.ntmps35
    go_wp2_with fail
    go_ret
    exact ⟨by rw [HE.out]; rfl, by rw [HE.out]; exact HH.out⟩
  · by_cases h2 : 20000 < v
    · have f1 : decide (v < 1) = false := decide_eq_false h1
      have f2 : decide (20000 < v) = true := decide_eq_true h2
      have HE := Lib.hid (show inputC gs v = (gs, -1) by unfold inputC; rw [if_pos (.inr h2)])
      have HH := Lib.hid (h.wide (Int.le_refl _) (show hi ≤ hi + (gs.length : Int) by omega))
      clear h h1 h2
      go_enter Try.func35, Try.ntmps35
      go_wp2_with fail
      go_ret
      exact ⟨by rw [HE.out]; rfl, by rw [HE.out]; exact HH.out⟩
    · have f1 : decide (v < 1) = false := decide_eq_false h1
      have f2 : decide (20000 < v) = false := decide_eq_false h2
      have HE := Lib.hid (show inputC gs v = addG gs (1, v, 0) by unfold inputC; rw [if_neg (by omega)])
      obtain ⟨o, a, c, vis, g1, g2, g3⟩ := h
      have HH := Lib.hid (reference_calls gs (1, v, 0) 0 p o a c vis w w0 g1 hl ⟨by omega, by omega⟩ hG.one (fun i _ => Nat.zero_le _) g3 hp)
      have HV := Lib.hid g2
      clear g1 g2 g3 h1 h2
      go_enter Try.func35, Try.ntmps35
      go_wp2_with fail
      refine HH.out.mono ?_
      rintro e w2 ⟨o', va', vc', vis', rfl, r1, r2, r3⟩
      have HR := Lib.hid r1; have HR2 := Lib.hid r2; have HR3 := Lib.hid r3
      clear r1 r2 r3
      go_wp2_with fail
      go_ret
      exact ⟨by rw [HE.out]; rfl, by rw [HE.out]; exact ⟨o', va', vc', vis', HR.out, by have := HV.out; have := HR2.out; omega, HR3.out⟩⟩

set_option maxRecDepth 100000 in
set_option maxHeartbeats 4000000 in
theorem gand_calls (gs : List Gt) (a b : Int) (p : Nat) (w w0 : World) (lo hi : Int) (h : GR p w0 lo hi gs w) (hG : Good gs) (hl : gs.length ≤ 990) (hlo : 0 ≤ lo) (hhi : hi ≤ 8 * (gs.length : Int)) (hp : w0.heap.size ≤ p) :
    Calls Try.prog 38 #[.pointer (some ⟨p, 0, none⟩), .int .i64 a, .int .i64 b] w fun e w' => e = .returned (.int .i64 (andC gs a b).2) ∧ GR p w0 lo (hi + (gs.length : Int)) (andC gs a b).1 w' := by
  obtain ⟨n, hn⟩ : ∃ n, gs.length = n := ⟨_, rfl⟩
  have HH := Lib.hid (h.wide (Int.le_refl _) (show hi ≤ hi + (gs.length : Int) by omega))
  obtain ⟨o, va, vc, vis, g1, g2, g3⟩ := h
  have k0 := g1.c0
  have hN := hG.pos
  rw [hn] at k0 hl hhi hN
  have hw2 : IntKind.i64.wrap (2 * (n : Int)) = 2 * (n : Int) := IntWalk.i64_in _ (by omega)
  have HN := Lib.hid hn
  have HG1 := Lib.hid g1; have HG3 := Lib.hid g3; have HG2 := Lib.hid g2; have HGD := Lib.hid hG
  have HL := Lib.hid hl; have HLO := Lib.hid hlo; have HHI := Lib.hid hhi; have HP := Lib.hid hp
  clear g1 g2 g3 hn hG hlo hhi hp
  by_cases c1 : a < 0
  · have HE := Lib.hid (show andC gs a b = (gs, -1) by unfold andC; rw [HN.out]; rw [if_pos (by omega)])
    have f0 : decide (a < 0) = true := decide_eq_true (by omega)
    go_enter Try.func38, Try.ntmps38
    go_wp2_with (go_at_call 43; refine (not43_calls a _ (by omega)).mono ?_; rintro e w2 ⟨rfl, hw2⟩; rw [hw2]; clear hw2 w2)
    go_ret
    exact ⟨by rw [HE.out]; rfl, by rw [HE.out]; exact HH.out⟩
  by_cases c2 : b < 0
  · have HE := Lib.hid (show andC gs a b = (gs, -1) by unfold andC; rw [HN.out]; rw [if_pos (by omega)])
    have f0 : decide (a < 0) = false := decide_eq_false (by omega)
    have f1 : decide (b < 0) = true := decide_eq_true (by omega)
    go_enter Try.func38, Try.ntmps38
    go_wp2_with (go_at_call 43; refine (not43_calls a _ (by omega)).mono ?_; rintro e w2 ⟨rfl, hw2⟩; rw [hw2]; clear hw2 w2)
    go_ret
    exact ⟨by rw [HE.out]; rfl, by rw [HE.out]; exact HH.out⟩
  by_cases c3 : 2 * (n : Int) ≤ a
  · have HE := Lib.hid (show andC gs a b = (gs, -1) by unfold andC; rw [HN.out]; rw [if_pos (by omega)])
    have f0 : decide (a < 0) = false := decide_eq_false (by omega)
    have f1 : decide (b < 0) = false := decide_eq_false (by omega)
    have f2 : decide (2 * (n : Int) ≤ a) = true := decide_eq_true (by omega)
    go_enter Try.func38, Try.ntmps38
    go_wp2_with (go_at_call 43; refine (not43_calls a _ (by omega)).mono ?_; rintro e w2 ⟨rfl, hw2⟩; rw [hw2]; clear hw2 w2)
    go_ret
    exact ⟨by rw [HE.out]; rfl, by rw [HE.out]; exact HH.out⟩
  by_cases c4 : 2 * (n : Int) ≤ b
  · have HE := Lib.hid (show andC gs a b = (gs, -1) by unfold andC; rw [HN.out]; rw [if_pos (by omega)])
    have f0 : decide (a < 0) = false := decide_eq_false (by omega)
    have f1 : decide (b < 0) = false := decide_eq_false (by omega)
    have f2 : decide (2 * (n : Int) ≤ a) = false := decide_eq_false (by omega)
    have f3 : decide (2 * (n : Int) ≤ b) = true := decide_eq_true (by omega)
    go_enter Try.func38, Try.ntmps38
    go_wp2_with (go_at_call 43; refine (not43_calls a _ (by omega)).mono ?_; rintro e w2 ⟨rfl, hw2⟩; rw [hw2]; clear hw2 w2)
    go_ret
    exact ⟨by rw [HE.out]; rfl, by rw [HE.out]; exact HH.out⟩
  have HNN := Lib.hid (show ¬ (a < 0 ∨ b < 0 ∨ 2 * (n : Int) ≤ a ∨ 2 * (n : Int) ≤ b) by omega)
  have e0 : decide (a < 0) = false := decide_eq_false (by omega)
  have e1 : decide (b < 0) = false := decide_eq_false (by omega)
  have e2 : decide (2 * (n : Int) ≤ a) = false := decide_eq_false (by omega)
  have e3 : decide (2 * (n : Int) ≤ b) = false := decide_eq_false (by omega)
  by_cases c5 : a = 1
  · have HE := Lib.hid (show andC gs a b = (gs, 1) by unfold andC; rw [HN.out]; rw [if_neg HNN.out, if_pos (.inl c5)])
    have f0 : (a == 1) = true := beqT c5
    have hB9 : a ≤ 9223372036854775807 := by omega
    clear c1 c2 c3 c4 c5
    go_enter Try.func38, Try.ntmps38
    go_wp2_with (go_at_call 43; refine (not43_calls a _ hB9).mono ?_; rintro e w2 ⟨rfl, hw2⟩; rw [hw2]; clear hw2 w2)
    go_ret
    exact ⟨by rw [HE.out]; rfl, by rw [HE.out]; exact HH.out⟩
  have e5 := beqF c5
  by_cases c6 : b = 1
  · have HE := Lib.hid (show andC gs a b = (gs, 1) by unfold andC; rw [HN.out]; rw [if_neg HNN.out, if_pos (.inr (.inl c6))])
    have f0 : (b == 1) = true := beqT c6
    have hB9 : a ≤ 9223372036854775807 := by omega
    clear c1 c2 c3 c4 c5 c6
    go_enter Try.func38, Try.ntmps38
    go_wp2_with (go_at_call 43; refine (not43_calls a _ hB9).mono ?_; rintro e w2 ⟨rfl, hw2⟩; rw [hw2]; clear hw2 w2)
    go_ret
    exact ⟨by rw [HE.out]; rfl, by rw [HE.out]; exact HH.out⟩
  have e6 := beqF c6
  by_cases c7 : b = notR a
  · have HE := Lib.hid (show andC gs a b = (gs, 1) by unfold andC; rw [HN.out]; rw [if_neg HNN.out, if_pos (.inr (.inr c7))])
    have f0 : (b == notR a) = true := beqT c7
    have hB9 : a ≤ 9223372036854775807 := by omega
    clear c1 c2 c3 c4 c5 c6 c7
    go_enter Try.func38, Try.ntmps38
    go_wp2_with (go_at_call 43; refine (not43_calls a _ hB9).mono ?_; rintro e w2 ⟨rfl, hw2⟩; rw [hw2]; clear hw2 w2)
    go_ret
    exact ⟨by rw [HE.out]; rfl, by rw [HE.out]; exact HH.out⟩
  have e7 := beqF c7
  have HN2 := Lib.hid (show ¬ (a = 1 ∨ b = 1 ∨ b = notR a) by simp only [not_or]; exact ⟨c5, c6, c7⟩)
  clear c5 c6 c7
  by_cases c8 : a = 0
  · have HE := Lib.hid (show andC gs a b = (gs, b) by unfold andC; rw [HN.out]; rw [if_neg HNN.out, if_neg HN2.out, if_pos c8])
    have f0 : (a == 0) = true := beqT c8
    have hB9 : a ≤ 9223372036854775807 := by omega
    clear c1 c2 c3 c4 c8
    go_enter Try.func38, Try.ntmps38
    go_wp2_with (go_at_call 43; refine (not43_calls a _ hB9).mono ?_; rintro e w2 ⟨rfl, hw2⟩; rw [hw2]; clear hw2 w2)
    go_ret
    exact ⟨by rw [HE.out]; rfl, by rw [HE.out]; exact HH.out⟩
  have e8 := beqF c8
  by_cases c9 : b = 0
  · have HE := Lib.hid (show andC gs a b = (gs, a) by unfold andC; rw [HN.out]; rw [if_neg HNN.out, if_neg HN2.out, if_neg c8, if_pos (.inl c9)])
    have f0 : (b == 0) = true := beqT c9
    have hB9 : a ≤ 9223372036854775807 := by omega
    clear c1 c2 c3 c4 c8 c9
    go_enter Try.func38, Try.ntmps38
    go_wp2_with (go_at_call 43; refine (not43_calls a _ hB9).mono ?_; rintro e w2 ⟨rfl, hw2⟩; rw [hw2]; clear hw2 w2)
    go_ret
    exact ⟨by rw [HE.out]; rfl, by rw [HE.out]; exact HH.out⟩
  have e9 := beqF c9
  by_cases c10 : a = b
  · have HE := Lib.hid (show andC gs a b = (gs, a) by unfold andC; rw [HN.out]; rw [if_neg HNN.out, if_neg HN2.out, if_neg c8, if_pos (.inr c10)])
    have f0 : (a == b) = true := beqT c10
    have hB9 : a ≤ 9223372036854775807 := by omega
    clear c1 c2 c3 c4 c8 c9 c10
    go_enter Try.func38, Try.ntmps38
    go_wp2_with (go_at_call 43; refine (not43_calls a _ hB9).mono ?_; rintro e w2 ⟨rfl, hw2⟩; rw [hw2]; clear hw2 w2)
    go_ret
    exact ⟨by rw [HE.out]; rfl, by rw [HE.out]; exact HH.out⟩
  have e10 := beqF c10
  by_cases hab : a < b
  · have HE := Lib.hid (show andC gs a b = addG gs (2, a, b) by unfold andC; rw [HN.out, if_neg HNN.out, if_neg HN2.out, if_neg c8, if_neg (show ¬ (b = 0 ∨ a = b) by omega), Int.min_eq_left (by omega), Int.max_eq_right (by omega)])
    have hq : Int.tdiv b 2 = ((b.toNat / 2 : Nat) : Int) := by rw [Int.tdiv_eq_ediv_of_nonneg (by omega)]; omega
    have hw1 : IntKind.i64.wrap (((b.toNat / 2 : Nat) : Int) + 1) = ((b.toNat / 2 + 1 : Nat) : Int) := by rw [IntWalk.i64_in _ (by omega)]; omega
    have hq2 : IntKind.i64.wrap (((b.toNat / 2 : Nat) : Int)) = ((b.toNat / 2 : Nat) : Int) := IntWalk.i64_in _ (by omega)
    have HR := Lib.hid (reference_calls gs (2, a, b) (b.toNat / 2 + 1) p o va vc vis w w0 HG1.out (by rw [HN.out]; exact HL.out) ⟨by have := HG2.out; have := HLO.out; omega, by rw [HN.out]; have := HG2.out; have := HHI.out; omega⟩ HGD.out.one (fun i hi => good_from (A := a.toNat) (B := b.toNat) HGD.out (by rw [show ((a.toNat : Nat) : Int) = a by omega, show ((b.toNat : Nat) : Int) = b by omega]; exact hi)) HG3.out HP.out)
    obtain ⟨q, hqq⟩ : ∃ q : Nat, b.toNat / 2 = q := ⟨_, rfl⟩
    rw [hqq] at hq hw1 hq2 HR
    rw [show ((q + 1 : Nat) : Int) = (q : Int) + 1 by omega] at hw1 HR
    have hB9 : a ≤ 9223372036854775807 := by omega
    have o1 : a < b := by omega
    have m1 : min a b = a := Int.min_eq_left (by omega)
    have m2 : max a b = b := Int.max_eq_right (by omega)
    have o2 : decide (a ≤ b) = true := decide_eq_true (by omega)
    have o3 : decide (b ≤ a) = false := decide_eq_false (by omega)
    have o4 : a ≤ b := by omega
    have o5 : ¬ b ≤ a := by omega
    clear c1 c2 c3 c4 c8 c9 c10 hqq o1
    go_enter Try.func38, Try.ntmps38
    go_wp2_with (go_at_call 43; refine (not43_calls a _ hB9).mono ?_; rintro e w2 ⟨rfl, hw2⟩; rw [hw2]; clear hw2 w2)
    refine HR.out.mono ?_
    rintro e w2 ⟨o', va', vc', vis', rfl, r1, r2, r3⟩
    have HR1 := Lib.hid r1; have HR2 := Lib.hid r2; have HR3 := Lib.hid r3
    clear r1 r2 r3 k0 HR
    go_wp2_with fail
    go_ret
    exact ⟨by rw [HE.out]; rfl, by rw [HE.out]; exact ⟨o', va', vc', vis', HR1.out, by have := HG2.out; have := HR2.out; omega, HR3.out⟩⟩
  · have HE := Lib.hid (show andC gs a b = addG gs (2, b, a) by unfold andC; rw [HN.out, if_neg HNN.out, if_neg HN2.out, if_neg c8, if_neg (show ¬ (b = 0 ∨ a = b) by omega), Int.min_eq_right (by omega), Int.max_eq_left (by omega)])
    have hq : Int.tdiv a 2 = ((a.toNat / 2 : Nat) : Int) := by rw [Int.tdiv_eq_ediv_of_nonneg (by omega)]; omega
    have hw1 : IntKind.i64.wrap (((a.toNat / 2 : Nat) : Int) + 1) = ((a.toNat / 2 + 1 : Nat) : Int) := by rw [IntWalk.i64_in _ (by omega)]; omega
    have hq2 : IntKind.i64.wrap (((a.toNat / 2 : Nat) : Int)) = ((a.toNat / 2 : Nat) : Int) := IntWalk.i64_in _ (by omega)
    have HR := Lib.hid (reference_calls gs (2, b, a) (a.toNat / 2 + 1) p o va vc vis w w0 HG1.out (by rw [HN.out]; exact HL.out) ⟨by have := HG2.out; have := HLO.out; omega, by rw [HN.out]; have := HG2.out; have := HHI.out; omega⟩ HGD.out.one (fun i hi => good_from (A := b.toNat) (B := a.toNat) HGD.out (by rw [show ((b.toNat : Nat) : Int) = b by omega, show ((a.toNat : Nat) : Int) = a by omega]; exact hi)) HG3.out HP.out)
    obtain ⟨q, hqq⟩ : ∃ q : Nat, a.toNat / 2 = q := ⟨_, rfl⟩
    rw [hqq] at hq hw1 hq2 HR
    rw [show ((q + 1 : Nat) : Int) = (q : Int) + 1 by omega] at hw1 HR
    have hB9 : a ≤ 9223372036854775807 := by omega
    have o1 : b < a := by omega
    have m1 : min a b = b := Int.min_eq_right (by omega)
    have m2 : max a b = a := Int.max_eq_left (by omega)
    have o2 : decide (a ≤ b) = false := decide_eq_false (by omega)
    have o3 : decide (b ≤ a) = true := decide_eq_true (by omega)
    have o4 : b ≤ a := by omega
    have o5 : ¬ a ≤ b := by omega
    clear c1 c2 c3 c4 c8 c9 c10 hqq o1
    go_enter Try.func38, Try.ntmps38
    go_wp2_with (go_at_call 43; refine (not43_calls a _ hB9).mono ?_; rintro e w2 ⟨rfl, hw2⟩; rw [hw2]; clear hw2 w2)
    refine HR.out.mono ?_
    rintro e w2 ⟨o', va', vc', vis', rfl, r1, r2, r3⟩
    have HR1 := Lib.hid r1; have HR2 := Lib.hid r2; have HR3 := Lib.hid r3
    clear r1 r2 r3 k0 HR
    go_wp2_with fail
    go_ret
    exact ⟨by rw [HE.out]; rfl, by rw [HE.out]; exact ⟨o', va', vc', vis', HR1.out, by have := HG2.out; have := HR2.out; omega, HR3.out⟩⟩

theorem and_le {gs : List Gt} {a b : Int} (ha : a ≤ 9223372036854775807) (hb : b ≤ 9223372036854775807) (hl : gs.length ≤ 10000) : (andC gs a b).2 ≤ 9223372036854775807 := by
  unfold andC
  split
  · simp
  · split
    · simp
    · split
      · exact hb
      · split
        · exact ha
        · unfold addG
          split
          · rename_i i h
            have := (List.getElem?_eq_some_iff.1 (locG_some h)).1
            simp only
            omega
          · split
            · simp
            · simp only; omega
theorem notR_le {r : Int} (h : r ≤ 9223372036854775807) : notR r ≤ 9223372036854775807 := by unfold notR; split <;> (try split) <;> omega
set_option maxHeartbeats 1000000 in
theorem gor_calls (gs : List Gt) (a b : Int) (p : Nat) (w w0 : World) (lo hi : Int) (h : GR p w0 lo hi gs w) (hG : Good gs) (hl : gs.length ≤ 990) (hlo : 0 ≤ lo) (hhi : hi ≤ 8 * (gs.length : Int)) (hp : w0.heap.size ≤ p) (ha : a ≤ 9223372036854775807) (hb : b ≤ 9223372036854775807) :
    Calls Try.prog 39 #[.pointer (some ⟨p, 0, none⟩), .int .i64 a, .int .i64 b] w fun e w' => e = .returned (.int .i64 (orC gs a b).2) ∧ GR p w0 lo (hi + (gs.length : Int)) (orC gs a b).1 w' := by
  have HC := Lib.hid (gand_calls gs (notR a) (notR b) p w w0 lo hi h hG hl hlo hhi hp)
  have HB := Lib.hid (show (andC gs (notR a) (notR b)).2 ≤ 9223372036854775807 from and_le (notR_le ha) (notR_le hb) (by omega))
  have HAB := Lib.hid (And.intro ha hb)
  clear h hG hl hlo hhi hp ha hb
  go_enter Try.func39, Try.ntmps39
  go_wp2_with (go_at_call 43; refine (not43_calls _ _ (by first | exact HAB.out.1 | exact HAB.out.2)).mono ?_; rintro e w2 ⟨rfl, hw2⟩; rw [hw2]; clear hw2 w2)
  go_at_call 38
  refine HC.out.mono ?_
  rintro e w2 ⟨rfl, hr⟩
  have HR := Lib.hid hr; clear hr HC
  go_wp2_with (go_at_call 43; refine (not43_calls _ _ HB.out).mono ?_; rintro e w3 ⟨rfl, hw3⟩; rw [hw3]; clear hw3 w3)
  go_ret
  exact ⟨rfl, HR.out⟩
end Go.Proofs.Ytllljcbdinckgaa
