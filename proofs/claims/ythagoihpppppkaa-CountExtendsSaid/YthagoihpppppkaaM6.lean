/- And and Or of a growing circuit that may have an index. -/
import Derived.Test.YthagoihpppppkaaM5
namespace Go.Proofs.Ythagoihpppppkaa
open Go.RowKit Go.Maps

/-- A growing circuit in the box p: its blocks lie in M, its visits are at most hi. -/
def GX (p : Nat) (M : Nat → Prop) (w : World) (gs : List Gt) (hi : Int) : Prop :=
  ∃ owned va vc mb vis, Grw p w owned va vc gs mb vis ∧ (0 ≤ vis ∧ vis ≤ hi) ∧ ∀ k, mine p owned va mb k → M k
/-- What an operation leaves: the gates are gs, its blocks are elder ones of M or new; nothing but M has turned. -/
def PX (p : Nat) (M : Nat → Prop) (w : World) (gs : List Gt) (hi : Int) (w' : World) : Prop := GX p (fun k => M k ∨ w.heap.size ≤ k) w' gs hi ∧ Off M w w'
theorem GX.stay {p : Nat} {M : Nat → Prop} {w : World} {gs : List Gt} {hi hi' : Int} (h : GX p M w gs hi) (hh : hi ≤ hi') : PX p M w gs hi' w := by
  obtain ⟨o, a, c, b, v, h1, h2, h3⟩ := h
  exact ⟨⟨o, a, c, b, v, h1, ⟨h2.1, by omega⟩, fun k hk => .inl (h3 k hk)⟩, Off.refl M w⟩
theorem wfG64 {x : Int} (h0 : 0 ≤ x) (h : x ≤ 1000000) : (Lit.int .i64 x).wf = true := by
  have h1 : IntKind.i64.min = -9223372036854775808 := by decide
  have h2 : IntKind.i64.max = 9223372036854775807 := by decide
  simp [Lit.wf]; constructor <;> omega

set_option maxHeartbeats 4000000 in
theorem gand_calls (gs : List Gt) (a b : Int) (p : Nat) (M : Nat → Prop) (w : World) (hi : Int) (h : GX p M w gs hi) (hG : Good gs) (hl : gs.length ≤ 990) :
    Calls Try.prog 39 #[.pointer (some ⟨p, 0, none⟩), .int .i64 a, .int .i64 b] w fun e w' => e = .returned (.int .i64 (andC gs a b).2) ∧ PX p M w (andC gs a b).1 (hi + (gs.length : Int)) w' := by
  obtain ⟨n, hn⟩ : ∃ n, gs.length = n := ⟨_, rfl⟩
  have HH := Lib.hid (h.stay (show hi ≤ hi + (gs.length : Int) by omega))
  have HWG := Lib.hid (good_wf hG (by omega))
  obtain ⟨o, va, vc, mb, vis, g1, g2, g3⟩ := h
  have k0 := g1.c0
  have hN := hG.pos
  rw [hn] at k0 hl hN
  have hw2 : IntKind.i64.wrap (2 * (n : Int)) = 2 * (n : Int) := IntWalk.i64_in _ (by omega)
  have HN := Lib.hid hn
  have HG1 := Lib.hid g1; have HG3 := Lib.hid g3; have HG2 := Lib.hid g2; have HGD := Lib.hid hG
  have HL := Lib.hid hl
  clear g1 g2 g3 hn hG
  by_cases c1 : a < 0
  · have HE := Lib.hid (show andC gs a b = (gs, -1) by unfold andC; rw [HN.out]; rw [if_pos (by omega)])
    have f0 : decide (a < 0) = true := decide_eq_true (by omega)
    go_enter Try.func39, Try.ntmps39
    go_wp2_with (go_at_call 53; refine (not43_calls a _ (by omega)).mono ?_; rintro e w2 ⟨rfl, hw2⟩; rw [hw2]; clear hw2 w2)
    go_ret
    exact ⟨by rw [HE.out]; rfl, by rw [HE.out]; exact HH.out⟩
  by_cases c2 : b < 0
  · have HE := Lib.hid (show andC gs a b = (gs, -1) by unfold andC; rw [HN.out]; rw [if_pos (by omega)])
    have f0 : decide (a < 0) = false := decide_eq_false (by omega)
    have f1 : decide (b < 0) = true := decide_eq_true (by omega)
    go_enter Try.func39, Try.ntmps39
    go_wp2_with (go_at_call 53; refine (not43_calls a _ (by omega)).mono ?_; rintro e w2 ⟨rfl, hw2⟩; rw [hw2]; clear hw2 w2)
    go_ret
    exact ⟨by rw [HE.out]; rfl, by rw [HE.out]; exact HH.out⟩
  by_cases c3 : 2 * (n : Int) ≤ a
  · have HE := Lib.hid (show andC gs a b = (gs, -1) by unfold andC; rw [HN.out]; rw [if_pos (by omega)])
    have f0 : decide (a < 0) = false := decide_eq_false (by omega)
    have f1 : decide (b < 0) = false := decide_eq_false (by omega)
    have f2 : decide (2 * (n : Int) ≤ a) = true := decide_eq_true (by omega)
    go_enter Try.func39, Try.ntmps39
    go_wp2_with (go_at_call 53; refine (not43_calls a _ (by omega)).mono ?_; rintro e w2 ⟨rfl, hw2⟩; rw [hw2]; clear hw2 w2)
    go_ret
    exact ⟨by rw [HE.out]; rfl, by rw [HE.out]; exact HH.out⟩
  by_cases c4 : 2 * (n : Int) ≤ b
  · have HE := Lib.hid (show andC gs a b = (gs, -1) by unfold andC; rw [HN.out]; rw [if_pos (by omega)])
    have f0 : decide (a < 0) = false := decide_eq_false (by omega)
    have f1 : decide (b < 0) = false := decide_eq_false (by omega)
    have f2 : decide (2 * (n : Int) ≤ a) = false := decide_eq_false (by omega)
    have f3 : decide (2 * (n : Int) ≤ b) = true := decide_eq_true (by omega)
    go_enter Try.func39, Try.ntmps39
    go_wp2_with (go_at_call 53; refine (not43_calls a _ (by omega)).mono ?_; rintro e w2 ⟨rfl, hw2⟩; rw [hw2]; clear hw2 w2)
    go_ret
    exact ⟨by rw [HE.out]; rfl, by rw [HE.out]; exact HH.out⟩
  have HNN := Lib.hid (show ¬ (a < 0 ∨ b < 0 ∨ 2 * (n : Int) ≤ a ∨ 2 * (n : Int) ≤ b) by omega)
  have e0 : decide (a < 0) = false := decide_eq_false (by omega)
  have e1 : decide (b < 0) = false := decide_eq_false (by omega)
  have e2 : decide (2 * (n : Int) ≤ a) = false := decide_eq_false (by omega)
  have e3 : decide (2 * (n : Int) ≤ b) = false := decide_eq_false (by omega)
  by_cases c5 : a = 1
  · have HE := Lib.hid (show andC gs a b = (gs, 1) by unfold andC; rw [HN.out]; rw [if_neg HNN.out, if_pos (.inl c5)])
    have f0 : (a == 1) = true := beqT c5
    have hB9 : a ≤ 9223372036854775807 := by omega
    clear c1 c2 c3 c4 c5
    go_enter Try.func39, Try.ntmps39
    go_wp2_with (go_at_call 53; refine (not43_calls a _ hB9).mono ?_; rintro e w2 ⟨rfl, hw2⟩; rw [hw2]; clear hw2 w2)
    go_ret
    exact ⟨by rw [HE.out]; rfl, by rw [HE.out]; exact HH.out⟩
  have e5 := beqF c5
  by_cases c6 : b = 1
  · have HE := Lib.hid (show andC gs a b = (gs, 1) by unfold andC; rw [HN.out]; rw [if_neg HNN.out, if_pos (.inr (.inl c6))])
    have f0 : (b == 1) = true := beqT c6
    have hB9 : a ≤ 9223372036854775807 := by omega
    clear c1 c2 c3 c4 c5 c6
    go_enter Try.func39, Try.ntmps39
    go_wp2_with (go_at_call 53; refine (not43_calls a _ hB9).mono ?_; rintro e w2 ⟨rfl, hw2⟩; rw [hw2]; clear hw2 w2)
    go_ret
    exact ⟨by rw [HE.out]; rfl, by rw [HE.out]; exact HH.out⟩
  have e6 := beqF c6
  by_cases c7 : b = notR a
  · have HE := Lib.hid (show andC gs a b = (gs, 1) by unfold andC; rw [HN.out]; rw [if_neg HNN.out, if_pos (.inr (.inr c7))])
    have f0 : (b == notR a) = true := beqT c7
    have hB9 : a ≤ 9223372036854775807 := by omega
    clear c1 c2 c3 c4 c5 c6 c7
    go_enter Try.func39, Try.ntmps39
    go_wp2_with (go_at_call 53; refine (not43_calls a _ hB9).mono ?_; rintro e w2 ⟨rfl, hw2⟩; rw [hw2]; clear hw2 w2)
    go_ret
    exact ⟨by rw [HE.out]; rfl, by rw [HE.out]; exact HH.out⟩
  have e7 := beqF c7
  have HN2 := Lib.hid (show ¬ (a = 1 ∨ b = 1 ∨ b = notR a) by simp only [not_or]; exact ⟨c5, c6, c7⟩)
  clear c5 c6 c7
  by_cases c8 : a = 0
  · have HE := Lib.hid (show andC gs a b = (gs, b) by unfold andC; rw [HN.out]; rw [if_neg HNN.out, if_neg HN2.out, if_pos c8])
    have f0 : (a == 0) = true := beqT c8
    have hB9 : a ≤ 9223372036854775807 := by omega
    clear c1 c2 c3 c4 c8
    go_enter Try.func39, Try.ntmps39
    go_wp2_with (go_at_call 53; refine (not43_calls a _ hB9).mono ?_; rintro e w2 ⟨rfl, hw2⟩; rw [hw2]; clear hw2 w2)
    go_ret
    exact ⟨by rw [HE.out]; rfl, by rw [HE.out]; exact HH.out⟩
  have e8 := beqF c8
  by_cases c9 : b = 0
  · have HE := Lib.hid (show andC gs a b = (gs, a) by unfold andC; rw [HN.out]; rw [if_neg HNN.out, if_neg HN2.out, if_neg c8, if_pos (.inl c9)])
    have f0 : (b == 0) = true := beqT c9
    have hB9 : a ≤ 9223372036854775807 := by omega
    clear c1 c2 c3 c4 c8 c9
    go_enter Try.func39, Try.ntmps39
    go_wp2_with (go_at_call 53; refine (not43_calls a _ hB9).mono ?_; rintro e w2 ⟨rfl, hw2⟩; rw [hw2]; clear hw2 w2)
    go_ret
    exact ⟨by rw [HE.out]; rfl, by rw [HE.out]; exact HH.out⟩
  have e9 := beqF c9
  by_cases c10 : a = b
  · have HE := Lib.hid (show andC gs a b = (gs, a) by unfold andC; rw [HN.out]; rw [if_neg HNN.out, if_neg HN2.out, if_neg c8, if_pos (.inr c10)])
    have f0 : (a == b) = true := beqT c10
    have hB9 : a ≤ 9223372036854775807 := by omega
    clear c1 c2 c3 c4 c8 c9 c10
    go_enter Try.func39, Try.ntmps39
    go_wp2_with (go_at_call 53; refine (not43_calls a _ hB9).mono ?_; rintro e w2 ⟨rfl, hw2⟩; rw [hw2]; clear hw2 w2)
    go_ret
    exact ⟨by rw [HE.out]; rfl, by rw [HE.out]; exact HH.out⟩
  have e10 := beqF c10
  by_cases hab : a < b
  · have HE := Lib.hid (show andC gs a b = addG gs (2, a, b) by unfold andC; rw [HN.out, if_neg HNN.out, if_neg HN2.out, if_neg c8, if_neg (show ¬ (b = 0 ∨ a = b) by omega), Int.min_eq_left (by omega), Int.max_eq_right (by omega)])
    have hq : Int.tdiv b 2 = ((b.toNat / 2 : Nat) : Int) := by rw [Int.tdiv_eq_ediv_of_nonneg (by omega)]; omega
    have hw1 : IntKind.i64.wrap (((b.toNat / 2 : Nat) : Int) + 1) = ((b.toNat / 2 + 1 : Nat) : Int) := by rw [IntWalk.i64_in _ (by omega)]; omega
    have hq2 : IntKind.i64.wrap (((b.toNat / 2 : Nat) : Int)) = ((b.toNat / 2 : Nat) : Int) := IntWalk.i64_in _ (by omega)
    have HR := Lib.hid (greference_calls gs (2, a, b) (b.toNat / 2 + 1) p o va vc mb vis w M HG1.out (by rw [HN.out]; exact HL.out) HG2.out.1 ⟨(show (Lit.int .i64 2).wf = true by decide), wfG64 (show 0 ≤ a by omega) (show a ≤ 1000000 by omega), wfG64 (show 0 ≤ b by omega) (show b ≤ 1000000 by omega)⟩ HWG.out HGD.out.one (fun i hi => good_from (A := a.toNat) (B := b.toNat) HGD.out (by rw [show ((a.toNat : Nat) : Int) = a by omega, show ((b.toNat : Nat) : Int) = b by omega]; exact hi)) HG3.out)
    obtain ⟨q, hqq⟩ : ∃ q : Nat, b.toNat / 2 = q := ⟨_, rfl⟩
    rw [hqq] at hq hw1 hq2 HR
    rw [show ((q + 1 : Nat) : Int) = (q : Int) + 1 by omega] at hw1 HR
    have hB9 : a ≤ 9223372036854775807 := by omega
    have o1 : a < b := by omega
    have m1 : min a b = a := Int.min_eq_left (by omega)
    have m2 : max a b = b := Int.max_eq_right (by omega)
    have o2 : decide (a ≤ b) = true := decide_eq_true (by omega)
    have o3 : decide (b ≤ a) = false := decide_eq_false (by omega)
    have o4 : a ≤ b := by omega
    have o5 : ¬ b ≤ a := by omega
    clear c1 c2 c3 c4 c8 c9 c10 hqq o1
    go_enter Try.func39, Try.ntmps39
    go_wp2_with (go_at_call 53; refine (not43_calls a _ hB9).mono ?_; rintro e w2 ⟨rfl, hw2⟩; rw [hw2]; clear hw2 w2)
    refine HR.out.mono ?_
    rintro e w2 ⟨o', va', vc', mb', vis', rfl, r1, r2, r3, r4⟩
    have HR1 := Lib.hid r1; have HR2 := Lib.hid r2; have HR3 := Lib.hid r3; have HR4 := Lib.hid r4
    clear r1 r2 r3 r4 k0 HR
    go_wp2_with fail
    go_ret
    exact ⟨by rw [HE.out]; rfl, by rw [HE.out]; exact ⟨⟨o', va', vc', mb', vis', HR1.out, by have := HG2.out; have := HR2.out; omega, HR4.out⟩, HR3.out⟩⟩
  · have HE := Lib.hid (show andC gs a b = addG gs (2, b, a) by unfold andC; rw [HN.out, if_neg HNN.out, if_neg HN2.out, if_neg c8, if_neg (show ¬ (b = 0 ∨ a = b) by omega), Int.min_eq_right (by omega), Int.max_eq_left (by omega)])
    have hq : Int.tdiv a 2 = ((a.toNat / 2 : Nat) : Int) := by rw [Int.tdiv_eq_ediv_of_nonneg (by omega)]; omega
    have hw1 : IntKind.i64.wrap (((a.toNat / 2 : Nat) : Int) + 1) = ((a.toNat / 2 + 1 : Nat) : Int) := by rw [IntWalk.i64_in _ (by omega)]; omega
    have hq2 : IntKind.i64.wrap (((a.toNat / 2 : Nat) : Int)) = ((a.toNat / 2 : Nat) : Int) := IntWalk.i64_in _ (by omega)
    have HR := Lib.hid (greference_calls gs (2, b, a) (a.toNat / 2 + 1) p o va vc mb vis w M HG1.out (by rw [HN.out]; exact HL.out) HG2.out.1 ⟨(show (Lit.int .i64 2).wf = true by decide), wfG64 (show 0 ≤ b by omega) (show b ≤ 1000000 by omega), wfG64 (show 0 ≤ a by omega) (show a ≤ 1000000 by omega)⟩ HWG.out HGD.out.one (fun i hi => good_from (A := b.toNat) (B := a.toNat) HGD.out (by rw [show ((b.toNat : Nat) : Int) = b by omega, show ((a.toNat : Nat) : Int) = a by omega]; exact hi)) HG3.out)
    obtain ⟨q, hqq⟩ : ∃ q : Nat, a.toNat / 2 = q := ⟨_, rfl⟩
    rw [hqq] at hq hw1 hq2 HR
    rw [show ((q + 1 : Nat) : Int) = (q : Int) + 1 by omega] at hw1 HR
    have hB9 : a ≤ 9223372036854775807 := by omega
    have o1 : b < a := by omega
    have m1 : min a b = b := Int.min_eq_right (by omega)
    have m2 : max a b = a := Int.max_eq_left (by omega)
    have o2 : decide (a ≤ b) = false := decide_eq_false (by omega)
    have o3 : decide (b ≤ a) = true := decide_eq_true (by omega)
    have o4 : b ≤ a := by omega
    have o5 : ¬ a ≤ b := by omega
    clear c1 c2 c3 c4 c8 c9 c10 hqq o1
    go_enter Try.func39, Try.ntmps39
    go_wp2_with (go_at_call 53; refine (not43_calls a _ hB9).mono ?_; rintro e w2 ⟨rfl, hw2⟩; rw [hw2]; clear hw2 w2)
    refine HR.out.mono ?_
    rintro e w2 ⟨o', va', vc', mb', vis', rfl, r1, r2, r3, r4⟩
    have HR1 := Lib.hid r1; have HR2 := Lib.hid r2; have HR3 := Lib.hid r3; have HR4 := Lib.hid r4
    clear r1 r2 r3 r4 k0 HR
    go_wp2_with fail
    go_ret
    exact ⟨by rw [HE.out]; rfl, by rw [HE.out]; exact ⟨⟨o', va', vc', mb', vis', HR1.out, by have := HG2.out; have := HR2.out; omega, HR4.out⟩, HR3.out⟩⟩

set_option maxHeartbeats 1000000 in
theorem gor_calls (gs : List Gt) (a b : Int) (p : Nat) (M : Nat → Prop) (w : World) (hi : Int) (h : GX p M w gs hi) (hG : Good gs) (hl : gs.length ≤ 990) (ha : a ≤ 9223372036854775807) (hb : b ≤ 9223372036854775807) :
    Calls Try.prog 38 #[.pointer (some ⟨p, 0, none⟩), .int .i64 a, .int .i64 b] w fun e w' => e = .returned (.int .i64 (orC gs a b).2) ∧ PX p M w (orC gs a b).1 (hi + (gs.length : Int)) w' := by
  have HC := Lib.hid (gand_calls gs (notR a) (notR b) p M w hi h hG hl)
  have HB := Lib.hid (show (andC gs (notR a) (notR b)).2 ≤ 9223372036854775807 from and_le (notR_le ha) (notR_le hb) (by omega))
  have HAB := Lib.hid (And.intro ha hb)
  clear h hG hl ha hb
  go_enter Try.func38, Try.ntmps38
  go_wp2_with (go_at_call 53; refine (not43_calls _ _ (by first | exact HAB.out.1 | exact HAB.out.2)).mono ?_; rintro e w2 ⟨rfl, hw2⟩; rw [hw2]; clear hw2 w2)
  go_at_call 39
  refine HC.out.mono ?_
  rintro e w2 ⟨rfl, hr⟩
  have HR := Lib.hid hr; clear hr HC
  go_wp2_with (go_at_call 53; refine (not43_calls _ _ HB.out).mono ?_; rintro e w3 ⟨rfl, hw3⟩; rw [hw3]; clear hw3 w3)
  go_ret
  exact ⟨rfl, HR.out⟩
end Go.Proofs.Ythagoihpppppkaa
