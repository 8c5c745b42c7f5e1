/- Texts of the proof: M6 M7 N1 KA KB KC KD KE. -/
import Derived.Test.YthdhmflodiincaaGreatCA07
import Derived.Test.YthdhmflodiincaaGreatCA00
set_option maxRecDepth 100000
set_option maxHeartbeats 8000000
namespace Go.Proofs.YthdhmflodiincaaGreat
set_option maxRecDepth 100000
open Go.RowKit Go.Maps

def GX (p : Nat) (M : Nat → Prop) (w : World) (gs : List Gt) (hi : Int) : Prop :=
  ∃ owned va vc mb vis, Grw p w owned va vc gs mb vis ∧ (0 ≤ vis ∧ vis ≤ hi) ∧ ∀ k, mine p owned va mb k → M k
def PX (p : Nat) (M : Nat → Prop) (w : World) (gs : List Gt) (hi : Int) (w' : World) : Prop := GX p (fun k => M k ∨ w.heap.size ≤ k) w' gs hi ∧ Off M w w'
theorem GX.stay {p : Nat} {M : Nat → Prop} {w : World} {gs : List Gt} {hi hi' : Int} (h : GX p M w gs hi) (hh : hi ≤ hi') : PX p M w gs hi' w := by
  obtain ⟨o, a, c, b, v, h1, h2, h3⟩ := h
  exact ⟨⟨o, a, c, b, v, h1, ⟨h2.1, by omega⟩, fun k hk => .inl (h3 k hk)⟩, Off.refl M w⟩
theorem wfG64 {x : Int} (h0 : 0 ≤ x) (h : x ≤ 1000000) : (Lit.int .i64 x).wf = true := by
  have h1 : IntKind.i64.min = -9223372036854775808 := by decide
  have h2 : IntKind.i64.max = 9223372036854775807 := by decide
  simp [Lit.wf]; constructor <;> omega

theorem gand_calls (gs : List Gt) (a b : Int) (p : Nat) (M : Nat → Prop) (w : World) (hi : Int) (h : GX p M w gs hi) (hG : Good gs) (hl : gs.length ≤ 990) :
    Calls Tryz.prog 51 #[.pointer (some ⟨p, 0, none⟩), .int .i64 a, .int .i64 b] w fun e w' => e = .returned (.int .i64 (andC gs a b).2) ∧ PX p M w (andC gs a b).1 (hi + (gs.length : Int)) w' := by
  obtain ⟨n, hn⟩ : ∃ n, gs.length = n := ⟨_, rfl⟩
  have HH := Lib.hid (h.stay (show hi ≤ hi + (gs.length : Int) by omega))
  have HWG := Lib.hid (good_wf hG (by omega))
  obtain ⟨o, va, vc, mb, vis, g1, g2, g3⟩ := h
  have k0 := g1.c0
  have hN := hG.pos
  rw [hn] at k0 hl hN
  have hw2 : IntKind.i64.wrap (2 * (n : Int)) = 2 * (n : Int) := IntWalk.i64_in _ (by omega)
  have HN := Lib.hid hn
  have HG1 := Lib.hid g1; have HG3 := Lib.hid g3; have HG2 := Lib.hid g2; have HGD := Lib.hid hG
  have HL := Lib.hid hl
  clear g1 g2 g3 hn hG
  by_cases c1 : a < 0
  · have HE := Lib.hid (show andC gs a b = (gs, -1) by unfold andC; rw [HN.out]; rw [if_pos (by omega)])
    have f0 : decide (a < 0) = true := decide_eq_true (by omega)
    go_enter Tryz.func51, Tryz.ntmps51
    go_wp2_with (go_at_call 82; refine (not43_calls a _ (by omega)).mono ?_; rintro e w2 ⟨rfl, hw2⟩; rw [hw2]; clear hw2 w2)
    go_ret
    exact ⟨by rw [HE.out]; rfl, by rw [HE.out]; exact HH.out⟩
  by_cases c2 : b < 0
  · have HE := Lib.hid (show andC gs a b = (gs, -1) by unfold andC; rw [HN.out]; rw [if_pos (by omega)])
    have f0 : decide (a < 0) = false := decide_eq_false (by omega)
    have f1 : decide (b < 0) = true := decide_eq_true (by omega)
    go_enter Tryz.func51, Tryz.ntmps51
    go_wp2_with (go_at_call 82; refine (not43_calls a _ (by omega)).mono ?_; rintro e w2 ⟨rfl, hw2⟩; rw [hw2]; clear hw2 w2)
    go_ret
    exact ⟨by rw [HE.out]; rfl, by rw [HE.out]; exact HH.out⟩
  by_cases c3 : 2 * (n : Int) ≤ a
  · have HE := Lib.hid (show andC gs a b = (gs, -1) by unfold andC; rw [HN.out]; rw [if_pos (by omega)])
    have f0 : decide (a < 0) = false := decide_eq_false (by omega)
    have f1 : decide (b < 0) = false := decide_eq_false (by omega)
    have f2 : decide (2 * (n : Int) ≤ a) = true := decide_eq_true (by omega)
    go_enter Tryz.func51, Tryz.ntmps51
    go_wp2_with (go_at_call 82; refine (not43_calls a _ (by omega)).mono ?_; rintro e w2 ⟨rfl, hw2⟩; rw [hw2]; clear hw2 w2)
    go_ret
    exact ⟨by rw [HE.out]; rfl, by rw [HE.out]; exact HH.out⟩
  by_cases c4 : 2 * (n : Int) ≤ b
  · have HE := Lib.hid (show andC gs a b = (gs, -1) by unfold andC; rw [HN.out]; rw [if_pos (by omega)])
    have f0 : decide (a < 0) = false := decide_eq_false (by omega)
    have f1 : decide (b < 0) = false := decide_eq_false (by omega)
    have f2 : decide (2 * (n : Int) ≤ a) = false := decide_eq_false (by omega)
    have f3 : decide (2 * (n : Int) ≤ b) = true := decide_eq_true (by omega)
    go_enter Tryz.func51, Tryz.ntmps51
    go_wp2_with (go_at_call 82; refine (not43_calls a _ (by omega)).mono ?_; rintro e w2 ⟨rfl, hw2⟩; rw [hw2]; clear hw2 w2)
    go_ret
    exact ⟨by rw [HE.out]; rfl, by rw [HE.out]; exact HH.out⟩
  have HNN := Lib.hid (show ¬ (a < 0 ∨ b < 0 ∨ 2 * (n : Int) ≤ a ∨ 2 * (n : Int) ≤ b) by omega)
  have e0 : decide (a < 0) = false := decide_eq_false (by omega)
  have e1 : decide (b < 0) = false := decide_eq_false (by omega)
  have e2 : decide (2 * (n : Int) ≤ a) = false := decide_eq_false (by omega)
  have e3 : decide (2 * (n : Int) ≤ b) = false := decide_eq_false (by omega)
  by_cases c5 : a = 1
  · have HE := Lib.hid (show andC gs a b = (gs, 1) by unfold andC; rw [HN.out]; rw [if_neg HNN.out, if_pos (.inl c5)])
    have f0 : (a == 1) = true := beqT c5
    have hB9 : a ≤ 9223372036854775807 := by omega
    clear c1 c2 c3 c4 c5
    go_enter Tryz.func51, Tryz.ntmps51
    go_wp2_with (go_at_call 82; refine (not43_calls a _ hB9).mono ?_; rintro e w2 ⟨rfl, hw2⟩; rw [hw2]; clear hw2 w2)
    go_ret
    exact ⟨by rw [HE.out]; rfl, by rw [HE.out]; exact HH.out⟩
  have e5 := beqF c5
  by_cases c6 : b = 1
  · have HE := Lib.hid (show andC gs a b = (gs, 1) by unfold andC; rw [HN.out]; rw [if_neg HNN.out, if_pos (.inr (.inl c6))])
    have f0 : (b == 1) = true := beqT c6
    have hB9 : a ≤ 9223372036854775807 := by omega
    clear c1 c2 c3 c4 c5 c6
    go_enter Tryz.func51, Tryz.ntmps51
    go_wp2_with (go_at_call 82; refine (not43_calls a _ hB9).mono ?_; rintro e w2 ⟨rfl, hw2⟩; rw [hw2]; clear hw2 w2)
    go_ret
    exact ⟨by rw [HE.out]; rfl, by rw [HE.out]; exact HH.out⟩
  have e6 := beqF c6
  by_cases c7 : b = notR a
  · have HE := Lib.hid (show andC gs a b = (gs, 1) by unfold andC; rw [HN.out]; rw [if_neg HNN.out, if_pos (.inr (.inr c7))])
    have f0 : (b == notR a) = true := beqT c7
    have hB9 : a ≤ 9223372036854775807 := by omega
    clear c1 c2 c3 c4 c5 c6 c7
    go_enter Tryz.func51, Tryz.ntmps51
    go_wp2_with (go_at_call 82; refine (not43_calls a _ hB9).mono ?_; rintro e w2 ⟨rfl, hw2⟩; rw [hw2]; clear hw2 w2)
    go_ret
    exact ⟨by rw [HE.out]; rfl, by rw [HE.out]; exact HH.out⟩
  have e7 := beqF c7
  have HN2 := Lib.hid (show ¬ (a = 1 ∨ b = 1 ∨ b = notR a) by simp only [not_or]; exact ⟨c5, c6, c7⟩)
  clear c5 c6 c7
  by_cases c8 : a = 0
  · have HE := Lib.hid (show andC gs a b = (gs, b) by unfold andC; rw [HN.out]; rw [if_neg HNN.out, if_neg HN2.out, if_pos c8])
    have f0 : (a == 0) = true := beqT c8
    have hB9 : a ≤ 9223372036854775807 := by omega
    clear c1 c2 c3 c4 c8
    go_enter Tryz.func51, Tryz.ntmps51
    go_wp2_with (go_at_call 82; refine (not43_calls a _ hB9).mono ?_; rintro e w2 ⟨rfl, hw2⟩; rw [hw2]; clear hw2 w2)
    go_ret
    exact ⟨by rw [HE.out]; rfl, by rw [HE.out]; exact HH.out⟩
  have e8 := beqF c8
  by_cases c9 : b = 0
  · have HE := Lib.hid (show andC gs a b = (gs, a) by unfold andC; rw [HN.out]; rw [if_neg HNN.out, if_neg HN2.out, if_neg c8, if_pos (.inl c9)])
    have f0 : (b == 0) = true := beqT c9
    have hB9 : a ≤ 9223372036854775807 := by omega
    clear c1 c2 c3 c4 c8 c9
    go_enter Tryz.func51, Tryz.ntmps51
    go_wp2_with (go_at_call 82; refine (not43_calls a _ hB9).mono ?_; rintro e w2 ⟨rfl, hw2⟩; rw [hw2]; clear hw2 w2)
    go_ret
    exact ⟨by rw [HE.out]; rfl, by rw [HE.out]; exact HH.out⟩
  have e9 := beqF c9
  by_cases c10 : a = b
  · have HE := Lib.hid (show andC gs a b = (gs, a) by unfold andC; rw [HN.out]; rw [if_neg HNN.out, if_neg HN2.out, if_neg c8, if_pos (.inr c10)])
    have f0 : (a == b) = true := beqT c10
    have hB9 : a ≤ 9223372036854775807 := by omega
    clear c1 c2 c3 c4 c8 c9 c10
    go_enter Tryz.func51, Tryz.ntmps51
    go_wp2_with (go_at_call 82; refine (not43_calls a _ hB9).mono ?_; rintro e w2 ⟨rfl, hw2⟩; rw [hw2]; clear hw2 w2)
    go_ret
    exact ⟨by rw [HE.out]; rfl, by rw [HE.out]; exact HH.out⟩
  have e10 := beqF c10
  by_cases hab : a < b
  · have HE := Lib.hid (show andC gs a b = addG gs (2, a, b) by unfold andC; rw [HN.out, if_neg HNN.out, if_neg HN2.out, if_neg c8, if_neg (show ¬ (b = 0 ∨ a = b) by omega), Int.min_eq_left (by omega), Int.max_eq_right (by omega)])
    have hq : Int.tdiv b 2 = ((b.toNat / 2 : Nat) : Int) := by rw [Int.tdiv_eq_ediv_of_nonneg (by omega)]; omega
    have hw1 : IntKind.i64.wrap (((b.toNat / 2 : Nat) : Int) + 1) = ((b.toNat / 2 + 1 : Nat) : Int) := by rw [IntWalk.i64_in _ (by omega)]; omega
    have hq2 : IntKind.i64.wrap (((b.toNat / 2 : Nat) : Int)) = ((b.toNat / 2 : Nat) : Int) := IntWalk.i64_in _ (by omega)
    have HR := Lib.hid (greference_calls gs (2, a, b) (b.toNat / 2 + 1) p o va vc mb vis w M HG1.out (by rw [HN.out]; exact HL.out) HG2.out.1 ⟨(show (Lit.int .i64 2).wf = true by decide), wfG64 (show 0 ≤ a by omega) (show a ≤ 1000000 by omega), wfG64 (show 0 ≤ b by omega) (show b ≤ 1000000 by omega)⟩ HWG.out HGD.out.one (fun i hi => good_from (A := a.toNat) (B := b.toNat) HGD.out (by rw [show ((a.toNat : Nat) : Int) = a by omega, show ((b.toNat : Nat) : Int) = b by omega]; exact hi)) HG3.out)
    obtain ⟨q, hqq⟩ : ∃ q : Nat, b.toNat / 2 = q := ⟨_, rfl⟩
    rw [hqq] at hq hw1 hq2 HR
    rw [show ((q + 1 : Nat) : Int) = (q : Int) + 1 by omega] at hw1 HR
    have hB9 : a ≤ 9223372036854775807 := by omega
    have o1 : a < b := by omega
    have m1 : min a b = a := Int.min_eq_left (by omega)
    have m2 : max a b = b := Int.max_eq_right (by omega)
    have o2 : decide (a ≤ b) = true := decide_eq_true (by omega)
    have o3 : decide (b ≤ a) = false := decide_eq_false (by omega)
    have o4 : a ≤ b := by omega
    have o5 : ¬ b ≤ a := by omega
    clear c1 c2 c3 c4 c8 c9 c10 hqq o1
    go_enter Tryz.func51, Tryz.ntmps51
    go_wp2_with (go_at_call 82; refine (not43_calls a _ hB9).mono ?_; rintro e w2 ⟨rfl, hw2⟩; rw [hw2]; clear hw2 w2)
    refine HR.out.mono ?_
    rintro e w2 ⟨o', va', vc', mb', vis', rfl, r1, r2, r3, r4⟩
    have HR1 := Lib.hid r1; have HR2 := Lib.hid r2; have HR3 := Lib.hid r3; have HR4 := Lib.hid r4
    clear r1 r2 r3 r4 k0 HR
    go_wp2_with fail
    go_ret
    exact ⟨by rw [HE.out]; rfl, by rw [HE.out]; exact ⟨⟨o', va', vc', mb', vis', HR1.out, by have := HG2.out; have := HR2.out; omega, HR4.out⟩, HR3.out⟩⟩
  · have HE := Lib.hid (show andC gs a b = addG gs (2, b, a) by unfold andC; rw [HN.out, if_neg HNN.out, if_neg HN2.out, if_neg c8, if_neg (show ¬ (b = 0 ∨ a = b) by omega), Int.min_eq_right (by omega), Int.max_eq_left (by omega)])
    have hq : Int.tdiv a 2 = ((a.toNat / 2 : Nat) : Int) := by rw [Int.tdiv_eq_ediv_of_nonneg (by omega)]; omega
    have hw1 : IntKind.i64.wrap (((a.toNat / 2 : Nat) : Int) + 1) = ((a.toNat / 2 + 1 : Nat) : Int) := by rw [IntWalk.i64_in _ (by omega)]; omega
    have hq2 : IntKind.i64.wrap (((a.toNat / 2 : Nat) : Int)) = ((a.toNat / 2 : Nat) : Int) := IntWalk.i64_in _ (by omega)
    have HR := Lib.hid (greference_calls gs (2, b, a) (a.toNat / 2 + 1) p o va vc mb vis w M HG1.out (by rw [HN.out]; exact HL.out) HG2.out.1 ⟨(show (Lit.int .i64 2).wf = true by decide), wfG64 (show 0 ≤ b by omega) (show b ≤ 1000000 by omega), wfG64 (show 0 ≤ a by omega) (show a ≤ 1000000 by omega)⟩ HWG.out HGD.out.one (fun i hi => good_from (A := b.toNat) (B := a.toNat) HGD.out (by rw [show ((b.toNat : Nat) : Int) = b by omega, show ((a.toNat : Nat) : Int) = a by omega]; exact hi)) HG3.out)
    obtain ⟨q, hqq⟩ : ∃ q : Nat, a.toNat / 2 = q := ⟨_, rfl⟩
    rw [hqq] at hq hw1 hq2 HR
    rw [show ((q + 1 : Nat) : Int) = (q : Int) + 1 by omega] at hw1 HR
    have hB9 : a ≤ 9223372036854775807 := by omega
    have o1 : b < a := by omega
    have m1 : min a b = b := Int.min_eq_right (by omega)
    have m2 : max a b = a := Int.max_eq_left (by omega)
    have o2 : decide (a ≤ b) = false := decide_eq_false (by omega)
    have o3 : decide (b ≤ a) = true := decide_eq_true (by omega)
    have o4 : b ≤ a := by omega
    have o5 : ¬ a ≤ b := by omega
    clear c1 c2 c3 c4 c8 c9 c10 hqq o1
    go_enter Tryz.func51, Tryz.ntmps51
    go_wp2_with (go_at_call 82; refine (not43_calls a _ hB9).mono ?_; rintro e w2 ⟨rfl, hw2⟩; rw [hw2]; clear hw2 w2)
    refine HR.out.mono ?_
    rintro e w2 ⟨o', va', vc', mb', vis', rfl, r1, r2, r3, r4⟩
    have HR1 := Lib.hid r1; have HR2 := Lib.hid r2; have HR3 := Lib.hid r3; have HR4 := Lib.hid r4
    clear r1 r2 r3 r4 k0 HR
    go_wp2_with fail
    go_ret
    exact ⟨by rw [HE.out]; rfl, by rw [HE.out]; exact ⟨⟨o', va', vc', mb', vis', HR1.out, by have := HG2.out; have := HR2.out; omega, HR4.out⟩, HR3.out⟩⟩

theorem gor_calls (gs : List Gt) (a b : Int) (p : Nat) (M : Nat → Prop) (w : World) (hi : Int) (h : GX p M w gs hi) (hG : Good gs) (hl : gs.length ≤ 990) (ha : a ≤ 9223372036854775807) (hb : b ≤ 9223372036854775807) :
    Calls Tryz.prog 52 #[.pointer (some ⟨p, 0, none⟩), .int .i64 a, .int .i64 b] w fun e w' => e = .returned (.int .i64 (orC gs a b).2) ∧ PX p M w (orC gs a b).1 (hi + (gs.length : Int)) w' := by
  have HC := Lib.hid (gand_calls gs (notR a) (notR b) p M w hi h hG hl)
  have HB := Lib.hid (show (andC gs (notR a) (notR b)).2 ≤ 9223372036854775807 from and_le (notR_le ha) (notR_le hb) (by omega))
  have HAB := Lib.hid (And.intro ha hb)
  clear h hG hl ha hb
  go_enter Tryz.func52, Tryz.ntmps52
  go_wp2_with (go_at_call 82; refine (not43_calls _ _ (by first | exact HAB.out.1 | exact HAB.out.2)).mono ?_; rintro e w2 ⟨rfl, hw2⟩; rw [hw2]; clear hw2 w2)
  go_at_call 51
  refine HC.out.mono ?_
  rintro e w2 ⟨rfl, hr⟩
  have HR := Lib.hid hr; clear hr HC
  go_wp2_with (go_at_call 82; refine (not43_calls _ _ HB.out).mono ?_; rintro e w3 ⟨rfl, hw3⟩; rw [hw3]; clear hw3 w3)
  go_ret
  exact ⟨rfl, HR.out⟩
end Go.Proofs.YthdhmflodiincaaGreat

namespace Go.Proofs.YthdhmflodiincaaGreat
set_option maxRecDepth 100000
open Go.RowKit Go.Maps

theorem results36 (tmps : Array Value) (w : World) (b : Nat) (a : Option Addr) (n c : Nat) (ht : tmps.getD 2 undef = .pointer (some ⟨b, 0, none⟩)) (h0 : w.cell? ⟨b, 0, none⟩ = some (.slice a n c)) :
    (results Tryz.f55 tmps).run Tryz.prog w = .ok (.agg #[.slice a n c]) w := by
  have ht' : tmps[2]?.getD undef = .pointer (some ⟨b, 0, none⟩) := by simpa using ht
  simp [results, ht', go_sem, h0, Result.andThen]
theorem gcircuit_calls (hs : List Gt) (p : Nat) (M : Nat → Prop) (w w0 : World) (hi : Int) (h : GX p M w hs hi) (g3 : w0.grownBy w none) (hl : hs.length ≤ 1000) (hp : w0.heap.size ≤ p) :
    Calls Tryz.prog 55 #[.pointer (some ⟨p, 0, none⟩)] w fun e w' => ∃ a c, e = .returned (.agg #[.slice a hs.length c]) ∧ Span (p + 1) w'.heap.size w' (fun W => GatesW W a c hs) ∧ w0.grownBy w' none := by
  obtain ⟨o, va, vc, mb, vis, g1, g2, _⟩ := h
  have hc := one_cell w (.slice none 0 0) 27
  have hg := World.grownBy_alloc w (.cells #[.slice none 0 0] 27) none
  obtain ⟨W, hW⟩ : ∃ W, w.alloc (.cells #[.slice none 0 0] 27) = W := ⟨_, rfl⟩
  rw [hW] at hc hg
  have HSP : o = true → Hid (Span (p + 1) w.heap.size w (fun W => GatesW W va hs.length hs)) := fun ho => by
    subst ho
    have hr := g1.row
    unfold GRow at hr
    simp only [if_true] at hr
    obtain ⟨a, c, e, hs1⟩ := gates_span hr
    cases e
    exact Lib.hid (hs1.map fun W (hW : GatesW W va vc hs) => ⟨Nat.le_refl _, hW.2⟩)
  have HB := Lib.hid (show p < w.heap.size from lies_lt g1.c0)
  have HG1 := Lib.hid hg
  have HGW := Lib.hid (g1.grown hg)
  have HG := Lib.hid (World.grownBy.trans g3 hg)
  have HC := Lib.hid hc
  have hcs := hc
  obtain ⟨_, r0, rf⟩ := hcs
  obtain ⟨n, hn⟩ : ∃ n, hs.length = n := ⟨_, rfl⟩
  have HN := Lib.hid hn
  clear hg g1 g2 g3 hc hn
  rw [HN.out]
  have k0 := HGW.out.c0; have k1 := HGW.out.c1; have kf := HGW.out.fr 1
  rw [HN.out] at k0
  cases o with
  | false =>
    go_enter Tryz.func55, Tryz.ntmps55
    go_wp2_with fail
    have HX := Lib.hid (clone_calls hs va vc W HGW.out.row.gates (by omega))
    rw [HN.out] at HX
    refine HX.out.mono ?_
    rintro e w2 ⟨a', c', rfl, hs2, hg2⟩
    have HG2 := Lib.hid hg2
    have r1 := hg2.cell r0 (by simp)
    have r2 : w2.frozen? ⟨w.heap.size, 0, none⟩ = false := (grown_frozen hg2 HC.out.1 0).trans rf
    have HS := Lib.hid hs2
    clear r0 rf k0 k1 kf hg2 hs2 HX
    go_wp2_with fail
    refine bodyPost_ret (results36 _ _ w.heap.size a' n c' rfl (World.cell?_setCell_same _ _ _ r1)) rfl ⟨a', c', rfl, ?_, ?_⟩
    · exact (HS.out.off (grown_set w2 w.heap.size 0 _) (fun x e => by cases e; exact .inl HC.out.1)).wide (by have h1 := HB.out; have h2 := HC.out.1; omega) (grown_set w2 w.heap.size 0 _).size (Nat.le_refl _)
    · exact grown_own (World.grownBy.trans HG.out HG2.out) (grown_set w2 w.heap.size 0 _) (fun k e => by cases e; have := HB.out; omega)
  | true =>
    have HS := (HSP rfl)
    clear HSP
    rw [HN.out] at HS
    have hvc : n ≤ vc := by rw [← HN.out]; exact HGW.out.row.gates.1
    go_enter Tryz.func55, Tryz.ntmps55
    go_wp2_with fail
    have hpn : w.heap.size ≠ p := by have := HB.out; omega
    have k0' : (W.setCell ⟨p, 1, none⟩ (.bool false)).cell? ⟨p, 0, none⟩ = some (.slice va n vc) := by rw [World.cell?_setCell_other _ _ _ _ (ne_at (by decide))]; exact k0
    have r0' : (W.setCell ⟨p, 1, none⟩ (.bool false)).cell? ⟨w.heap.size, 0, none⟩ = some (.slice none 0 0) := by rw [World.cell?_setCell_other _ _ _ _ (by intro e; injection e with e _; exact hpn e.symm)]; exact r0
    have rf' : (W.setCell ⟨p, 1, none⟩ (.bool false)).frozen? ⟨w.heap.size, 0, none⟩ = false := by rw [World.frozen?_setCell]; exact rf
    have HS1 := Lib.hid ((HS.out.grown HG1.out).off (grown_set W p 1 (.bool false)) (fun x e => by cases e; exact .inl (by omega)))
    have HG1b := Lib.hid (grown_own HG.out (grown_set W p 1 (.bool false)) (fun k e => by cases e; exact hp))
    clear k0 k1 kf r0 rf hpn HGW HC HG HG1 HS
    obtain ⟨W1, hW1⟩ : ∃ W1, W.setCell ⟨p, 1, none⟩ (.bool false) = W1 := ⟨_, rfl⟩
    rw [hW1] at k0' r0' rf' HS1 HG1b ⊢
    clear hW1
    go_wp2_with (go_at_call 88; refine (clip_calls va n vc _ hvc).mono ?_; rintro e w2 ⟨rfl, hw2⟩; rw [hw2]; clear hw2 w2)
    refine bodyPost_ret (results36 _ _ w.heap.size va n n rfl (World.cell?_setCell_same _ _ _ r0')) rfl ⟨va, n, rfl, ?_, ?_⟩
    · exact (HS1.out.off (grown_set W1 w.heap.size 0 _) (fun x e => by cases e; exact .inr (Nat.le_refl _))).wide (Nat.le_refl _) (Nat.le_trans HS1.out.1 (grown_set W1 w.heap.size 0 _).size) (Nat.le_refl _)
    · exact grown_own HG1b.out (grown_set W1 w.heap.size 0 _) (fun k e => by cases e; have := HB.out; omega)
theorem GX.of {p : Nat} {w : World} {a : Option Addr} {c : Nat} {gs : List Gt} (h : Grow (p + 1) p w false a c gs 0) : GX p (fun k => k = p) w gs 0 :=
  ⟨false, a, c, none, 0, h.grw, ⟨Int.le_refl _, Int.le_refl _⟩, by
    rintro k (e | ⟨e, _⟩ | e)
    · exact e
    · cases e
    · cases e⟩
theorem GX.far {p : Nat} {M : Nat → Prop} {w w' : World} {gs : List Gt} {hi : Int} {r : Option Nat} (h : GX p M w gs hi) (hg : w.grownBy w' r) (hr : ∀ x, r = some x → p ≤ x ∧ ¬ M x) : GX p M w' gs hi := by
  obtain ⟨o, a, c, b, v, h1, h2, h3⟩ := h
  exact ⟨o, a, c, b, v, h1.far hg (fun x e => ⟨(hr x e).1, fun m => (hr x e).2 (h3 x m)⟩), h2, h3⟩
theorem GX.grown {p : Nat} {M : Nat → Prop} {w w' : World} {gs : List Gt} {hi : Int} (h : GX p M w gs hi) (hg : w.grownBy w' none) : GX p M w' gs hi := h.far hg (fun x e => by cases e)
theorem GX.wide {p : Nat} {M N : Nat → Prop} {w : World} {gs : List Gt} {hi hi' : Int} (h : GX p M w gs hi) (hm : ∀ k, M k → N k) (hh : hi ≤ hi') : GX p N w gs hi' := by
  obtain ⟨o, a, c, b, v, h1, h2, h3⟩ := h
  exact ⟨o, a, c, b, v, h1, ⟨h2.1, by omega⟩, fun k hk => hm k (h3 k hk)⟩
end Go.Proofs.YthdhmflodiincaaGreat

namespace Go.Proofs.YthdhmflodiincaaGreat

inductive Pr (α : Type) where
  | ret (a : α) : Pr α
  | and (a b : Int) (k : Int → Pr α) : Pr α
namespace Pr
def run {α : Type} : Pr α → List Gt → List Gt × α
  | .ret a, gs => (gs, a)
  | .and a b k, gs => (k (andC gs a b).2).run (andC gs a b).1
def bind {α β : Type} : Pr α → (α → Pr β) → Pr β
  | .ret a, f => f a
  | .and a b k, f => .and a b (fun r => (k r).bind f)
theorem run_bind {α β : Type} (f : α → Pr β) : ∀ (p : Pr α) (gs : List Gt), (p.bind f).run gs = (f (p.run gs).2).run (p.run gs).1
  | .ret _, _ => rfl
  | .and _ _ k, _ => run_bind f (k _) _
def most {α : Type} : Pr α → Nat → Prop
  | .ret _, _ => True
  | .and _ _ _, 0 => False
  | .and _ _ k, n + 1 => ∀ r, (k r).most n
def safe {α : Type} : Pr α → List Gt → (List Gt → α → Prop) → Prop
  | .ret a, gs, Q => Q gs a
  | .and a b k, gs, Q => Ok gs a ∧ Ok gs b ∧ (k (andC gs a b).2).safe (andC gs a b).1 Q
theorem len {α : Type} : ∀ (p : Pr α) {n : Nat} (gs : List Gt), p.most n → (p.run gs).1.length ≤ gs.length + n
  | .ret _, _, _, _ => Nat.le_add_right _ _
  | .and _ _ _, 0, _, h => h.elim
  | .and a b k, _ + 1, gs, h => by
    have h1 := len (k (andC gs a b).2) (andC gs a b).1 (h _)
    have h2 := @and_len gs a b
    exact Nat.le_trans h1 (by omega)
theorem step {α : Type} : ∀ (p : Pr α) {gs : List Gt}, Good gs → Good (p.run gs).1 ∧ gs <+: (p.run gs).1
  | .ret _, _, h => ⟨h, List.prefix_refl _⟩
  | .and a b k, gs, h => by
    have h1 := step_and h a b
    have h2 := step (k (andC gs a b).2) h1.good
    exact ⟨h2.1, h1.pre.trans h2.2⟩
theorem safe_run {α : Type} {Q : List Gt → α → Prop} : ∀ (p : Pr α) {gs : List Gt}, p.safe gs Q → Q (p.run gs).1 (p.run gs).2
  | .ret _, _, h => h
  | .and _ _ k, _, h => safe_run (k _) h.2.2
theorem safe_mono {α : Type} {Q R : List Gt → α → Prop} (hm : ∀ g a, Q g a → R g a) : ∀ (p : Pr α) {gs : List Gt}, p.safe gs Q → p.safe gs R
  | .ret _, _, h => hm _ _ h
  | .and _ _ k, _, h => ⟨h.1, h.2.1, safe_mono hm (k _) h.2.2⟩
theorem safe_bind {α β : Type} {f : α → Pr β} {Q : List Gt → β → Prop} : ∀ (p : Pr α) {gs : List Gt}, p.safe gs (fun g a => (f a).safe g Q) → (p.bind f).safe gs Q
  | .ret _, _, h => h
  | .and _ _ k, _, h => ⟨h.1, h.2.1, safe_bind (k _) h.2.2⟩
end Pr
def andP (a b : Int) : Pr Int := .and a b .ret
def orP (a b : Int) : Pr Int := .and (notR a) (notR b) (fun r => .ret (notR r))
theorem run_andP (gs : List Gt) (a b : Int) : (andP a b).run gs = andC gs a b := rfl
theorem run_orP (gs : List Gt) (a b : Int) : (orP a b).run gs = orC gs a b := rfl
structure Grew (gs : List Gt) (n : Nat) (g : List Gt) : Prop where
  good : Good g
  pre : gs <+: g
  len : g.length ≤ gs.length + n
theorem Grew.refl {gs : List Gt} (h : Good gs) : Grew gs 0 gs := ⟨h, List.prefix_refl _, Nat.le_refl _⟩
theorem Grew.trans {gs g h : List Gt} {m n : Nat} (h1 : Grew gs m g) (h2 : Grew g n h) : Grew gs (m + n) h := ⟨h2.good, h1.pre.trans h2.pre, by have := h1.len; have := h2.len; omega⟩
theorem Grew.wide {gs g : List Gt} {m n : Nat} (h : Grew gs m g) (hm : m ≤ n) : Grew gs n g := ⟨h.good, h.pre, by have := h.len; omega⟩
theorem safe_andP {gs : List Gt} (h : Good gs) (hl : gs.length < 20000) {a b : Int} (ha : Ok gs a) (hb : Ok gs b) :
    (andP a b).safe gs (fun g r => Grew gs 1 g ∧ Ok g r ∧ ∀ values, valC g values r = (valC gs values a && valC gs values b)) :=
  ⟨ha, hb, ⟨(step_and h a b).good, (step_and h a b).pre, and_len a b⟩, and_ok h hl ha hb, fun _ => val_and h hl ha hb⟩
theorem safe_orP {gs : List Gt} (h : Good gs) (hl : gs.length < 20000) {a b : Int} (ha : Ok gs a) (hb : Ok gs b) :
    (orP a b).safe gs (fun g r => Grew gs 1 g ∧ Ok g r ∧ ∀ values, valC g values r = (valC gs values a || valC gs values b)) :=
  ⟨notR_ok ha, notR_ok hb, ⟨(step_or h a b).good, (step_or h a b).pre, or_len a b⟩, or_ok h hl ha hb, fun _ => val_or h hl ha hb⟩
def foldP {σ β : Type} (f : σ → β → Pr σ) : List β → σ → Pr σ
  | [], s => .ret s
  | x :: l, s => (f s x).bind (foldP f l)
theorem run_foldP_nil {σ β : Type} (f : σ → β → Pr σ) (s : σ) (gs : List Gt) : (foldP f [] s).run gs = (gs, s) := rfl
theorem run_foldP_cons {σ β : Type} (f : σ → β → Pr σ) (x : β) (l : List β) (s : σ) (gs : List Gt) : (foldP f (x :: l) s).run gs = (foldP f l ((f s x).run gs).2).run ((f s x).run gs).1 := Pr.run_bind _ _ _
theorem run_foldP_append {σ β : Type} (f : σ → β → Pr σ) : ∀ (l m : List β) (s : σ) (gs : List Gt), (foldP f (l ++ m) s).run gs = (foldP f m ((foldP f l s).run gs).2).run ((foldP f l s).run gs).1
  | [], _, _, _ => rfl
  | x :: l, m, s, gs => by rw [List.cons_append, run_foldP_cons, run_foldP_append f l m, run_foldP_cons]
theorem safe_foldP {σ β : Type} {f : σ → β → Pr σ} (I : List Gt → Nat → σ → Prop) : ∀ (l : List β) (k : Nat) (gs : List Gt) (s : σ), I gs k s → (∀ (j : Nat) (x : β) (g : List Gt) (t : σ), l[j]? = some x → I g (k + j) t → (f t x).safe g (fun g' t' => I g' (k + j + 1) t')) → (foldP f l s).safe gs (fun g t => I g (k + l.length) t)
  | [], _, _, _, h, _ => h
  | x :: l, k, gs, s, h, hs => by
    refine Pr.safe_bind _ (Pr.safe_mono (fun g a ha => ?_) _ (hs 0 x gs s rfl h))
    have := safe_foldP I l (k + 1) g a ha (fun j y g' t hj ht => by
      have := hs (j + 1) y g' t (by simpa using hj) (by rw [show k + (j + 1) = k + 1 + j by omega]; exact ht)
      rw [show k + (j + 1) + 1 = k + 1 + j + 1 by omega] at this
      exact this)
    rw [List.length_cons, show k + (l.length + 1) = k + 1 + l.length by omega]
    exact this
end Go.Proofs.YthdhmflodiincaaGreat

namespace Go.Proofs.YthdhmflodiincaaGreat

abbrev Cl := Int × Int
def atM (m : List Cl) (k : Int) : Int := ((m.find? fun c => c.1 == k).map (·.2)).getD 1
def keptM (m : List Cl) (k r : Int) : List Cl := if r = 1 then m else m ++ [(k, r)]
theorem atM_nil (k : Int) : atM [] k = 1 := rfl
theorem atM_mem {m : List Cl} {k : Int} : atM m k = 1 ∨ (k, atM m k) ∈ m := by
  unfold atM
  cases h : m.find? fun c => c.1 == k with
  | none => exact .inl rfl
  | some c =>
    have h1 := List.find?_some h
    have h2 := List.mem_of_find?_eq_some h
    have e : c.1 = k := by simpa using h1
    exact .inr (by subst e; exact h2)
theorem atM_not {m : List Cl} {k : Int} (h : ∀ c ∈ m, c.1 ≠ k) : atM m k = 1 := by
  unfold atM
  rw [List.find?_eq_none.2 (fun c hc => by simpa using h c hc)]
  rfl
theorem atM_snoc_old {m : List Cl} {k : Int} {x : Cl} (h : x.1 ≠ k) : atM (m ++ [x]) k = atM m k := by
  unfold atM
  rw [List.find?_append]
  cases m.find? fun c => c.1 == k with
  | none => simp [h]
  | some c => rfl
theorem atM_snoc_new {m : List Cl} {k r : Int} (h : ∀ c ∈ m, c.1 ≠ k) : atM (m ++ [(k, r)]) k = r := by
  unfold atM
  rw [List.find?_append, List.find?_eq_none.2 (fun c hc => by simpa using h c hc)]
  simp
theorem atM_ok {g : List Gt} (hG : Good g) {m : List Cl} (hm : ∀ c ∈ m, Ok g c.2) (k : Int) : Ok g (atM m k) := by
  rcases @atM_mem m k with h | h
  · rw [h]; have := hG.pos; unfold Ok; omega
  · exact hm _ h
def opP (f : Int → Pr Int) (L : List Int) : Pr (List Cl) := foldP (fun m k => (f k).bind fun r => .ret (keptM m k r)) L []
structure OpMade (gs g : List Gt) (n : Nat) (L : List Int) (F : List Bool → Int → Bool) (m : List Cl) : Prop where
  grew : Grew gs n g
  up : (m.map (·.1)).Sublist L
  ok : ∀ c ∈ m, Ok g c.2 ∧ c.2 ≠ 1
  val : ∀ v k, valC g v (atM m k) = (decide (k ∈ L) && F v k)
theorem opMade_step {gs g g' : List Gt} {n c : Nat} {L : List Int} {F : List Bool → Int → Bool} {m : List Cl} {k r : Int} (h : OpMade gs g n L F m) (hk : ∀ x ∈ L, x ≠ k) (hg : Grew g c g') (hr : Ok g' r) (hv : ∀ v, valC g' v r = F v k) : OpMade gs g' (n + c) (L ++ [k]) F (keptM m k r) := by
  have hne : ∀ x ∈ m, x.1 ≠ k := fun x hx => hk _ (h.up.mem (List.mem_map_of_mem hx))
  have hat : ∀ v j, valC g' v (atM m j) = valC g v (atM m j) := fun v j => val_grow hg.pre (atM_ok h.grew.good (fun x hx => (h.ok x hx).1) j)
  have hmem : ∀ j, j ≠ k → decide (j ∈ L ++ [k]) = decide (j ∈ L) := fun j hj => decide_eq_decide.2 (by simp [hj])
  have hkL : k ∉ L := fun hx => hk k hx rfl
  unfold keptM
  by_cases h1 : r = 1
  · rw [if_pos h1]
    subst h1
    refine ⟨h.grew.trans hg, h.up.trans (List.sublist_append_left _ _), fun x hx => ⟨?_, (h.ok x hx).2⟩, fun v j => ?_⟩
    · have := (h.ok x hx).1; have := hg.pre.length_le; unfold Ok at *; omega
    · by_cases hj : j = k
      · subst hj
        rw [atM_not hne, hv v]
        simp
      · rw [hat, h.val, hmem j hj]
  · rw [if_neg h1]
    refine ⟨h.grew.trans hg, by rw [List.map_append]; exact h.up.append (List.Sublist.refl _), fun x hx => ?_, fun v j => ?_⟩
    · rcases List.mem_append.1 hx with hx | hx
      · refine ⟨?_, (h.ok x hx).2⟩
        have := (h.ok x hx).1; have := hg.pre.length_le; unfold Ok at *; omega
      · rw [List.mem_singleton.1 hx]; exact ⟨hr, h1⟩
    · by_cases hj : j = k
      · subst hj
        rw [atM_snoc_new hne, hv v]
        simp
      · rw [atM_snoc_old (Ne.symm hj), hat, h.val, hmem j hj]
theorem safe_opP {f : Int → Pr Int} {F : List Bool → Int → Bool} {c : Nat} {gs : List Gt} (hG : Good gs) {L : List Int} (hL : L.Pairwise (· < ·))
    (hf : ∀ (g : List Gt) (j : Nat) (k : Int), L[j]? = some k → Grew gs (c * j) g → (f k).safe g (fun g' r => Grew g c g' ∧ Ok g' r ∧ ∀ v, valC g' v r = F v k)) :
    (opP f L).safe gs (fun g m => OpMade gs g (c * L.length) L F m) := by
  have h := safe_foldP (f := fun m k => (f k).bind fun r => .ret (keptM m k r)) (fun g j m => OpMade gs g (c * j) (L.take j) F m) L 0 gs []
    ⟨(Grew.refl hG).wide (Nat.zero_le _), by simp, fun x hx => by simp at hx, fun v k => by rw [atM_nil, val_false hG]; simp⟩
    (fun j k g m hj hm => by
      rw [Nat.zero_add] at hm ⊢
      refine Pr.safe_bind _ (Pr.safe_mono (fun g' r hh => ?_) _ (hf g j k hj hm.grew))
      obtain ⟨h1, h2, h3⟩ := hh
      have hk : ∀ x ∈ L.take j, x ≠ k := fun x hx => by
        obtain ⟨i, hi⟩ := List.mem_iff_getElem?.1 hx
        have hij : i < j := by
          have := (List.getElem?_eq_some_iff.1 hi).1
          rw [List.length_take] at this
          omega
        rw [List.getElem?_take_of_lt hij] at hi
        obtain ⟨li, ei⟩ := List.getElem?_eq_some_iff.1 hi
        obtain ⟨lj, ej⟩ := List.getElem?_eq_some_iff.1 hj
        have := List.pairwise_iff_getElem.1 hL i j li lj hij
        omega
      have h4 := opMade_step hm hk h1 h2 h3
      rw [Nat.mul_succ, List.take_add_one, hj]
      exact h4)
  rw [Nat.zero_add] at h
  exact Pr.safe_mono (fun g m hm => by rw [List.take_length] at hm; exact hm) _ h
end Go.Proofs.YthdhmflodiincaaGreat

namespace Go.Proofs.YthdhmflodiincaaGreat

def UpM (m : List Cl) : Prop := (m.map (·.1)).Pairwise (· < ·)
theorem upM_cons {x : Cl} {m : List Cl} : UpM (x :: m) ↔ (∀ c ∈ m, x.1 < c.1) ∧ UpM m := by
  unfold UpM
  rw [List.map_cons, List.pairwise_cons]
  exact ⟨fun h => ⟨fun c hc => h.1 _ (List.mem_map_of_mem hc), h.2⟩, fun h => ⟨fun k hk => by obtain ⟨c, hc, rfl⟩ := List.mem_map.1 hk; exact h.1 c hc, h.2⟩⟩
def rkF : Nat → List Cl → List Cl → List Int
  | 0, _, _ => []
  | _ + 1, [], [] => []
  | f + 1, x :: a, [] => x.1 :: rkF f a []
  | f + 1, [], y :: b => y.1 :: rkF f [] b
  | f + 1, x :: a, y :: b => if x.1 < y.1 then x.1 :: rkF f a (y :: b) else if y.1 < x.1 then y.1 :: rkF f (x :: a) b else x.1 :: rkF f a b
def rk (a b : List Cl) : List Int := rkF (a.length + b.length) a b
theorem rk_spec : ∀ (f : Nat) (a b : List Cl), a.length + b.length ≤ f → UpM a → UpM b → (rkF f a b).Pairwise (· < ·) ∧ ∀ k, k ∈ rkF f a b ↔ (∃ c ∈ a, c.1 = k) ∨ ∃ c ∈ b, c.1 = k
  | 0, a, b, h, _, _ => by
    obtain rfl : a = [] := List.eq_nil_of_length_eq_zero (by omega)
    obtain rfl : b = [] := List.eq_nil_of_length_eq_zero (by omega)
    simp [rkF]
  | f + 1, [], [], _, _, _ => by simp [rkF]
  | f + 1, x :: a, [], h, ha, hb => by
    obtain ⟨h1, h2⟩ := upM_cons.1 ha
    obtain ⟨p, q⟩ := rk_spec f a [] (by simp at h ⊢; omega) h2 hb
    refine ⟨List.pairwise_cons.2 ⟨fun k hk => ?_, p⟩, fun k => ?_⟩
    · rcases (q k).1 hk with ⟨c, hc, rfl⟩ | ⟨c, hc, _⟩
      · exact h1 c hc
      · cases hc
    · show k ∈ x.1 :: rkF f a [] ↔ _
      rw [List.mem_cons, q k]
      simp only [List.mem_cons, exists_eq_or_imp, List.not_mem_nil, false_and, exists_false, or_false]
      exact or_congr_left eq_comm
  | f + 1, [], y :: b, h, ha, hb => by
    obtain ⟨h1, h2⟩ := upM_cons.1 hb
    obtain ⟨p, q⟩ := rk_spec f [] b (by simp at h ⊢; omega) ha h2
    refine ⟨List.pairwise_cons.2 ⟨fun k hk => ?_, p⟩, fun k => ?_⟩
    · rcases (q k).1 hk with ⟨c, hc, _⟩ | ⟨c, hc, rfl⟩
      · cases hc
      · exact h1 c hc
    · show k ∈ y.1 :: rkF f [] b ↔ _
      rw [List.mem_cons, q k]
      simp only [List.mem_cons, exists_eq_or_imp, List.not_mem_nil, false_and, exists_false, false_or]
      exact or_congr_left eq_comm
  | f + 1, x :: a, y :: b, h, ha, hb => by
    obtain ⟨h1, h2⟩ := upM_cons.1 ha
    obtain ⟨h3, h4⟩ := upM_cons.1 hb
    unfold rkF
    by_cases hxy : x.1 < y.1
    · rw [if_pos hxy]
      obtain ⟨p, q⟩ := rk_spec f a (y :: b) (by simp at h ⊢; omega) h2 hb
      refine ⟨List.pairwise_cons.2 ⟨fun k hk => ?_, p⟩, fun k => ?_⟩
      · rcases (q k).1 hk with ⟨c, hc, rfl⟩ | ⟨c, hc, rfl⟩
        · exact h1 c hc
        · rcases List.mem_cons.1 hc with rfl | hc
          · exact hxy
          · exact Int.lt_trans hxy (h3 c hc)
      · rw [List.mem_cons, q k]
        simp only [List.mem_cons, exists_eq_or_imp, or_assoc]
        exact or_congr_left eq_comm
    · rw [if_neg hxy]
      by_cases hyx : y.1 < x.1
      · rw [if_pos hyx]
        obtain ⟨p, q⟩ := rk_spec f (x :: a) b (by simp at h ⊢; omega) ha h4
        refine ⟨List.pairwise_cons.2 ⟨fun k hk => ?_, p⟩, fun k => ?_⟩
        · rcases (q k).1 hk with ⟨c, hc, rfl⟩ | ⟨c, hc, rfl⟩
          · rcases List.mem_cons.1 hc with rfl | hc
            · exact hyx
            · exact Int.lt_trans hyx (h1 c hc)
          · exact h3 c hc
        · rw [List.mem_cons, q k]
          simp only [List.mem_cons, exists_eq_or_imp]
          rw [or_left_comm]
          exact or_congr_right (or_congr_left eq_comm)
      · rw [if_neg hyx]
        have e : x.1 = y.1 := by omega
        obtain ⟨p, q⟩ := rk_spec f a b (by simp at h ⊢; omega) h2 h4
        refine ⟨List.pairwise_cons.2 ⟨fun k hk => ?_, p⟩, fun k => ?_⟩
        · rcases (q k).1 hk with ⟨c, hc, rfl⟩ | ⟨c, hc, rfl⟩
          · exact h1 c hc
          · rw [e]; exact h3 c hc
        · rw [List.mem_cons, q k]
          simp only [List.mem_cons, exists_eq_or_imp]
          rw [← e]
          constructor
          · rintro (rfl | h | h)
            · exact .inl (.inl rfl)
            · exact .inl (.inr h)
            · exact .inr (.inr h)
          · rintro ((h | h) | (h | h))
            · exact .inl h.symm
            · exact .inr (.inl h)
            · exact .inl h.symm
            · exact .inr (.inr h)
theorem rk_len : ∀ (f : Nat) (a b : List Cl), (rkF f a b).length ≤ a.length + b.length
  | 0, _, _ => by simp [rkF]
  | _ + 1, [], [] => by simp [rkF]
  | f + 1, x :: a, [] => by have := rk_len f a []; simp [rkF] at this ⊢; omega
  | f + 1, [], y :: b => by have := rk_len f [] b; simp [rkF] at this ⊢; omega
  | f + 1, x :: a, y :: b => by
    unfold rkF
    have h1 := rk_len f a (y :: b)
    have h2 := rk_len f (x :: a) b
    have h3 := rk_len f a b
    split
    · simp at h1 ⊢; omega
    · split
      · simp at h2 ⊢; omega
      · simp at h3 ⊢; omega
def Mat (g : List Gt) (m : List Cl) : Prop := UpM m ∧ ∀ c ∈ m, Ok g c.2 ∧ c.2 ≠ 1
theorem Mat.at_ok {g : List Gt} {m : List Cl} (h : Mat g m) (hG : Good g) (k : Int) : Ok g (atM m k) := atM_ok hG (fun c hc => (h.2 c hc).1) k
theorem Mat.grow {g g' : List Gt} {m : List Cl} (h : Mat g m) (hp : g <+: g') : Mat g' m := ⟨h.1, fun c hc => ⟨by have := (h.2 c hc).1; have := hp.length_le; unfold Ok at *; omega, (h.2 c hc).2⟩⟩
theorem OpMade.mat {gs g : List Gt} {n : Nat} {L : List Int} {F : List Bool → Int → Bool} {m : List Cl} (h : OpMade gs g n L F m) (hL : L.Pairwise (· < ·)) : Mat g m := ⟨hL.sublist h.up, h.ok⟩
def inM (m : List Cl) (k : Int) : Bool := m.any fun c => c.1 == k
theorem inM_not {m : List Cl} {k : Int} (h : inM m k = false) : atM m k = 1 := atM_not fun c hc e => by
  have := List.any_eq_false.1 h c hc
  simp [e] at this
def hasV (g : List Gt) (v : List Bool) (m : List Cl) (k : Int) : Bool := valC g v (atM m k)
theorem has_grow {gs g : List Gt} (hp : gs <+: g) (hG : Good gs) {m : List Cl} (h : Mat gs m) (v : List Bool) (k : Int) : hasV g v m k = hasV gs v m k := val_grow hp (h.at_ok hG k)
theorem has_not {g : List Gt} (hG : Good g) {m : List Cl} {k : Int} (h : inM m k = false) (v : List Bool) : hasV g v m k = false := by unfold hasV; rw [inM_not h]; exact val_false hG v
def unionF (a b : List Cl) (k : Int) : Pr Int := if inM a k = true then (if inM b k = true then orP (atM a k) (atM b k) else .ret (atM a k)) else .ret (atM b k)
def munionP (a b : List Cl) : Pr (List Cl) := opP (unionF a b) (rk a b)
section
variable {gs g : List Gt} {a b : List Cl} {k : Int}
theorem safe_ret {F : List Bool → Bool} {c : Nat} {r : Int} (hG : Good g) (hr : Ok g r) (hv : ∀ v, valC g v r = F v) : (Pr.ret r).safe g (fun g' r => Grew g c g' ∧ Ok g' r ∧ ∀ v, valC g' v r = F v) := ⟨(Grew.refl hG).wide (Nat.zero_le _), hr, hv⟩
theorem safe_unionF (hG : Good gs) (ha : Mat gs a) (hb : Mat gs b) (hg : Good g) (hp : gs <+: g) (hl : g.length < 20000) : (unionF a b k).safe g (fun g' r => Grew g 1 g' ∧ Ok g' r ∧ ∀ v, valC g' v r = (hasV gs v a k || hasV gs v b k)) := by
  have oa := (ha.grow hp).at_ok hg k
  have ob := (hb.grow hp).at_ok hg k
  have ea := fun v => has_grow hp hG ha v k
  have eb := fun v => has_grow hp hG hb v k
  unfold unionF
  by_cases h1 : inM a k = true
  · rw [if_pos h1]
    by_cases h2 : inM b k = true
    · rw [if_pos h2]
      exact Pr.safe_mono (fun g' r h => ⟨h.1, h.2.1, fun v => by rw [h.2.2 v, ← ea, ← eb]; rfl⟩) _ (safe_orP hg hl oa ob)
    · rw [if_neg h2]
      exact safe_ret hg oa fun v => by rw [has_not (m := b) hG (by simpa using h2), Bool.or_false, ← ea]; rfl
  · rw [if_neg h1]
    exact safe_ret hg ob fun v => by rw [has_not (m := a) hG (by simpa using h1), Bool.false_or, ← eb]; rfl
theorem safe_rkP {f : Int → Pr Int} {F : List Bool → Int → Bool} (hG : Good gs) (ha : Mat gs a) (hb : Mat gs b) (hl : gs.length + (a.length + b.length) ≤ 19900)
    (hf : ∀ g k, Good g → gs <+: g → g.length < 20000 → (f k).safe g (fun g' r => Grew g 1 g' ∧ Ok g' r ∧ ∀ v, valC g' v r = F v k)) :
    (opP f (rk a b)).safe gs (fun g m => OpMade gs g (a.length + b.length) (rk a b) F m) := by
  have hr := rk_len (a.length + b.length) a b
  have hs := (rk_spec (a.length + b.length) a b (Nat.le_refl _) ha.1 hb.1).1
  refine Pr.safe_mono (fun g m h => ⟨h.grew.wide (by unfold rk; omega), h.up, h.ok, h.val⟩) _ (safe_opP (c := 1) hG hs (fun g j k hj hg => hf g k hg.good hg.pre ?_))
  have h1 := (List.getElem?_eq_some_iff.1 hj).1
  have h2 := hg.len
  unfold rk at h1
  omega
theorem safe_munionP (hG : Good gs) (ha : Mat gs a) (hb : Mat gs b) (hl : gs.length + (a.length + b.length) ≤ 19900) : (munionP a b).safe gs (fun g m => OpMade gs g (a.length + b.length) (rk a b) (fun v k => hasV gs v a k || hasV gs v b k) m) :=
  safe_rkP hG ha hb hl fun _ _ hg hp h => safe_unionF hG ha hb hg hp h
end
def valL (g : List Gt) (v : List Bool) (m : List Cl) : List Int := (m.filter fun c => valC g v c.2).map (·.1)
theorem val_up {g : List Gt} {m : List Cl} (h : UpM m) (v : List Bool) : (valL g v m).Pairwise (· < ·) := List.Pairwise.sublist (List.filter_sublist.map _) h
theorem at_of_mem {m : List Cl} (h : UpM m) {c : Cl} (hc : c ∈ m) : atM m c.1 = c.2 := by
  induction m with
  | nil => cases hc
  | cons x m ih =>
    obtain ⟨h1, h2⟩ := upM_cons.1 h
    unfold atM
    rcases List.mem_cons.1 hc with rfl | hc
    · simp
    · have := h1 c hc
      rw [List.find?_cons_of_neg (by simp; omega)]
      exact ih h2 hc
theorem mem_valL {g : List Gt} (hG : Good g) {m : List Cl} (h : UpM m) (v : List Bool) (k : Int) : k ∈ valL g v m ↔ hasV g v m k = true := by
  unfold valL hasV
  constructor
  · intro hk
    obtain ⟨c, hc, rfl⟩ := List.mem_map.1 hk
    obtain ⟨h1, h2⟩ := List.mem_filter.1 hc
    rw [at_of_mem h h1]; exact h2
  · intro hk
    rcases @atM_mem m k with h1 | h1
    · rw [h1, val_false hG] at hk; cases hk
    · exact List.mem_map.2 ⟨_, List.mem_filter.2 ⟨h1, hk⟩, rfl⟩
theorem sorted_ext : ∀ {l m : List Int}, l.Pairwise (· < ·) → m.Pairwise (· < ·) → (∀ k, k ∈ l ↔ k ∈ m) → l = m
  | [], [], _, _, _ => rfl
  | [], y :: m, _, _, h => by have := (h y).2 (by simp); cases this
  | x :: l, [], _, _, h => by have := (h x).1 (by simp); cases this
  | x :: l, y :: m, hl, hm, h => by
    obtain ⟨l1, l2⟩ := List.pairwise_cons.1 hl
    obtain ⟨m1, m2⟩ := List.pairwise_cons.1 hm
    have e : x = y := by
      rcases List.mem_cons.1 ((h x).1 (by simp)) with h1 | h1
      · exact h1
      · rcases List.mem_cons.1 ((h y).2 (by simp)) with h2 | h2
        · exact h2.symm
        · have := m1 x h1; have := l1 y h2; omega
    subst e
    rw [sorted_ext l2 m2 (fun k => ?_)]
    constructor
    · intro hk
      rcases List.mem_cons.1 ((h k).1 (List.mem_cons_of_mem _ hk)) with h1 | h1
      · subst h1; have := l1 _ hk; omega
      · exact h1
    · intro hk
      rcases List.mem_cons.1 ((h k).2 (List.mem_cons_of_mem _ hk)) with h1 | h1
      · subst h1; have := m1 _ hk; omega
      · exact h1
end Go.Proofs.YthdhmflodiincaaGreat

namespace Go.Proofs.YthdhmflodiincaaGreat

theorem safe_accP {β : Type} {f : Int → β → Pr Int} {st : List Bool → Bool → β → Bool} {c : Nat} {gs : List Gt} (hG : Good gs) (L : List β) {r0 : Int} (h0 : Ok gs r0)
    (hf : ∀ (g : List Gt) (j : Nat) (x : β) (r : Int), L[j]? = some x → Grew gs (c * j) g → Ok g r → (f r x).safe g (fun g' r' => Grew g c g' ∧ Ok g' r' ∧ ∀ v, valC g' v r' = st v (valC g v r) x)) :
    (foldP f L r0).safe gs (fun g r => Grew gs (c * L.length) g ∧ Ok g r ∧ ∀ v, valC g v r = L.foldl (st v) (valC gs v r0)) := by
  have h := safe_foldP (f := f) (fun g j r => Grew gs (c * j) g ∧ Ok g r ∧ ∀ v, valC g v r = (L.take j).foldl (st v) (valC gs v r0)) L 0 gs r0
    ⟨(Grew.refl hG).wide (Nat.zero_le _), h0, fun v => by simp⟩
    (fun j x g r hj hr => by
      rw [Nat.zero_add] at hr ⊢
      obtain ⟨h1, h2, h3⟩ := hr
      refine Pr.safe_mono (fun g' r' hh => ?_) _ (hf g j x r hj h1 h2)
      obtain ⟨e1, e2, e3⟩ := hh
      refine ⟨by rw [Nat.mul_succ]; exact h1.trans e1, e2, fun v => ?_⟩
      rw [e3 v, h3 v, List.take_add_one, hj, List.foldl_append]
      rfl)
  rw [Nat.zero_add] at h
  exact Pr.safe_mono (fun g m hm => by rw [List.take_length] at hm; exact hm) _ h
theorem foldl_and {β : Type} (p : β → Bool) : ∀ (L : List β) (b : Bool), L.foldl (fun b x => b && p x) b = (b && L.all p)
  | [], b => by simp
  | x :: L, b => by rw [List.foldl_cons, foldl_and p L, List.all_cons, Bool.and_assoc]
section
variable {gs g : List Gt} {a b : List Cl} {k : Int}
end
end Go.Proofs.YthdhmflodiincaaGreat

namespace Go.Proofs.YthdhmflodiincaaGreat

def ranksTo (n : Nat) : List Int := (List.range n).map fun (i : Nat) => (i : Int)
theorem ranksTo_up (n : Nat) : (ranksTo n).Pairwise (· < ·) := by
  unfold ranksTo
  rw [List.pairwise_map]
  exact List.pairwise_lt_range.imp fun h => by omega
theorem mem_ranksTo {n : Nat} {k : Int} : k ∈ ranksTo n ↔ 0 ≤ k ∧ k < (n : Int) := by
  unfold ranksTo
  rw [List.mem_map]
  constructor
  · rintro ⟨i, hi, rfl⟩
    have := List.mem_range.1 hi
    omega
  · intro h
    exact ⟨k.toNat, List.mem_range.2 (by omega), by omega⟩
def ofTab (t : Int → Int) (L : List Int) : Pr (List Cl) := opP (fun k => .ret (t k)) L
theorem safe_ofTab {t : Int → Int} {g : List Gt} (hG : Good g) {L : List Int} (hL : L.Pairwise (· < ·)) (ht : ∀ k, Ok g (t k)) : (ofTab t L).safe g (fun g' m => OpMade g g' 0 L (fun v k => valC g v (t k)) m) := by
  have h := safe_opP (f := fun k => .ret (t k)) (F := fun v k => valC g v (t k)) (c := 0) hG hL (fun g' j k _ hg => ⟨(Grew.refl hg.good), by have := ht k; have := hg.pre.length_le; unfold Ok at *; omega, fun v => val_grow hg.pre (ht k)⟩)
  rw [Nat.zero_mul] at h
  exact h
def jr (n rest : Int) (p : Cl × Cl) : Int := p.1.1 / n * rest + p.2.1 % rest
def jF (n rest : Int) (s : Int → Int) (p : Cl × Cl) : Pr (Int → Int) := (andP p.1.2 p.2.2).bind fun t => (orP (s (jr n rest p)) t).bind fun r => .ret fun k => if k = jr n rest p then r else s k
def allPairs (a b : List Cl) : List (Cl × Cl) := a.flatMap fun x => b.map fun y => (x, y)
theorem mem_pairs {a b : List Cl} {p : Cl × Cl} : p ∈ allPairs a b ↔ p.1 ∈ a ∧ p.2 ∈ b := by
  unfold allPairs
  simp only [List.mem_flatMap, List.mem_map]
  constructor
  · rintro ⟨x, hx, y, hy, rfl⟩; exact ⟨hx, hy⟩
  · intro h; exact ⟨_, h.1, _, h.2, rfl⟩
def jPairs (n rest : Int) (a b : List Cl) : List (Cl × Cl) := (allPairs a b).filter fun p => p.1.1 % n == p.2.1 / rest
def mjoinP (n rest : Int) (total : Nat) (a b : List Cl) : Pr (List Cl) := (foldP (jF n rest) (jPairs n rest a b) fun _ => 1).bind fun t => ofTab t (ranksTo total)
section
variable {gs : List Gt} {a b : List Cl}
theorem safe_jF {g : List Gt} {n rest : Int} {s : Int → Int} {p : Cl × Cl} (hg : Good g) (hl : g.length < 19990) (hs : ∀ k, Ok g (s k)) (h1 : Ok g p.1.2) (h2 : Ok g p.2.2) :
    (jF n rest s p).safe g (fun g' s' => Grew g 2 g' ∧ (∀ k, Ok g' (s' k)) ∧ ∀ v k, valC g' v (s' k) = (valC g v (s k) || (decide (jr n rest p = k) && (valC g v p.1.2 && valC g v p.2.2)))) := by
  unfold jF
  refine Pr.safe_bind _ (Pr.safe_mono (fun g1 t ht => ?_) _ (safe_andP hg (by omega) h1 h2))
  obtain ⟨t1, t2, t3⟩ := ht
  have l1 := t1.len
  have p1 := t1.pre.length_le
  have hs1 : ∀ k, Ok g1 (s k) := fun k => by have := hs k; unfold Ok at *; omega
  refine Pr.safe_bind _ (Pr.safe_mono (fun g2 r hr => ?_) _ (safe_orP t1.good (by omega) (hs1 (jr n rest p)) t2))
  obtain ⟨r1, r2, r3⟩ := hr
  have p2 := r1.pre.length_le
  refine ⟨t1.trans r1, fun k => ?_, fun v k => ?_⟩
  · show Ok g2 (if k = jr n rest p then r else s k)
    split
    · exact r2
    · have := hs1 k; unfold Ok at *; omega
  · show valC g2 v (if k = jr n rest p then r else s k) = _
    by_cases hk : k = jr n rest p
    · rw [if_pos hk, r3 v, t3 v, val_grow t1.pre (hs _), ← hk, decide_eq_true rfl, Bool.true_and]
    · rw [if_neg hk, decide_eq_false (Ne.symm hk), Bool.false_and, Bool.or_false]
      exact val_grow (t1.pre.trans r1.pre) (hs k)
end
end Go.Proofs.YthdhmflodiincaaGreat

namespace Go.Proofs.YthdhmflodiincaaGreat

theorem two_same : ∀ (n : Nat) (v : Nat → Nat), (∀ i, i ≤ n → v i < n) → ∃ i j, i < j ∧ j ≤ n ∧ v i = v j
  | 0, v, h => absurd (h 0 (Nat.le_refl _)) (by omega)
  | n + 1, v, h => by
    by_cases hq : ∃ i, i ≤ n ∧ v i = v (n + 1)
    · obtain ⟨i, hi, e⟩ := hq
      exact ⟨i, n + 1, by omega, Nat.le_refl _, e⟩
    · obtain ⟨i, j, hij, hj, e⟩ := two_same n (fun i => if v i = n then v (n + 1) else v i) (fun i hi => by
        have h1 := h i (by omega)
        have h2 := h (n + 1) (Nat.le_refl _)
        have h3 : v i ≠ v (n + 1) := fun e => hq ⟨i, hi, e⟩
        show (if v i = n then v (n + 1) else v i) < n
        split <;> omega)
      have hi3 : v i ≠ v (n + 1) := fun e => hq ⟨i, by omega, e⟩
      have hj3 : v j ≠ v (n + 1) := fun e => hq ⟨j, hj, e⟩
      refine ⟨i, j, hij, by omega, ?_⟩
      split at e <;> split at e <;> omega
def Way (R : Nat → Nat → Prop) (n k x y : Nat) : Prop := ∃ (m : Nat) (v : Nat → Nat), 1 ≤ m ∧ m ≤ k ∧ v 0 = x ∧ v m = y ∧ (∀ i, i ≤ m → v i < n) ∧ ∀ i, i < m → R (v i) (v (i + 1))
section
variable {R : Nat → Nat → Prop} {n k x y : Nat}
theorem Way.wide {j : Nat} (h : Way R n k x y) (hj : k ≤ j) : Way R n j x y := by
  obtain ⟨m, v, h1, h2, h3⟩ := h
  exact ⟨m, v, h1, by omega, h3⟩
theorem way_one (hx : x < n) (hy : y < n) : Way R n 1 x y ↔ R x y := by
  constructor
  · rintro ⟨m, v, h1, h2, h3, h4, h5, h6⟩
    obtain rfl : m = 1 := by omega
    have := h6 0 (by omega)
    rwa [h3, h4] at this
  · intro h
    refine ⟨1, fun i => if i = 0 then x else y, Nat.le_refl _, Nat.le_refl _, rfl, rfl, fun i _ => ?_, fun i hi => ?_⟩
    · show (if i = 0 then x else y) < n
      split <;> assumption
    · obtain rfl : i = 0 := by omega
      exact h
theorem Way.join {j z : Nat} (h : Way R n j x z) (h2 : Way R n k z y) : Way R n (j + k) x y := by
  obtain ⟨m, v, a1, a2, a3, a4, a5, a6⟩ := h
  obtain ⟨p, u, b1, b2, b3, b4, b5, b6⟩ := h2
  refine ⟨m + p, fun i => if i ≤ m then v i else u (i - m), by omega, by omega, by simp [a3], ?_, fun i hi => ?_, fun i hi => ?_⟩
  · show (if m + p ≤ m then v (m + p) else u (m + p - m)) = y
    rw [if_neg (by omega), show m + p - m = p by omega, b4]
  · show (if i ≤ m then v i else u (i - m)) < n
    split
    · exact a5 i (by omega)
    · exact b5 _ (by omega)
  · show R (if i ≤ m then v i else u (i - m)) (if i + 1 ≤ m then v (i + 1) else u (i + 1 - m))
    by_cases h1 : i + 1 ≤ m
    · rw [if_pos (by omega), if_pos h1]; exact a6 i (by omega)
    · rw [if_neg h1]
      by_cases h2 : i ≤ m
      · have e : i = m := by omega
        subst e
        rw [if_pos h2, a4, ← b3, show i + 1 - i = 0 + 1 by omega]
        exact b6 0 (by omega)
      · rw [if_neg h2, show i + 1 - m = (i - m) + 1 by omega]
        exact b6 _ (by omega)
theorem Way.split (h : Way R n k x y) (j : Nat) (hj : 1 ≤ j) : Way R n j x y ∨ ∃ z, z < n ∧ Way R n j x z ∧ Way R n (k - j) z y := by
  obtain ⟨m, v, h1, h2, h3, h4, h5, h6⟩ := h
  by_cases hm : m ≤ j
  · exact .inl ⟨m, v, h1, hm, h3, h4, h5, h6⟩
  · refine .inr ⟨v j, h5 j (by omega), ⟨j, v, hj, Nat.le_refl _, h3, rfl, fun i hi => h5 i (by omega), fun i hi => h6 i (by omega)⟩, ⟨m - j, fun i => v (j + i), by omega, by omega, rfl, ?_, fun i hi => h5 _ (by omega), fun i hi => h6 (j + i) (by omega)⟩⟩
    show v (j + (m - j)) = y
    rw [show j + (m - j) = m by omega, h4]
theorem way_double (hk : 1 ≤ k) : Way R n (2 * k) x y ↔ Way R n k x y ∨ ∃ z, z < n ∧ Way R n k x z ∧ Way R n k z y := by
  constructor
  · intro h
    have := h.split k hk
    rwa [show 2 * k - k = k by omega] at this
  · rintro (h | ⟨z, _, h1, h2⟩)
    · exact h.wide (by omega)
    · have := h1.join h2
      rwa [show k + k = 2 * k by omega] at this
theorem way_step (hk : 1 ≤ k) (hx : x < n) (hy : y < n) : Way R n (k + 1) x y ↔ R x y ∨ ∃ z, z < n ∧ Way R n k x z ∧ R z y := by
  constructor
  · intro h
    obtain ⟨m, v, h1, h2, h3, h4, h5, h6⟩ := h
    by_cases hm : m = 1
    · subst hm
      have := h6 0 (by omega)
      rw [h3, h4] at this
      exact .inl this
    · refine .inr ⟨v (m - 1), h5 _ (by omega), ⟨m - 1, v, by omega, by omega, h3, rfl, fun i hi => h5 i (by omega), fun i hi => h6 i (by omega)⟩, ?_⟩
      have := h6 (m - 1) (by omega)
      rwa [show m - 1 + 1 = m by omega, h4] at this
  · rintro (h | ⟨z, hz, h1, h2⟩)
    · exact ((way_one hx hy).2 h).wide (by omega)
    · exact h1.join ((way_one hz hy).2 h2)
theorem way_short : ∀ (m : Nat) {x y : Nat} (v : Nat → Nat), 1 ≤ m → v 0 = x → v m = y → (∀ i, i ≤ m → v i < n) → (∀ i, i < m → R (v i) (v (i + 1))) → Way R n n x y := by
  intro m
  induction m using Nat.strongRecOn with
  | _ m ih =>
    intro x y v h1 h3 h4 h5 h6
    by_cases hm : m ≤ n
    · exact ⟨m, v, h1, hm, h3, h4, h5, h6⟩
    · obtain ⟨i, j, hij, hj, e⟩ := two_same n (fun i => v (i + 1)) (fun i hi => h5 _ (by omega))
      have e' : v (i + 1) = v (j + 1) := e
      refine ih (m - (j - i)) (by omega) (fun q => if q ≤ i + 1 then v q else v (q + (j - i))) (by omega) (by simp [h3]) ?_ (fun q hq => ?_) (fun q hq => ?_)
      · show (if m - (j - i) ≤ i + 1 then v (m - (j - i)) else v (m - (j - i) + (j - i))) = y
        by_cases h : m - (j - i) ≤ i + 1
        · rw [if_pos h, show m - (j - i) = i + 1 by omega, e', show j + 1 = m by omega, h4]
        · rw [if_neg h, show m - (j - i) + (j - i) = m by omega, h4]
      · show (if q ≤ i + 1 then v q else v (q + (j - i))) < n
        split
        · exact h5 _ (by omega)
        · exact h5 _ (by omega)
      · show R (if q ≤ i + 1 then v q else v (q + (j - i))) (if q + 1 ≤ i + 1 then v (q + 1) else v (q + 1 + (j - i)))
        by_cases h7 : q + 1 ≤ i + 1
        · rw [if_pos (by omega), if_pos h7]; exact h6 _ (by omega)
        · rw [if_neg h7]
          by_cases h8 : q ≤ i + 1
          · have eq : q = i + 1 := by omega
            subst eq
            rw [if_pos h8, e', show i + 1 + 1 + (j - i) = (j + 1) + 1 by omega]
            exact h6 _ (by omega)
          · rw [if_neg h8, show q + 1 + (j - i) = (q + (j - i)) + 1 by omega]
            exact h6 _ (by omega)
theorem Way.short (h : Way R n k x y) : Way R n n x y := by
  obtain ⟨m, v, h1, _, h3, h4, h5, h6⟩ := h
  exact way_short m v h1 h3 h4 h5 h6
theorem Way.trans {z j : Nat} (hn : n ≤ j) (h : Way R n k x z) (h2 : Way R n k z y) : Way R n j x y := (h.join h2).short.wide hn
end
theorem join_val {gs : List Gt} {a b : List Cl} {n : Nat} (hG : Good gs) (ha : Mat gs a) (hb : Mat gs b) (ra : ∀ c ∈ a, 0 ≤ c.1 ∧ c.1 < (n : Int) * n) (rb : ∀ c ∈ b, 0 ≤ c.1 ∧ c.1 < (n : Int) * n) (v : List Bool) {x y : Nat} (_hx : x < n) (hy : y < n) :
    ((jPairs n n a b).any fun p => decide (jr n n p = (x : Int) * n + y) && (valC gs v p.1.2 && valC gs v p.2.2)) = true ↔ ∃ z : Nat, z < n ∧ hasV gs v a ((x : Int) * n + z) = true ∧ hasV gs v b ((z : Int) * n + y) = true := by
  have hn : (0 : Int) < n := by omega
  have hdiv : ∀ (p q : Nat), q < n → ((p : Int) * n + q) / n = p ∧ ((p : Int) * n + q) % n = q := fun p q hq => by
    have e1 : ((p : Int) * n + q) / n = p := by rw [Int.add_comm, Int.add_mul_ediv_right _ _ (by omega), Int.ediv_eq_zero_of_lt (by omega) (by omega), Int.zero_add]
    have e2 : ((p : Int) * n + q) % n = q := by rw [Int.add_comm, Int.add_mul_emod_self_right]; exact Int.emod_eq_of_lt (by omega) (by omega)
    exact ⟨e1, e2⟩
  rw [List.any_eq_true]
  constructor
  · rintro ⟨p, hp, h⟩
    obtain ⟨h1, h2⟩ := List.mem_filter.1 hp
    obtain ⟨pa, pb⟩ := mem_pairs.1 h1
    rw [Bool.and_eq_true, Bool.and_eq_true, decide_eq_true_eq] at h
    obtain ⟨h3, h4, h5⟩ := h
    have h2' : p.1.1 % (n : Int) = p.2.1 / (n : Int) := by simpa using h2
    have ra1 := ra _ pa
    have rb1 := rb _ pb
    have m0 := Int.emod_nonneg p.1.1 (show (n : Int) ≠ 0 by omega)
    have m1 := Int.emod_lt_of_pos p.1.1 hn
    have n0 := Int.emod_nonneg p.2.1 (show (n : Int) ≠ 0 by omega)
    have n1 := Int.emod_lt_of_pos p.2.1 hn
    have d0 := Int.ediv_nonneg ra1.1 (show (0 : Int) ≤ n by omega)
    obtain ⟨z, hz⟩ : ∃ z : Nat, p.1.1 % (n : Int) = (z : Int) := ⟨(p.1.1 % (n : Int)).toNat, by omega⟩
    obtain ⟨u, hu⟩ : ∃ u : Nat, p.1.1 / (n : Int) = (u : Int) := ⟨(p.1.1 / (n : Int)).toNat, by omega⟩
    obtain ⟨t, ht⟩ : ∃ t : Nat, p.2.1 % (n : Int) = (t : Int) := ⟨(p.2.1 % (n : Int)).toNat, by omega⟩
    have e1 : p.1.1 = (u : Int) * n + z := by have := Int.mul_ediv_add_emod p.1.1 (n : Int); rw [hu, hz, Int.mul_comm] at this; exact this.symm
    have e2 : p.2.1 = (z : Int) * n + t := by have := Int.mul_ediv_add_emod p.2.1 (n : Int); rw [← h2', hz, ht, Int.mul_comm] at this; exact this.symm
    unfold jr at h3
    rw [hu, ht] at h3
    have q1 := hdiv u t (by omega)
    have q2 := hdiv x y hy
    rw [h3] at q1
    have eu : (u : Int) = x := by rw [← q1.1, q2.1]
    have et : (t : Int) = y := by rw [← q1.2, q2.2]
    refine ⟨z, by omega, ?_, ?_⟩
    · rw [← eu, ← e1]; unfold hasV; rw [at_of_mem ha.1 pa]; exact h4
    · rw [← et, ← e2]; unfold hasV; rw [at_of_mem hb.1 pb]; exact h5
  · rintro ⟨z, hz, h1, h2⟩
    have m1 : ((x : Int) * n + z, atM a ((x : Int) * n + z)) ∈ a := by
      rcases @atM_mem a ((x : Int) * n + z) with h | h
      · unfold hasV at h1; rw [h, val_false hG] at h1; cases h1
      · exact h
    have m2 : ((z : Int) * n + y, atM b ((z : Int) * n + y)) ∈ b := by
      rcases @atM_mem b ((z : Int) * n + y) with h | h
      · unfold hasV at h2; rw [h, val_false hG] at h2; cases h2
      · exact h
    refine ⟨((_, _), (_, _)), List.mem_filter.2 ⟨mem_pairs.2 ⟨m1, m2⟩, ?_⟩, ?_⟩
    · simp only [(hdiv x z hz).2, (hdiv z y hy).1, beq_self_eq_true]
    · unfold jr
      simp only [(hdiv x z hz).1, (hdiv z y hy).2, Bool.and_eq_true, decide_eq_true_eq]
      exact ⟨trivial, h1, h2⟩
end Go.Proofs.YthdhmflodiincaaGreat
