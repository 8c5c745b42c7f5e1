/- Texts of the proof: M6 M7 N1 KA KB KC KD KE KF KG KH. -/
import Derived.Test.YthdhmflodiincaaCD07
import Derived.Test.YthdhmflodiincaaCD00
import Derived.Test.YthdhmflodiincaaCD05
import Derived.Deep.DeepCutAuto
import Derived.Test.YthdhmflodiincaaCD01
set_option maxRecDepth 100000
set_option maxHeartbeats 8000000
namespace Go.Proofs.Ythdhmflodiincaa
open Lib (hid)
open Go.RowKit Go.Maps
set_option maxRecDepth 100000

def GX (p : Nat) (M : Nat → Prop) (w : World) (gs : List Gt) (hi : Int) : Prop :=
 ∃ owned va vc mb vis, Grw p w owned va vc gs mb vis ∧ (0 ≤ vis ∧ vis ≤ hi) ∧ ∀ k, mine p owned va mb k → M k
def PX (p : Nat) (M : Nat → Prop) (w : World) (gs : List Gt) (hi : Int) (w' : World) : Prop := GX p (fun k => M k ∨ w.heap.size ≤ k) w' gs hi ∧ Off M w w'
theorem GX.stay {p : Nat} {M : Nat → Prop} {w : World} {gs : List Gt} {hi hi' : Int} (h : GX p M w gs hi) (hh : hi ≤ hi') : PX p M w gs hi' w := by
 obtain ⟨o, a, c, b, v, h1, h2, h3⟩ := h
 exact ⟨⟨o, a, c, b, v, h1, ⟨h2.1, by omega⟩, fun k hk => .inl (h3 k hk)⟩, Off.refl M w⟩
theorem wfG64 {x : Int} (h0 : 0 ≤ x) (h : x ≤ 1000000) : (Lit.int .i64 x).wf = true := by
 have h1 : IntKind.i64.min = -9223372036854775808 := by decide
 have h2 : IntKind.i64.max = 9223372036854775807 := by decide
 simp [Lit.wf]; constructor <;> omega

theorem gand_calls (gs : List Gt) (a b : Int) (p : Nat) (M : Nat → Prop) (w : World) (hi : Int) (h : GX p M w gs hi) (hG : Good gs) (hl : gs.length ≤ 990) :
  Calls Try.prog 81 #[.pointer (some ⟨p, 0, none⟩), .int .i64 a, .int .i64 b] w fun e w' => e = .returned (.int .i64 (andC gs a b).2) ∧ PX p M w (andC gs a b).1 (hi + (gs.length : Int)) w' := by
 obtain ⟨n, hn⟩ : ∃ n, gs.length = n := ⟨_, rfl⟩
 have HH := hid (h.stay (show hi ≤ hi + (gs.length : Int) by omega))
 have HWG := hid (good_wf hG (by omega))
 obtain ⟨o, va, vc, mb, vis, g1, g2, g3⟩ := h
 have k0 := g1.c0
 have hN := hG.pos
 rw [hn] at k0 hl hN
 have hw2 : IntKind.i64.wrap (2 * (n : Int)) = 2 * (n : Int) := IntWalk.i64_in _ (by omega)
 have HN := hid hn
 have HG1 := hid g1; have HG3 := hid g3; have HG2 := hid g2; have HGD := hid hG
 have HL := hid hl
 clear g1 g2 g3 hn hG
 by_cases c1 : a < 0
 ·
  have HE := hid (show andC gs a b = (gs, -1) by unfold andC; rw [HN.out]; rw [if_pos (by omega)])
  have f0 : decide (a < 0) = true := decide_eq_true (by omega)
  go_enter Try.func81, Try.ntmps81
  go_wp2_with (go_at_call 115; refine (not43_calls a _ (by omega)).mono ?_; rintro e w2 ⟨rfl, hw2⟩; rw [hw2]; clear hw2 w2)
  go_ret
  exact ⟨by rw [HE.out]; rfl, by rw [HE.out]; exact HH.out⟩
 by_cases c2 : b < 0
 ·
  have HE := hid (show andC gs a b = (gs, -1) by unfold andC; rw [HN.out]; rw [if_pos (by omega)])
  have f0 : decide (a < 0) = false := decide_eq_false (by omega)
  have f1 : decide (b < 0) = true := decide_eq_true (by omega)
  go_enter Try.func81, Try.ntmps81
  go_wp2_with (go_at_call 115; refine (not43_calls a _ (by omega)).mono ?_; rintro e w2 ⟨rfl, hw2⟩; rw [hw2]; clear hw2 w2)
  go_ret
  exact ⟨by rw [HE.out]; rfl, by rw [HE.out]; exact HH.out⟩
 by_cases c3 : 2 * (n : Int) ≤ a
 ·
  have HE := hid (show andC gs a b = (gs, -1) by unfold andC; rw [HN.out]; rw [if_pos (by omega)])
  have f0 : decide (a < 0) = false := decide_eq_false (by omega)
  have f1 : decide (b < 0) = false := decide_eq_false (by omega)
  have f2 : decide (2 * (n : Int) ≤ a) = true := decide_eq_true (by omega)
  go_enter Try.func81, Try.ntmps81
  go_wp2_with (go_at_call 115; refine (not43_calls a _ (by omega)).mono ?_; rintro e w2 ⟨rfl, hw2⟩; rw [hw2]; clear hw2 w2)
  go_ret
  exact ⟨by rw [HE.out]; rfl, by rw [HE.out]; exact HH.out⟩
 by_cases c4 : 2 * (n : Int) ≤ b
 ·
  have HE := hid (show andC gs a b = (gs, -1) by unfold andC; rw [HN.out]; rw [if_pos (by omega)])
  have f0 : decide (a < 0) = false := decide_eq_false (by omega)
  have f1 : decide (b < 0) = false := decide_eq_false (by omega)
  have f2 : decide (2 * (n : Int) ≤ a) = false := decide_eq_false (by omega)
  have f3 : decide (2 * (n : Int) ≤ b) = true := decide_eq_true (by omega)
  go_enter Try.func81, Try.ntmps81
  go_wp2_with (go_at_call 115; refine (not43_calls a _ (by omega)).mono ?_; rintro e w2 ⟨rfl, hw2⟩; rw [hw2]; clear hw2 w2)
  go_ret
  exact ⟨by rw [HE.out]; rfl, by rw [HE.out]; exact HH.out⟩
 have HNN := hid (show ¬ (a < 0 ∨ b < 0 ∨ 2 * (n : Int) ≤ a ∨ 2 * (n : Int) ≤ b) by omega)
 have e0 : decide (a < 0) = false := decide_eq_false (by omega)
 have e1 : decide (b < 0) = false := decide_eq_false (by omega)
 have e2 : decide (2 * (n : Int) ≤ a) = false := decide_eq_false (by omega)
 have e3 : decide (2 * (n : Int) ≤ b) = false := decide_eq_false (by omega)
 by_cases c5 : a = 1
 ·
  have HE := hid (show andC gs a b = (gs, 1) by unfold andC; rw [HN.out]; rw [if_neg HNN.out, if_pos (.inl c5)])
  have f0 : (a == 1) = true := beqT c5
  have hB9 : a ≤ 9223372036854775807 := by omega
  clear c1 c2 c3 c4 c5
  go_enter Try.func81, Try.ntmps81
  go_wp2_with (go_at_call 115; refine (not43_calls a _ hB9).mono ?_; rintro e w2 ⟨rfl, hw2⟩; rw [hw2]; clear hw2 w2)
  go_ret
  exact ⟨by rw [HE.out]; rfl, by rw [HE.out]; exact HH.out⟩
 have e5 := beqF c5
 by_cases c6 : b = 1
 ·
  have HE := hid (show andC gs a b = (gs, 1) by unfold andC; rw [HN.out]; rw [if_neg HNN.out, if_pos (.inr (.inl c6))])
  have f0 : (b == 1) = true := beqT c6
  have hB9 : a ≤ 9223372036854775807 := by omega
  clear c1 c2 c3 c4 c5 c6
  go_enter Try.func81, Try.ntmps81
  go_wp2_with (go_at_call 115; refine (not43_calls a _ hB9).mono ?_; rintro e w2 ⟨rfl, hw2⟩; rw [hw2]; clear hw2 w2)
  go_ret
  exact ⟨by rw [HE.out]; rfl, by rw [HE.out]; exact HH.out⟩
 have e6 := beqF c6
 by_cases c7 : b = notR a
 ·
  have HE := hid (show andC gs a b = (gs, 1) by unfold andC; rw [HN.out]; rw [if_neg HNN.out, if_pos (.inr (.inr c7))])
  have f0 : (b == notR a) = true := beqT c7
  have hB9 : a ≤ 9223372036854775807 := by omega
  clear c1 c2 c3 c4 c5 c6 c7
  go_enter Try.func81, Try.ntmps81
  go_wp2_with (go_at_call 115; refine (not43_calls a _ hB9).mono ?_; rintro e w2 ⟨rfl, hw2⟩; rw [hw2]; clear hw2 w2)
  go_ret
  exact ⟨by rw [HE.out]; rfl, by rw [HE.out]; exact HH.out⟩
 have e7 := beqF c7
 have HN2 := hid (show ¬ (a = 1 ∨ b = 1 ∨ b = notR a) by simp only [not_or]; exact ⟨c5, c6, c7⟩)
 clear c5 c6 c7
 by_cases c8 : a = 0
 ·
  have HE := hid (show andC gs a b = (gs, b) by unfold andC; rw [HN.out]; rw [if_neg HNN.out, if_neg HN2.out, if_pos c8])
  have f0 : (a == 0) = true := beqT c8
  have hB9 : a ≤ 9223372036854775807 := by omega
  clear c1 c2 c3 c4 c8
  go_enter Try.func81, Try.ntmps81
  go_wp2_with (go_at_call 115; refine (not43_calls a _ hB9).mono ?_; rintro e w2 ⟨rfl, hw2⟩; rw [hw2]; clear hw2 w2)
  go_ret
  exact ⟨by rw [HE.out]; rfl, by rw [HE.out]; exact HH.out⟩
 have e8 := beqF c8
 by_cases c9 : b = 0
 ·
  have HE := hid (show andC gs a b = (gs, a) by unfold andC; rw [HN.out]; rw [if_neg HNN.out, if_neg HN2.out, if_neg c8, if_pos (.inl c9)])
  have f0 : (b == 0) = true := beqT c9
  have hB9 : a ≤ 9223372036854775807 := by omega
  clear c1 c2 c3 c4 c8 c9
  go_enter Try.func81, Try.ntmps81
  go_wp2_with (go_at_call 115; refine (not43_calls a _ hB9).mono ?_; rintro e w2 ⟨rfl, hw2⟩; rw [hw2]; clear hw2 w2)
  go_ret
  exact ⟨by rw [HE.out]; rfl, by rw [HE.out]; exact HH.out⟩
 have e9 := beqF c9
 by_cases c10 : a = b
 ·
  have HE := hid (show andC gs a b = (gs, a) by unfold andC; rw [HN.out]; rw [if_neg HNN.out, if_neg HN2.out, if_neg c8, if_pos (.inr c10)])
  have f0 : (a == b) = true := beqT c10
  have hB9 : a ≤ 9223372036854775807 := by omega
  clear c1 c2 c3 c4 c8 c9 c10
  go_enter Try.func81, Try.ntmps81
  go_wp2_with (go_at_call 115; refine (not43_calls a _ hB9).mono ?_; rintro e w2 ⟨rfl, hw2⟩; rw [hw2]; clear hw2 w2)
  go_ret
  exact ⟨by rw [HE.out]; rfl, by rw [HE.out]; exact HH.out⟩
 have e10 := beqF c10
 by_cases hab : a < b
 ·
  have HE := hid (show andC gs a b = addG gs (2, a, b) by unfold andC; rw [HN.out, if_neg HNN.out, if_neg HN2.out, if_neg c8, if_neg (show ¬ (b = 0 ∨ a = b) by omega), Int.min_eq_left (by omega), Int.max_eq_right (by omega)])
  have hq : Int.tdiv b 2 = ((b.toNat / 2 : Nat) : Int) := by rw [Int.tdiv_eq_ediv_of_nonneg (by omega)]; omega
  have hw1 : IntKind.i64.wrap (((b.toNat / 2 : Nat) : Int) + 1) = ((b.toNat / 2 + 1 : Nat) : Int) := by rw [IntWalk.i64_in _ (by omega)]; omega
  have hq2 : IntKind.i64.wrap (((b.toNat / 2 : Nat) : Int)) = ((b.toNat / 2 : Nat) : Int) := IntWalk.i64_in _ (by omega)
  have HR := hid (greference_calls gs (2, a, b) (b.toNat / 2 + 1) p o va vc mb vis w M HG1.out (by rw [HN.out]; exact HL.out) HG2.out.1 ⟨(show (Lit.int .i64 2).wf = true by decide), wfG64 (show 0 ≤ a by omega) (show a ≤ 1000000 by omega), wfG64 (show 0 ≤ b by omega) (show b ≤ 1000000 by omega)⟩ HWG.out HGD.out.one (fun i hi => good_from (A := a.toNat) (B := b.toNat) HGD.out (by rw [show ((a.toNat : Nat) : Int) = a by omega, show ((b.toNat : Nat) : Int) = b by omega]; exact hi)) HG3.out)
  obtain ⟨q, hqq⟩ : ∃ q : Nat, b.toNat / 2 = q := ⟨_, rfl⟩
  rw [hqq] at hq hw1 hq2 HR
  rw [show ((q + 1 : Nat) : Int) = (q : Int) + 1 by omega] at hw1 HR
  have hB9 : a ≤ 9223372036854775807 := by omega
  have o1 : a < b := by omega
  have m1 : min a b = a := Int.min_eq_left (by omega)
  have m2 : max a b = b := Int.max_eq_right (by omega)
  have o2 : decide (a ≤ b) = true := decide_eq_true (by omega)
  have o3 : decide (b ≤ a) = false := decide_eq_false (by omega)
  have o4 : a ≤ b := by omega
  have o5 : ¬ b ≤ a := by omega
  clear c1 c2 c3 c4 c8 c9 c10 hqq o1
  go_enter Try.func81, Try.ntmps81
  go_wp2_with (go_at_call 115; refine (not43_calls a _ hB9).mono ?_; rintro e w2 ⟨rfl, hw2⟩; rw [hw2]; clear hw2 w2)
  refine HR.out.mono ?_
  rintro e w2 ⟨o', va', vc', mb', vis', rfl, r1, r2, r3, r4⟩
  have HR1 := hid r1; have HR2 := hid r2; have HR3 := hid r3; have HR4 := hid r4
  clear r1 r2 r3 r4 k0 HR
  go_wp2_with fail
  go_ret
  exact ⟨by rw [HE.out]; rfl, by rw [HE.out]; exact ⟨⟨o', va', vc', mb', vis', HR1.out, by have := HG2.out; have := HR2.out; omega, HR4.out⟩, HR3.out⟩⟩
 ·
  have HE := hid (show andC gs a b = addG gs (2, b, a) by unfold andC; rw [HN.out, if_neg HNN.out, if_neg HN2.out, if_neg c8, if_neg (show ¬ (b = 0 ∨ a = b) by omega), Int.min_eq_right (by omega), Int.max_eq_left (by omega)])
  have hq : Int.tdiv a 2 = ((a.toNat / 2 : Nat) : Int) := by rw [Int.tdiv_eq_ediv_of_nonneg (by omega)]; omega
  have hw1 : IntKind.i64.wrap (((a.toNat / 2 : Nat) : Int) + 1) = ((a.toNat / 2 + 1 : Nat) : Int) := by rw [IntWalk.i64_in _ (by omega)]; omega
  have hq2 : IntKind.i64.wrap (((a.toNat / 2 : Nat) : Int)) = ((a.toNat / 2 : Nat) : Int) := IntWalk.i64_in _ (by omega)
  have HR := hid (greference_calls gs (2, b, a) (a.toNat / 2 + 1) p o va vc mb vis w M HG1.out (by rw [HN.out]; exact HL.out) HG2.out.1 ⟨(show (Lit.int .i64 2).wf = true by decide), wfG64 (show 0 ≤ b by omega) (show b ≤ 1000000 by omega), wfG64 (show 0 ≤ a by omega) (show a ≤ 1000000 by omega)⟩ HWG.out HGD.out.one (fun i hi => good_from (A := b.toNat) (B := a.toNat) HGD.out (by rw [show ((b.toNat : Nat) : Int) = b by omega, show ((a.toNat : Nat) : Int) = a by omega]; exact hi)) HG3.out)
  obtain ⟨q, hqq⟩ : ∃ q : Nat, a.toNat / 2 = q := ⟨_, rfl⟩
  rw [hqq] at hq hw1 hq2 HR
  rw [show ((q + 1 : Nat) : Int) = (q : Int) + 1 by omega] at hw1 HR
  have hB9 : a ≤ 9223372036854775807 := by omega
  have o1 : b < a := by omega
  have m1 : min a b = b := Int.min_eq_right (by omega)
  have m2 : max a b = a := Int.max_eq_left (by omega)
  have o2 : decide (a ≤ b) = false := decide_eq_false (by omega)
  have o3 : decide (b ≤ a) = true := decide_eq_true (by omega)
  have o4 : b ≤ a := by omega
  have o5 : ¬ a ≤ b := by omega
  clear c1 c2 c3 c4 c8 c9 c10 hqq o1
  go_enter Try.func81, Try.ntmps81
  go_wp2_with (go_at_call 115; refine (not43_calls a _ hB9).mono ?_; rintro e w2 ⟨rfl, hw2⟩; rw [hw2]; clear hw2 w2)
  refine HR.out.mono ?_
  rintro e w2 ⟨o', va', vc', mb', vis', rfl, r1, r2, r3, r4⟩
  have HR1 := hid r1; have HR2 := hid r2; have HR3 := hid r3; have HR4 := hid r4
  clear r1 r2 r3 r4 k0 HR
  go_wp2_with fail
  go_ret
  exact ⟨by rw [HE.out]; rfl, by rw [HE.out]; exact ⟨⟨o', va', vc', mb', vis', HR1.out, by have := HG2.out; have := HR2.out; omega, HR4.out⟩, HR3.out⟩⟩

theorem gor_calls (gs : List Gt) (a b : Int) (p : Nat) (M : Nat → Prop) (w : World) (hi : Int) (h : GX p M w gs hi) (hG : Good gs) (hl : gs.length ≤ 990) (ha : a ≤ 9223372036854775807) (hb : b ≤ 9223372036854775807) :
  Calls Try.prog 75 #[.pointer (some ⟨p, 0, none⟩), .int .i64 a, .int .i64 b] w fun e w' => e = .returned (.int .i64 (orC gs a b).2) ∧ PX p M w (orC gs a b).1 (hi + (gs.length : Int)) w' := by
 have HC := hid (gand_calls gs (notR a) (notR b) p M w hi h hG hl)
 have HB := hid (show (andC gs (notR a) (notR b)).2 ≤ 9223372036854775807 from and_le (notR_le ha) (notR_le hb) (by omega))
 have HAB := hid (And.intro ha hb)
 clear h hG hl ha hb
 go_enter Try.func75, Try.ntmps75
 go_wp2_with (go_at_call 115; refine (not43_calls _ _ (by first | exact HAB.out.1 | exact HAB.out.2)).mono ?_; rintro e w2 ⟨rfl, hw2⟩; rw [hw2]; clear hw2 w2)
 go_at_call 81
 refine HC.out.mono ?_
 rintro e w2 ⟨rfl, hr⟩
 have HR := hid hr; clear hr HC
 go_wp2_with (go_at_call 115; refine (not43_calls _ _ HB.out).mono ?_; rintro e w3 ⟨rfl, hw3⟩; rw [hw3]; clear hw3 w3)
 go_ret
 exact ⟨rfl, HR.out⟩
set_option maxRecDepth 100000

theorem results36 (tmps : Array Value) (w : World) (b : Nat) (a : Option Addr) (n c : Nat) (ht : tmps.getD 2 undef = .pointer (some ⟨b, 0, none⟩)) (h0 : w.cell? ⟨b, 0, none⟩ = some (.slice a n c)) :
  (results Try.f76 tmps).run Try.prog w = .ok (.agg #[.slice a n c]) w := by
 have ht' : tmps[2]?.getD undef = .pointer (some ⟨b, 0, none⟩) := by simpa using ht
 simp [results, ht', go_sem, h0, Result.andThen]
theorem GX.of {p : Nat} {w : World} {a : Option Addr} {c : Nat} {gs : List Gt} (h : Grow (p + 1) p w false a c gs 0) : GX p (fun k => k = p) w gs 0 :=
 ⟨false, a, c, none, 0, h.grw, ⟨Int.le_refl _, Int.le_refl _⟩, by
  rintro k (e | ⟨e, _⟩ | e)
  · exact e
  · cases e
  · cases e⟩
theorem GX.far {p : Nat} {M : Nat → Prop} {w w' : World} {gs : List Gt} {hi : Int} {r : Option Nat} (h : GX p M w gs hi) (hg : w.grownBy w' r) (hr : ∀ x, r = some x → p ≤ x ∧ ¬ M x) : GX p M w' gs hi := by
 obtain ⟨o, a, c, b, v, h1, h2, h3⟩ := h
 exact ⟨o, a, c, b, v, h1.far hg (fun x e => ⟨(hr x e).1, fun m => (hr x e).2 (h3 x m)⟩), h2, h3⟩
theorem GX.grown {p : Nat} {M : Nat → Prop} {w w' : World} {gs : List Gt} {hi : Int} (h : GX p M w gs hi) (hg : w.grownBy w' none) : GX p M w' gs hi := h.far hg (fun x e => by cases e)
theorem GX.wide {p : Nat} {M N : Nat → Prop} {w : World} {gs : List Gt} {hi hi' : Int} (h : GX p M w gs hi) (hm : ∀ k, M k → N k) (hh : hi ≤ hi') : GX p N w gs hi' := by
 obtain ⟨o, a, c, b, v, h1, h2, h3⟩ := h
 exact ⟨o, a, c, b, v, h1, ⟨h2.1, by omega⟩, fun k hk => hm k (h3 k hk)⟩
end Go.Proofs.Ythdhmflodiincaa
namespace Go.Proofs.Ythdhmflodiincaa
open Lib (hid)

inductive Pr (α : Type) where
 | ret (a : α) : Pr α
 | and (a b : Int) (k : Int → Pr α) : Pr α
namespace Pr
open Lib (hid)
def run {α : Type} : Pr α → List Gt → List Gt × α
 | .ret a, gs => (gs, a)
 | .and a b k, gs => (k (andC gs a b).2).run (andC gs a b).1
def bind {α β : Type} : Pr α → (α → Pr β) → Pr β
 | .ret a, f => f a
 | .and a b k, f => .and a b (fun r => (k r).bind f)
theorem run_bind {α β : Type} (f : α → Pr β) : ∀ (p : Pr α) (gs : List Gt), (p.bind f).run gs = (f (p.run gs).2).run (p.run gs).1
 | .ret _, _ => rfl
 | .and _ _ k, _ => run_bind f (k _) _
def most {α : Type} : Pr α → Nat → Prop
 | .ret _, _ => True
 | .and _ _ _, 0 => False
 | .and _ _ k, n + 1 => ∀ r, (k r).most n
def safe {α : Type} : Pr α → List Gt → (List Gt → α → Prop) → Prop
 | .ret a, gs, Q => Q gs a
 | .and a b k, gs, Q => Ok gs a ∧ Ok gs b ∧ (k (andC gs a b).2).safe (andC gs a b).1 Q
theorem most_mono {α : Type} : ∀ (p : Pr α) {m n : Nat}, m ≤ n → p.most m → p.most n
 | .ret _, _, _, _, _ => trivial
 | .and _ _ _, 0, _, _, h => h.elim
 | .and _ _ _, _ + 1, 0, hl, _ => absurd hl (by omega)
 | .and _ _ k, _ + 1, _ + 1, hl, h => fun r => most_mono (k r) (by omega) (h r)
theorem most_bind {α β : Type} {f : α → Pr β} {n : Nat} (hf : ∀ a, (f a).most n) : ∀ (p : Pr α) {m : Nat}, p.most m → (p.bind f).most (m + n)
 | .ret a, _, _ => most_mono _ (by omega) (hf a)
 | .and _ _ _, 0, h => h.elim
 | .and _ _ k, m + 1, h => by
  rw [show m + 1 + n = (m + n) + 1 by omega]
  exact fun r => most_bind hf (k r) (h r)
theorem len {α : Type} : ∀ (p : Pr α) {n : Nat} (gs : List Gt), p.most n → (p.run gs).1.length ≤ gs.length + n
 | .ret _, _, _, _ => Nat.le_add_right _ _
 | .and _ _ _, 0, _, h => h.elim
 | .and a b k, _ + 1, gs, h => by
  have h1 := len (k (andC gs a b).2) (andC gs a b).1 (h _)
  have h2 := @and_len gs a b
  exact Nat.le_trans h1 (by omega)
theorem step {α : Type} : ∀ (p : Pr α) {gs : List Gt}, Good gs → Good (p.run gs).1 ∧ gs <+: (p.run gs).1
 | .ret _, _, h => ⟨h, List.prefix_refl _⟩
 | .and a b k, gs, h => by
  have h1 := step_and h a b
  have h2 := step (k (andC gs a b).2) h1.good
  exact ⟨h2.1, h1.pre.trans h2.2⟩
theorem safe_run {α : Type} {Q : List Gt → α → Prop} : ∀ (p : Pr α) {gs : List Gt}, p.safe gs Q → Q (p.run gs).1 (p.run gs).2
 | .ret _, _, h => h
 | .and _ _ k, _, h => safe_run (k _) h.2.2
theorem safe_mono {α : Type} {Q R : List Gt → α → Prop} (hm : ∀ g a, Q g a → R g a) : ∀ (p : Pr α) {gs : List Gt}, p.safe gs Q → p.safe gs R
 | .ret _, _, h => hm _ _ h
 | .and _ _ k, _, h => ⟨h.1, h.2.1, safe_mono hm (k _) h.2.2⟩
theorem safe_bind {α β : Type} {f : α → Pr β} {Q : List Gt → β → Prop} : ∀ (p : Pr α) {gs : List Gt}, p.safe gs (fun g a => (f a).safe g Q) → (p.bind f).safe gs Q
 | .ret _, _, h => h
 | .and _ _ k, _, h => ⟨h.1, h.2.1, safe_bind (k _) h.2.2⟩
end Pr
def andP (a b : Int) : Pr Int := .and a b .ret
def orP (a b : Int) : Pr Int := .and (notR a) (notR b) (fun r => .ret (notR r))
theorem run_andP (gs : List Gt) (a b : Int) : (andP a b).run gs = andC gs a b := rfl
theorem run_orP (gs : List Gt) (a b : Int) : (orP a b).run gs = orC gs a b := rfl
theorem most_andP (a b : Int) : (andP a b).most 1 := fun _ => trivial
theorem most_orP (a b : Int) : (orP a b).most 1 := fun _ => trivial
structure Grew (gs : List Gt) (n : Nat) (g : List Gt) : Prop where
 good : Good g
 pre : gs <+: g
 len : g.length ≤ gs.length + n
theorem Grew.refl {gs : List Gt} (h : Good gs) : Grew gs 0 gs := ⟨h, List.prefix_refl _, Nat.le_refl _⟩
theorem Grew.trans {gs g h : List Gt} {m n : Nat} (h1 : Grew gs m g) (h2 : Grew g n h) : Grew gs (m + n) h := ⟨h2.good, h1.pre.trans h2.pre, by have := h1.len; have := h2.len; omega⟩
theorem Grew.wide {gs g : List Gt} {m n : Nat} (h : Grew gs m g) (hm : m ≤ n) : Grew gs n g := ⟨h.good, h.pre, by have := h.len; omega⟩
theorem safe_andP {gs : List Gt} (h : Good gs) (hl : gs.length < 20000) {a b : Int} (ha : Ok gs a) (hb : Ok gs b) :
  (andP a b).safe gs (fun g r => Grew gs 1 g ∧ Ok g r ∧ ∀ values, valC g values r = (valC gs values a && valC gs values b)) :=
 ⟨ha, hb, ⟨(step_and h a b).good, (step_and h a b).pre, and_len a b⟩, and_ok h hl ha hb, fun _ => val_and h hl ha hb⟩
theorem safe_orP {gs : List Gt} (h : Good gs) (hl : gs.length < 20000) {a b : Int} (ha : Ok gs a) (hb : Ok gs b) :
  (orP a b).safe gs (fun g r => Grew gs 1 g ∧ Ok g r ∧ ∀ values, valC g values r = (valC gs values a || valC gs values b)) :=
 ⟨notR_ok ha, notR_ok hb, ⟨(step_or h a b).good, (step_or h a b).pre, or_len a b⟩, or_ok h hl ha hb, fun _ => val_or h hl ha hb⟩
def foldP {σ β : Type} (f : σ → β → Pr σ) : List β → σ → Pr σ
 | [], s => .ret s
 | x :: l, s => (f s x).bind (foldP f l)
theorem run_foldP_nil {σ β : Type} (f : σ → β → Pr σ) (s : σ) (gs : List Gt) : (foldP f [] s).run gs = (gs, s) := rfl
theorem run_foldP_cons {σ β : Type} (f : σ → β → Pr σ) (x : β) (l : List β) (s : σ) (gs : List Gt) : (foldP f (x :: l) s).run gs = (foldP f l ((f s x).run gs).2).run ((f s x).run gs).1 := Pr.run_bind _ _ _
theorem run_foldP_append {σ β : Type} (f : σ → β → Pr σ) : ∀ (l m : List β) (s : σ) (gs : List Gt), (foldP f (l ++ m) s).run gs = (foldP f m ((foldP f l s).run gs).2).run ((foldP f l s).run gs).1
 | [], _, _, _ => rfl
 | x :: l, m, s, gs => by rw [List.cons_append, run_foldP_cons, run_foldP_append f l m, run_foldP_cons]
theorem most_foldP {σ β : Type} {f : σ → β → Pr σ} {c : Nat} (hf : ∀ s x, (f s x).most c) : ∀ (l : List β) (s : σ), (foldP f l s).most (c * l.length)
 | [], _ => trivial
 | x :: l, s => by
  rw [List.length_cons, Nat.mul_succ, Nat.add_comm]
  exact Pr.most_bind (fun a => most_foldP hf l a) _ (hf s x)
theorem safe_foldP {σ β : Type} {f : σ → β → Pr σ} (I : List Gt → Nat → σ → Prop) : ∀ (l : List β) (k : Nat) (gs : List Gt) (s : σ), I gs k s → (∀ (j : Nat) (x : β) (g : List Gt) (t : σ), l[j]? = some x → I g (k + j) t → (f t x).safe g (fun g' t' => I g' (k + j + 1) t')) → (foldP f l s).safe gs (fun g t => I g (k + l.length) t)
 | [], _, _, _, h, _ => h
 | x :: l, k, gs, s, h, hs => by
  refine Pr.safe_bind _ (Pr.safe_mono (fun g a ha => ?_) _ (hs 0 x gs s rfl h))
  have := safe_foldP I l (k + 1) g a ha (fun j y g' t hj ht => by
   have := hs (j + 1) y g' t (by simpa using hj) (by rw [show k + (j + 1) = k + 1 + j by omega]; exact ht)
   rw [show k + (j + 1) + 1 = k + 1 + j + 1 by omega] at this
   exact this)
  rw [List.length_cons, show k + (l.length + 1) = k + 1 + l.length by omega]
  exact this

abbrev Cl := Int × Int
def atM (m : List Cl) (k : Int) : Int := ((m.find? fun c => c.1 == k).map (·.2)).getD 1
def keptM (m : List Cl) (k r : Int) : List Cl := if r = 1 then m else m ++ [(k, r)]
theorem atM_nil (k : Int) : atM [] k = 1 := rfl
theorem atM_mem {m : List Cl} {k : Int} : atM m k = 1 ∨ (k, atM m k) ∈ m := by
 unfold atM
 cases h : m.find? fun c => c.1 == k with
 | none => exact .inl rfl
 | some c =>
  have h1 := List.find?_some h
  have h2 := List.mem_of_find?_eq_some h
  have e : c.1 = k := by simpa using h1
  exact .inr (by subst e; exact h2)
theorem atM_not {m : List Cl} {k : Int} (h : ∀ c ∈ m, c.1 ≠ k) : atM m k = 1 := by
 unfold atM
 rw [List.find?_eq_none.2 (fun c hc => by simpa using h c hc)]
 rfl
theorem atM_snoc_old {m : List Cl} {k : Int} {x : Cl} (h : x.1 ≠ k) : atM (m ++ [x]) k = atM m k := by
 unfold atM
 rw [List.find?_append]
 cases m.find? fun c => c.1 == k with
 | none => simp [h]
 | some c => rfl
theorem atM_snoc_new {m : List Cl} {k r : Int} (h : ∀ c ∈ m, c.1 ≠ k) : atM (m ++ [(k, r)]) k = r := by
 unfold atM
 rw [List.find?_append, List.find?_eq_none.2 (fun c hc => by simpa using h c hc)]
 simp
theorem atM_ok {g : List Gt} (hG : Good g) {m : List Cl} (hm : ∀ c ∈ m, Ok g c.2) (k : Int) : Ok g (atM m k) := by
 rcases @atM_mem m k with h | h
 · rw [h]; have := hG.pos; unfold Ok; omega
 · exact hm _ h
def opP (f : Int → Pr Int) (L : List Int) : Pr (List Cl) := foldP (fun m k => (f k).bind fun r => .ret (keptM m k r)) L []
structure OpMade (gs g : List Gt) (n : Nat) (L : List Int) (F : List Bool → Int → Bool) (m : List Cl) : Prop where
 grew : Grew gs n g
 up : (m.map (·.1)).Sublist L
 ok : ∀ c ∈ m, Ok g c.2 ∧ c.2 ≠ 1
 val : ∀ v k, valC g v (atM m k) = (decide (k ∈ L) && F v k)
theorem opMade_step {gs g g' : List Gt} {n c : Nat} {L : List Int} {F : List Bool → Int → Bool} {m : List Cl} {k r : Int} (h : OpMade gs g n L F m) (hk : ∀ x ∈ L, x ≠ k) (hg : Grew g c g') (hr : Ok g' r) (hv : ∀ v, valC g' v r = F v k) : OpMade gs g' (n + c) (L ++ [k]) F (keptM m k r) := by
 have hne : ∀ x ∈ m, x.1 ≠ k := fun x hx => hk _ (h.up.mem (List.mem_map_of_mem hx))
 have hat : ∀ v j, valC g' v (atM m j) = valC g v (atM m j) := fun v j => val_grow hg.pre (atM_ok h.grew.good (fun x hx => (h.ok x hx).1) j)
 have hmem : ∀ j, j ≠ k → decide (j ∈ L ++ [k]) = decide (j ∈ L) := fun j hj => decide_eq_decide.2 (by simp [hj])
 have hkL : k ∉ L := fun hx => hk k hx rfl
 unfold keptM
 by_cases h1 : r = 1
 ·
  rw [if_pos h1]
  subst h1
  refine ⟨h.grew.trans hg, h.up.trans (List.sublist_append_left _ _), fun x hx => ⟨?_, (h.ok x hx).2⟩, fun v j => ?_⟩
  · have := (h.ok x hx).1; have := hg.pre.length_le; unfold Ok at *; omega
  ·
   by_cases hj : j = k
   ·
    subst hj
    rw [atM_not hne, hv v]
    simp
   · rw [hat, h.val, hmem j hj]
 ·
  rw [if_neg h1]
  refine ⟨h.grew.trans hg, by rw [List.map_append]; exact h.up.append (List.Sublist.refl _), fun x hx => ?_, fun v j => ?_⟩
  ·
   rcases List.mem_append.1 hx with hx | hx
   ·
    refine ⟨?_, (h.ok x hx).2⟩
    have := (h.ok x hx).1; have := hg.pre.length_le; unfold Ok at *; omega
   · rw [List.mem_singleton.1 hx]; exact ⟨hr, h1⟩
  ·
   by_cases hj : j = k
   ·
    subst hj
    rw [atM_snoc_new hne, hv v]
    simp
   · rw [atM_snoc_old (Ne.symm hj), hat, h.val, hmem j hj]
theorem safe_opP {f : Int → Pr Int} {F : List Bool → Int → Bool} {c : Nat} {gs : List Gt} (hG : Good gs) {L : List Int} (hL : L.Pairwise (· < ·))
  (hf : ∀ (g : List Gt) (j : Nat) (k : Int), L[j]? = some k → Grew gs (c * j) g → (f k).safe g (fun g' r => Grew g c g' ∧ Ok g' r ∧ ∀ v, valC g' v r = F v k)) :
  (opP f L).safe gs (fun g m => OpMade gs g (c * L.length) L F m) := by
 have h := safe_foldP (f := fun m k => (f k).bind fun r => .ret (keptM m k r)) (fun g j m => OpMade gs g (c * j) (L.take j) F m) L 0 gs []
  ⟨(Grew.refl hG).wide (Nat.zero_le _), by simp, fun x hx => by simp at hx, fun v k => by rw [atM_nil, val_false hG]; simp⟩
  (fun j k g m hj hm => by
   rw [Nat.zero_add] at hm ⊢
   refine Pr.safe_bind _ (Pr.safe_mono (fun g' r hh => ?_) _ (hf g j k hj hm.grew))
   obtain ⟨h1, h2, h3⟩ := hh
   have hk : ∀ x ∈ L.take j, x ≠ k := fun x hx => by
    obtain ⟨i, hi⟩ := List.mem_iff_getElem?.1 hx
    have hij : i < j := by
     have := (List.getElem?_eq_some_iff.1 hi).1
     rw [List.length_take] at this
     omega
    rw [List.getElem?_take_of_lt hij] at hi
    obtain ⟨li, ei⟩ := List.getElem?_eq_some_iff.1 hi
    obtain ⟨lj, ej⟩ := List.getElem?_eq_some_iff.1 hj
    have := List.pairwise_iff_getElem.1 hL i j li lj hij
    omega
   have h4 := opMade_step hm hk h1 h2 h3
   rw [Nat.mul_succ, List.take_add_one, hj]
   exact h4)
 rw [Nat.zero_add] at h
 exact Pr.safe_mono (fun g m hm => by rw [List.take_length] at hm; exact hm) _ h

def UpM (m : List Cl) : Prop := (m.map (·.1)).Pairwise (· < ·)
theorem upM_cons {x : Cl} {m : List Cl} : UpM (x :: m) ↔ (∀ c ∈ m, x.1 < c.1) ∧ UpM m := by
 unfold UpM
 rw [List.map_cons, List.pairwise_cons]
 exact ⟨fun h => ⟨fun c hc => h.1 _ (List.mem_map_of_mem hc), h.2⟩, fun h => ⟨fun k hk => by obtain ⟨c, hc, rfl⟩ := List.mem_map.1 hk; exact h.1 c hc, h.2⟩⟩
def rkF : Nat → List Cl → List Cl → List Int
 | 0, _, _ => []
 | _ + 1, [], [] => []
 | f + 1, x :: a, [] => x.1 :: rkF f a []
 | f + 1, [], y :: b => y.1 :: rkF f [] b
 | f + 1, x :: a, y :: b => if x.1 < y.1 then x.1 :: rkF f a (y :: b) else if y.1 < x.1 then y.1 :: rkF f (x :: a) b else x.1 :: rkF f a b
def rk (a b : List Cl) : List Int := rkF (a.length + b.length) a b
theorem rk_spec : ∀ (f : Nat) (a b : List Cl), a.length + b.length ≤ f → UpM a → UpM b → (rkF f a b).Pairwise (· < ·) ∧ ∀ k, k ∈ rkF f a b ↔ (∃ c ∈ a, c.1 = k) ∨ ∃ c ∈ b, c.1 = k
 | 0, a, b, h, _, _ => by
  obtain rfl : a = [] := List.eq_nil_of_length_eq_zero (by omega)
  obtain rfl : b = [] := List.eq_nil_of_length_eq_zero (by omega)
  simp [rkF]
 | f + 1, [], [], _, _, _ => by simp [rkF]
 | f + 1, x :: a, [], h, ha, hb => by
  obtain ⟨h1, h2⟩ := upM_cons.1 ha
  obtain ⟨p, q⟩ := rk_spec f a [] (by simp at h ⊢; omega) h2 hb
  refine ⟨List.pairwise_cons.2 ⟨fun k hk => ?_, p⟩, fun k => ?_⟩
  ·
   rcases (q k).1 hk with ⟨c, hc, rfl⟩ | ⟨c, hc, _⟩
   · exact h1 c hc
   · cases hc
  ·
   show k ∈ x.1 :: rkF f a [] ↔ _
   rw [List.mem_cons, q k]
   simp only [List.mem_cons, exists_eq_or_imp, List.not_mem_nil, false_and, exists_false, or_false]
   exact or_congr_left eq_comm
 | f + 1, [], y :: b, h, ha, hb => by
  obtain ⟨h1, h2⟩ := upM_cons.1 hb
  obtain ⟨p, q⟩ := rk_spec f [] b (by simp at h ⊢; omega) ha h2
  refine ⟨List.pairwise_cons.2 ⟨fun k hk => ?_, p⟩, fun k => ?_⟩
  ·
   rcases (q k).1 hk with ⟨c, hc, _⟩ | ⟨c, hc, rfl⟩
   · cases hc
   · exact h1 c hc
  ·
   show k ∈ y.1 :: rkF f [] b ↔ _
   rw [List.mem_cons, q k]
   simp only [List.mem_cons, exists_eq_or_imp, List.not_mem_nil, false_and, exists_false, false_or]
   exact or_congr_left eq_comm
 | f + 1, x :: a, y :: b, h, ha, hb => by
  obtain ⟨h1, h2⟩ := upM_cons.1 ha
  obtain ⟨h3, h4⟩ := upM_cons.1 hb
  unfold rkF
  by_cases hxy : x.1 < y.1
  ·
   rw [if_pos hxy]
   obtain ⟨p, q⟩ := rk_spec f a (y :: b) (by simp at h ⊢; omega) h2 hb
   refine ⟨List.pairwise_cons.2 ⟨fun k hk => ?_, p⟩, fun k => ?_⟩
   ·
    rcases (q k).1 hk with ⟨c, hc, rfl⟩ | ⟨c, hc, rfl⟩
    · exact h1 c hc
    ·
     rcases List.mem_cons.1 hc with rfl | hc
     · exact hxy
     · exact Int.lt_trans hxy (h3 c hc)
   ·
    rw [List.mem_cons, q k]
    simp only [List.mem_cons, exists_eq_or_imp, or_assoc]
    exact or_congr_left eq_comm
  ·
   rw [if_neg hxy]
   by_cases hyx : y.1 < x.1
   ·
    rw [if_pos hyx]
    obtain ⟨p, q⟩ := rk_spec f (x :: a) b (by simp at h ⊢; omega) ha h4
    refine ⟨List.pairwise_cons.2 ⟨fun k hk => ?_, p⟩, fun k => ?_⟩
    ·
     rcases (q k).1 hk with ⟨c, hc, rfl⟩ | ⟨c, hc, rfl⟩
     ·
      rcases List.mem_cons.1 hc with rfl | hc
      · exact hyx
      · exact Int.lt_trans hyx (h1 c hc)
     · exact h3 c hc
    ·
     rw [List.mem_cons, q k]
     simp only [List.mem_cons, exists_eq_or_imp]
     rw [or_left_comm]
     exact or_congr_right (or_congr_left eq_comm)
   ·
    rw [if_neg hyx]
    have e : x.1 = y.1 := by omega
    obtain ⟨p, q⟩ := rk_spec f a b (by simp at h ⊢; omega) h2 h4
    refine ⟨List.pairwise_cons.2 ⟨fun k hk => ?_, p⟩, fun k => ?_⟩
    ·
     rcases (q k).1 hk with ⟨c, hc, rfl⟩ | ⟨c, hc, rfl⟩
     · exact h1 c hc
     · rw [e]; exact h3 c hc
    ·
     rw [List.mem_cons, q k]
     simp only [List.mem_cons, exists_eq_or_imp]
     rw [← e]
     constructor
     ·
      rintro (rfl | h | h)
      · exact .inl (.inl rfl)
      · exact .inl (.inr h)
      · exact .inr (.inr h)
     ·
      rintro ((h | h) | (h | h))
      · exact .inl h.symm
      · exact .inr (.inl h)
      · exact .inl h.symm
      · exact .inr (.inr h)
theorem rk_len : ∀ (f : Nat) (a b : List Cl), (rkF f a b).length ≤ a.length + b.length
 | 0, _, _ => by simp [rkF]
 | _ + 1, [], [] => by simp [rkF]
 | f + 1, x :: a, [] => by have := rk_len f a []; simp [rkF] at this ⊢; omega
 | f + 1, [], y :: b => by have := rk_len f [] b; simp [rkF] at this ⊢; omega
 | f + 1, x :: a, y :: b => by
  unfold rkF
  have h1 := rk_len f a (y :: b)
  have h2 := rk_len f (x :: a) b
  have h3 := rk_len f a b
  split
  · simp at h1 ⊢; omega
  ·
   split
   · simp at h2 ⊢; omega
   · simp at h3 ⊢; omega
def Mat (g : List Gt) (m : List Cl) : Prop := UpM m ∧ ∀ c ∈ m, Ok g c.2 ∧ c.2 ≠ 1
theorem Mat.at_ok {g : List Gt} {m : List Cl} (h : Mat g m) (hG : Good g) (k : Int) : Ok g (atM m k) := atM_ok hG (fun c hc => (h.2 c hc).1) k
theorem Mat.grow {g g' : List Gt} {m : List Cl} (h : Mat g m) (hp : g <+: g') : Mat g' m := ⟨h.1, fun c hc => ⟨by have := (h.2 c hc).1; have := hp.length_le; unfold Ok at *; omega, (h.2 c hc).2⟩⟩
theorem OpMade.mat {gs g : List Gt} {n : Nat} {L : List Int} {F : List Bool → Int → Bool} {m : List Cl} (h : OpMade gs g n L F m) (hL : L.Pairwise (· < ·)) : Mat g m := ⟨hL.sublist h.up, h.ok⟩
def inM (m : List Cl) (k : Int) : Bool := m.any fun c => c.1 == k
def hasV (g : List Gt) (v : List Bool) (m : List Cl) (k : Int) : Bool := valC g v (atM m k)
theorem has_grow {gs g : List Gt} (hp : gs <+: g) (hG : Good gs) {m : List Cl} (h : Mat gs m) (v : List Bool) (k : Int) : hasV g v m k = hasV gs v m k := val_grow hp (h.at_ok hG k)
def unionF (a b : List Cl) (k : Int) : Pr Int := if inM a k = true then (if inM b k = true then orP (atM a k) (atM b k) else .ret (atM a k)) else .ret (atM b k)
def interF (a b : List Cl) (k : Int) : Pr Int := if inM a k = true ∧ inM b k = true then andP (atM a k) (atM b k) else .ret 1
def munionP (a b : List Cl) : Pr (List Cl) := opP (unionF a b) (rk a b)
def minterP (a b : List Cl) : Pr (List Cl) := opP (interF a b) (rk a b)
section
variable {gs g : List Gt} {a b : List Cl} {k : Int}
end
theorem at_of_mem {m : List Cl} (h : UpM m) {c : Cl} (hc : c ∈ m) : atM m c.1 = c.2 := by
 induction m with
 | nil => cases hc
 | cons x m ih =>
  obtain ⟨h1, h2⟩ := upM_cons.1 h
  unfold atM
  rcases List.mem_cons.1 hc with rfl | hc
  · simp
  ·
   have := h1 c hc
   rw [List.find?_cons_of_neg (by simp; omega)]
   exact ih h2 hc
theorem sorted_ext : ∀ {l m : List Int}, l.Pairwise (· < ·) → m.Pairwise (· < ·) → (∀ k, k ∈ l ↔ k ∈ m) → l = m
 | [], [], _, _, _ => rfl
 | [], y :: m, _, _, h => by have := (h y).2 (by simp); cases this
 | x :: l, [], _, _, h => by have := (h x).1 (by simp); cases this
 | x :: l, y :: m, hl, hm, h => by
  obtain ⟨l1, l2⟩ := List.pairwise_cons.1 hl
  obtain ⟨m1, m2⟩ := List.pairwise_cons.1 hm
  have e : x = y := by
   rcases List.mem_cons.1 ((h x).1 (by simp)) with h1 | h1
   · exact h1
   ·
    rcases List.mem_cons.1 ((h y).2 (by simp)) with h2 | h2
    · exact h2.symm
    · have := m1 x h1; have := l1 y h2; omega
  subst e
  rw [sorted_ext l2 m2 (fun k => ?_)]
  constructor
  ·
   intro hk
   rcases List.mem_cons.1 ((h k).1 (List.mem_cons_of_mem _ hk)) with h1 | h1
   · subst h1; have := l1 _ hk; omega
   · exact h1
  ·
   intro hk
   rcases List.mem_cons.1 ((h k).2 (List.mem_cons_of_mem _ hk)) with h1 | h1
   · subst h1; have := m1 _ hk; omega
   · exact h1

def inF (a b : List Cl) (r : Int) (k : Int) : Pr Int := if inM a k = true then (andP (atM a k) (notR (atM b k))).bind fun t => andP r (notR t) else .ret r
def inP (a b : List Cl) : Pr Int := foldP (inF a b) (rk a b) 0
section
variable {gs g : List Gt} {a b : List Cl} {k : Int}
def loneF (s : Int × Int) (x : Int) : Pr (Int × Int) := (andP s.2 x).bind fun u => (orP s.1 u).bind fun t => (orP s.2 x).bind fun e => .ret (t, e)
def loneP (l : List Int) : Pr Int := (foldP loneF l (1, 1)).bind fun s => .ret (notR s.1)
end

def ranksTo (n : Nat) : List Int := (List.range n).map fun (i : Nat) => (i : Int)
theorem ranksTo_up (n : Nat) : (ranksTo n).Pairwise (· < ·) := by
 unfold ranksTo
 rw [List.pairwise_map]
 exact List.pairwise_lt_range.imp fun h => by omega
theorem mem_ranksTo {n : Nat} {k : Int} : k ∈ ranksTo n ↔ 0 ≤ k ∧ k < (n : Int) := by
 unfold ranksTo
 rw [List.mem_map]
 constructor
 ·
  rintro ⟨i, hi, rfl⟩
  have := List.mem_range.1 hi
  omega
 ·
  intro h
  exact ⟨k.toNat, List.mem_range.2 (by omega), by omega⟩
def ofTab (t : Int → Int) (L : List Int) : Pr (List Cl) := opP (fun k => .ret (t k)) L
theorem safe_ofTab {t : Int → Int} {g : List Gt} (hG : Good g) {L : List Int} (hL : L.Pairwise (· < ·)) (ht : ∀ k, Ok g (t k)) : (ofTab t L).safe g (fun g' m => OpMade g g' 0 L (fun v k => valC g v (t k)) m) := by
 have h := safe_opP (f := fun k => .ret (t k)) (F := fun v k => valC g v (t k)) (c := 0) hG hL (fun g' j k _ hg => ⟨(Grew.refl hg.good), by have := ht k; have := hg.pre.length_le; unfold Ok at *; omega, fun v => val_grow hg.pre (ht k)⟩)
 rw [Nat.zero_mul] at h
 exact h
def jr (n rest : Int) (p : Cl × Cl) : Int := p.1.1 / n * rest + p.2.1 % rest
def jF (n rest : Int) (s : Int → Int) (p : Cl × Cl) : Pr (Int → Int) := (andP p.1.2 p.2.2).bind fun t => (orP (s (jr n rest p)) t).bind fun r => .ret fun k => if k = jr n rest p then r else s k
def allPairs (a b : List Cl) : List (Cl × Cl) := a.flatMap fun x => b.map fun y => (x, y)
theorem mem_pairs {a b : List Cl} {p : Cl × Cl} : p ∈ allPairs a b ↔ p.1 ∈ a ∧ p.2 ∈ b := by
 unfold allPairs
 simp only [List.mem_flatMap, List.mem_map]
 constructor
 · rintro ⟨x, hx, y, hy, rfl⟩; exact ⟨hx, hy⟩
 · intro h; exact ⟨_, h.1, _, h.2, rfl⟩
theorem len_pairs (a b : List Cl) : (allPairs a b).length = a.length * b.length := by
 unfold allPairs
 induction a with
 | nil => simp
 | cons x a ih => rw [List.flatMap_cons, List.length_append, ih, List.length_map, List.length_cons, Nat.succ_mul, Nat.add_comm]
def jPairs (n rest : Int) (a b : List Cl) : List (Cl × Cl) := (allPairs a b).filter fun p => p.1.1 % n == p.2.1 / rest
def mjoinP (n rest : Int) (total : Nat) (a b : List Cl) : Pr (List Cl) := (foldP (jF n rest) (jPairs n rest a b) fun _ => 1).bind fun t => ofTab t (ranksTo total)
section
variable {gs : List Gt} {a b : List Cl}
theorem safe_jF {g : List Gt} {n rest : Int} {s : Int → Int} {p : Cl × Cl} (hg : Good g) (hl : g.length < 19990) (hs : ∀ k, Ok g (s k)) (h1 : Ok g p.1.2) (h2 : Ok g p.2.2) :
  (jF n rest s p).safe g (fun g' s' => Grew g 2 g' ∧ (∀ k, Ok g' (s' k)) ∧ ∀ v k, valC g' v (s' k) = (valC g v (s k) || (decide (jr n rest p = k) && (valC g v p.1.2 && valC g v p.2.2)))) := by
 unfold jF
 refine Pr.safe_bind _ (Pr.safe_mono (fun g1 t ht => ?_) _ (safe_andP hg (by omega) h1 h2))
 obtain ⟨t1, t2, t3⟩ := ht
 have l1 := t1.len
 have p1 := t1.pre.length_le
 have hs1 : ∀ k, Ok g1 (s k) := fun k => by have := hs k; unfold Ok at *; omega
 refine Pr.safe_bind _ (Pr.safe_mono (fun g2 r hr => ?_) _ (safe_orP t1.good (by omega) (hs1 (jr n rest p)) t2))
 obtain ⟨r1, r2, r3⟩ := hr
 have p2 := r1.pre.length_le
 refine ⟨t1.trans r1, fun k => ?_, fun v k => ?_⟩
 ·
  show Ok g2 (if k = jr n rest p then r else s k)
  split
  · exact r2
  · have := hs1 k; unfold Ok at *; omega
 ·
  show valC g2 v (if k = jr n rest p then r else s k) = _
  by_cases hk : k = jr n rest p
  · rw [if_pos hk, r3 v, t3 v, val_grow t1.pre (hs _), ← hk, decide_eq_true rfl, Bool.true_and]
  ·
   rw [if_neg hk, decide_eq_false (Ne.symm hk), Bool.false_and, Bool.or_false]
   exact val_grow (t1.pre.trans r1.pre) (hs k)
theorem safe_mjoinP {n rest : Int} {total : Nat} (hG : Good gs) (ha : Mat gs a) (hb : Mat gs b) (hl : gs.length + 2 * (a.length * b.length) ≤ 19900) :
  (mjoinP n rest total a b).safe gs (fun g m => OpMade gs g (2 * (a.length * b.length)) (ranksTo total) (fun v k => (jPairs n rest a b).any fun p => decide (jr n rest p = k) && (valC gs v p.1.2 && valC gs v p.2.2)) m) := by
 have hlen : (jPairs n rest a b).length ≤ a.length * b.length := by rw [← len_pairs]; exact List.length_filter_le _ _
 have h := safe_foldP (f := jF n rest) (fun g j s => Grew gs (2 * j) g ∧ (∀ k, Ok g (s k)) ∧ ∀ v k, valC g v (s k) = ((jPairs n rest a b).take j).any fun p => decide (jr n rest p = k) && (valC gs v p.1.2 && valC gs v p.2.2)) (jPairs n rest a b) 0 gs (fun _ => 1)
  ⟨(Grew.refl hG).wide (Nat.zero_le _), fun _ => (one_ok hG).1, fun v k => by simp [val_false hG]⟩
  (fun j p g s hj hs => by
   rw [Nat.zero_add] at hs ⊢
   obtain ⟨h1, h2, h3⟩ := hs
   have hm := mem_pairs.1 (List.mem_filter.1 (List.mem_of_getElem? hj)).1
   have hj1 := (List.getElem?_eq_some_iff.1 hj).1
   have l1 := h1.len
   have p1 := h1.pre.length_le
   have o1 := (ha.2 _ hm.1).1
   have o2 := (hb.2 _ hm.2).1
   refine Pr.safe_mono (fun g' s' hh => ?_) _ (safe_jF (n := n) (rest := rest) h1.good (by omega) h2 (show Ok g p.1.2 by unfold Ok at *; omega) (show Ok g p.2.2 by unfold Ok at *; omega))
   obtain ⟨e1, e2, e3⟩ := hh
   refine ⟨by rw [Nat.mul_succ]; exact h1.trans e1, e2, fun v k => ?_⟩
   rw [e3 v k, h3 v k, val_grow h1.pre o1, val_grow h1.pre o2, List.take_add_one, hj, List.any_append]
   simp)
 rw [Nat.zero_add] at h
 refine Pr.safe_bind _ (Pr.safe_mono (fun g t ht => ?_) _ h)
 obtain ⟨h1, h2, h3⟩ := ht
 refine Pr.safe_mono (fun g' m hm => ⟨(h1.trans hm.grew).wide (by omega), hm.up, hm.ok, fun v k => ?_⟩) _ (safe_ofTab h1.good (ranksTo_up total) h2)
 rw [hm.val v k, h3 v k, List.take_length]
def prodRanks (p : Int) (a b : List Cl) : List Int := (allPairs a b).map fun q => q.1.1 * p + q.2.1
def mprodP (p : Int) (a b : List Cl) : Pr (List Cl) := opP (fun k => andP (atM a (k / p)) (atM b (k % p))) (prodRanks p a b)
theorem prod_up {p : Int} : ∀ {a : List Cl}, UpM a → UpM b → (∀ y ∈ b, 0 ≤ y.1 ∧ y.1 < p) → (prodRanks p a b).Pairwise (· < ·)
 | [], _, _, _ => by simp [prodRanks, allPairs]
 | x :: a, ha, hb, hy => by
  obtain ⟨h1, h2⟩ := upM_cons.1 ha
  have ih := prod_up h2 hb hy
  unfold prodRanks allPairs at ih ⊢
  rw [List.flatMap_cons, List.map_append, List.pairwise_append]
  refine ⟨?_, ih, ?_⟩
  ·
   rw [List.map_map, List.pairwise_map]
   have hb' := hb
   unfold UpM at hb'
   rw [List.pairwise_map] at hb'
   exact hb'.imp fun h => by simpa using h
  ·
   intro k hk l hl
   obtain ⟨q, hq, rfl⟩ := List.mem_map.1 hk
   obtain ⟨y, hyb, rfl⟩ := List.mem_map.1 hq
   obtain ⟨r, hr, rfl⟩ := List.mem_map.1 hl
   have hr2 := mem_pairs.1 hr
   have e1 := h1 _ hr2.1
   have e2 := hy _ hyb
   have e3 := hy _ hr2.2
   show x.1 * p + y.1 < r.1.1 * p + r.2.1
   have e4 : (x.1 + 1) * p ≤ r.1.1 * p := Int.mul_le_mul_of_nonneg_right (by omega) (by omega)
   rw [Int.add_mul, Int.one_mul] at e4
   omega
theorem safe_mprodP {p : Int} (hG : Good gs) (ha : Mat gs a) (hb : Mat gs b) (hy : ∀ y ∈ b, 0 ≤ y.1 ∧ y.1 < p) (hl : gs.length + a.length * b.length ≤ 19900) :
  (mprodP p a b).safe gs (fun g m => OpMade gs g (a.length * b.length) (prodRanks p a b) (fun v k => hasV gs v a (k / p) && hasV gs v b (k % p)) m) := by
 have hlen : (prodRanks p a b).length = a.length * b.length := by unfold prodRanks; rw [List.length_map, len_pairs]
 refine Pr.safe_mono (fun g m h => ⟨h.grew.wide (by omega), h.up, h.ok, h.val⟩) _ (safe_opP (c := 1) hG (prod_up ha.1 hb.1 hy) (fun g j k hj hg => ?_))
 have h1 := (List.getElem?_eq_some_iff.1 hj).1
 have h2 := hg.len
 have oa := (ha.grow hg.pre).at_ok hg.good (k / p)
 have ob := (hb.grow hg.pre).at_ok hg.good (k % p)
 exact Pr.safe_mono (fun g' r h => ⟨h.1, h.2.1, fun v => by rw [h.2.2 v, ← has_grow hg.pre hG ha, ← has_grow hg.pre hG hb]; rfl⟩) _ (safe_andP hg.good (by omega) oa ob)
end

theorem two_same : ∀ (n : Nat) (v : Nat → Nat), (∀ i, i ≤ n → v i < n) → ∃ i j, i < j ∧ j ≤ n ∧ v i = v j
 | 0, v, h => absurd (h 0 (Nat.le_refl _)) (by omega)
 | n + 1, v, h => by
  by_cases hq : ∃ i, i ≤ n ∧ v i = v (n + 1)
  ·
   obtain ⟨i, hi, e⟩ := hq
   exact ⟨i, n + 1, by omega, Nat.le_refl _, e⟩
  ·
   obtain ⟨i, j, hij, hj, e⟩ := two_same n (fun i => if v i = n then v (n + 1) else v i) (fun i hi => by
    have h1 := h i (by omega)
    have h2 := h (n + 1) (Nat.le_refl _)
    have h3 : v i ≠ v (n + 1) := fun e => hq ⟨i, hi, e⟩
    show (if v i = n then v (n + 1) else v i) < n
    split <;> omega)
   have hi3 : v i ≠ v (n + 1) := fun e => hq ⟨i, by omega, e⟩
   have hj3 : v j ≠ v (n + 1) := fun e => hq ⟨j, hj, e⟩
   refine ⟨i, j, hij, by omega, ?_⟩
   split at e <;> split at e <;> omega
def Way (R : Nat → Nat → Prop) (n k x y : Nat) : Prop := ∃ (m : Nat) (v : Nat → Nat), 1 ≤ m ∧ m ≤ k ∧ v 0 = x ∧ v m = y ∧ (∀ i, i ≤ m → v i < n) ∧ ∀ i, i < m → R (v i) (v (i + 1))
section
variable {R : Nat → Nat → Prop} {n k x y : Nat}
theorem Way.wide {j : Nat} (h : Way R n k x y) (hj : k ≤ j) : Way R n j x y := by
 obtain ⟨m, v, h1, h2, h3⟩ := h
 exact ⟨m, v, h1, by omega, h3⟩
theorem Way.join {j z : Nat} (h : Way R n j x z) (h2 : Way R n k z y) : Way R n (j + k) x y := by
 obtain ⟨m, v, a1, a2, a3, a4, a5, a6⟩ := h
 obtain ⟨p, u, b1, b2, b3, b4, b5, b6⟩ := h2
 refine ⟨m + p, fun i => if i ≤ m then v i else u (i - m), by omega, by omega, by simp [a3], ?_, fun i hi => ?_, fun i hi => ?_⟩
 ·
  show (if m + p ≤ m then v (m + p) else u (m + p - m)) = y
  rw [if_neg (by omega), show m + p - m = p by omega, b4]
 ·
  show (if i ≤ m then v i else u (i - m)) < n
  split
  · exact a5 i (by omega)
  · exact b5 _ (by omega)
 ·
  show R (if i ≤ m then v i else u (i - m)) (if i + 1 ≤ m then v (i + 1) else u (i + 1 - m))
  by_cases h1 : i + 1 ≤ m
  · rw [if_pos (by omega), if_pos h1]; exact a6 i (by omega)
  ·
   rw [if_neg h1]
   by_cases h2 : i ≤ m
   ·
    have e : i = m := by omega
    subst e
    rw [if_pos h2, a4, ← b3, show i + 1 - i = 0 + 1 by omega]
    exact b6 0 (by omega)
   ·
    rw [if_neg h2, show i + 1 - m = (i - m) + 1 by omega]
    exact b6 _ (by omega)
theorem Way.split (h : Way R n k x y) (j : Nat) (hj : 1 ≤ j) : Way R n j x y ∨ ∃ z, z < n ∧ Way R n j x z ∧ Way R n (k - j) z y := by
 obtain ⟨m, v, h1, h2, h3, h4, h5, h6⟩ := h
 by_cases hm : m ≤ j
 · exact .inl ⟨m, v, h1, hm, h3, h4, h5, h6⟩
 ·
  refine .inr ⟨v j, h5 j (by omega), ⟨j, v, hj, Nat.le_refl _, h3, rfl, fun i hi => h5 i (by omega), fun i hi => h6 i (by omega)⟩, ⟨m - j, fun i => v (j + i), by omega, by omega, rfl, ?_, fun i hi => h5 _ (by omega), fun i hi => h6 (j + i) (by omega)⟩⟩
  show v (j + (m - j)) = y
  rw [show j + (m - j) = m by omega, h4]
theorem way_short : ∀ (m : Nat) {x y : Nat} (v : Nat → Nat), 1 ≤ m → v 0 = x → v m = y → (∀ i, i ≤ m → v i < n) → (∀ i, i < m → R (v i) (v (i + 1))) → Way R n n x y := by
 intro m
 induction m using Nat.strongRecOn with
 | _ m ih =>
  intro x y v h1 h3 h4 h5 h6
  by_cases hm : m ≤ n
  · exact ⟨m, v, h1, hm, h3, h4, h5, h6⟩
  ·
   obtain ⟨i, j, hij, hj, e⟩ := two_same n (fun i => v (i + 1)) (fun i hi => h5 _ (by omega))
   have e' : v (i + 1) = v (j + 1) := e
   refine ih (m - (j - i)) (by omega) (fun q => if q ≤ i + 1 then v q else v (q + (j - i))) (by omega) (by simp [h3]) ?_ (fun q hq => ?_) (fun q hq => ?_)
   ·
    show (if m - (j - i) ≤ i + 1 then v (m - (j - i)) else v (m - (j - i) + (j - i))) = y
    by_cases h : m - (j - i) ≤ i + 1
    · rw [if_pos h, show m - (j - i) = i + 1 by omega, e', show j + 1 = m by omega, h4]
    · rw [if_neg h, show m - (j - i) + (j - i) = m by omega, h4]
   ·
    show (if q ≤ i + 1 then v q else v (q + (j - i))) < n
    split
    · exact h5 _ (by omega)
    · exact h5 _ (by omega)
   ·
    show R (if q ≤ i + 1 then v q else v (q + (j - i))) (if q + 1 ≤ i + 1 then v (q + 1) else v (q + 1 + (j - i)))
    by_cases h7 : q + 1 ≤ i + 1
    · rw [if_pos (by omega), if_pos h7]; exact h6 _ (by omega)
    ·
     rw [if_neg h7]
     by_cases h8 : q ≤ i + 1
     ·
      have eq : q = i + 1 := by omega
      subst eq
      rw [if_pos h8, e', show i + 1 + 1 + (j - i) = (j + 1) + 1 by omega]
      exact h6 _ (by omega)
     ·
      rw [if_neg h8, show q + 1 + (j - i) = (q + (j - i)) + 1 by omega]
      exact h6 _ (by omega)
theorem Way.short (h : Way R n k x y) : Way R n n x y := by
 obtain ⟨m, v, h1, _, h3, h4, h5, h6⟩ := h
 exact way_short m v h1 h3 h4 h5 h6
theorem Way.trans {z j : Nat} (hn : n ≤ j) (h : Way R n k x z) (h2 : Way R n k z y) : Way R n j x y := (h.join h2).short.wide hn
end

theorem up_len : ∀ (m : List Cl) (lo : Int) (n : Nat), UpM m → (∀ c ∈ m, lo ≤ c.1 ∧ c.1 < lo + n) → m.length ≤ n
 | [], _, _, _, _ => Nat.zero_le _
 | x :: m, lo, n, h, hb => by
  obtain ⟨h1, h2⟩ := upM_cons.1 h
  have hx := hb x (by simp)
  have := up_len m (x.1 + 1) (n - 1) h2 (fun c hc => by have := h1 c hc; have := hb c (by simp [hc]); omega)
  rw [List.length_cons]
  omega
def Sq (n : Nat) (g : List Gt) (m : List Cl) : Prop := Mat g m ∧ ∀ c ∈ m, 0 ≤ c.1 ∧ c.1 < (n : Int) * n
theorem Sq.grow {n : Nat} {g g' : List Gt} {m : List Cl} (h : Sq n g m) (hp : g <+: g') : Sq n g' m := ⟨h.1.grow hp, h.2⟩
theorem Sq.len {n : Nat} {g : List Gt} {m : List Cl} (h : Sq n g m) : m.length ≤ n * n := up_len m 0 (n * n) h.1.1 (fun c hc => by have := h.2 c hc; rw [Int.zero_add, Int.natCast_mul]; exact this)
section
variable {gs : List Gt} {n : Nat} {a b : List Cl}
end
end Go.Proofs.Ythdhmflodiincaa
namespace Go.Proofs.Ythdhmflodiincaa
open Lib (hid)
open Go.RowKit Go.Maps

def CellAt (w : World) (b o : Nat) (x : Cl) : Prop := w.cell? ⟨b, o, none⟩ = some (.int .i64 x.1) ∧ w.cell? ⟨b, o + 1, none⟩ = some (.int .i64 x.2)
theorem CellAt.grown {w w' : World} {b o : Nat} {x : Cl} (h : CellAt w b o x) (hg : w.grownBy w' none) : CellAt w' b o x := ⟨hg.cell h.1 (by simp), hg.cell h.2 (by simp)⟩
def CellsW (w : World) (a : Option Addr) (c : Nat) (m : List Cl) : Prop :=
 m.length ≤ c ∧ (m = [] ∨ ∃ b o, a = some ⟨b, o, none⟩ ∧ ∀ (j : Nat) (x : Cl), m[j]? = some x → CellAt w b (o + j * 2) x)
theorem CellsW.grown {w w' : World} {a : Option Addr} {c : Nat} {m : List Cl} (h : CellsW w a c m) (hg : w.grownBy w' none) : CellsW w' a c m := by
 obtain ⟨hc, h | ⟨b, o, ha, hz⟩⟩ := h
 · exact ⟨hc, .inl h⟩
 · exact ⟨hc, .inr ⟨b, o, ha, fun j z hj => (hz j z hj).grown hg⟩⟩
theorem CellsW.at {w : World} {a : Option Addr} {c : Nat} {m : List Cl} (h : CellsW w a c m) {i : Nat} {x : Cl} (hz : m[i]? = some x) : ∃ b o, a = some ⟨b, o, none⟩ ∧ CellAt w b (o + i * 2) x := by
 obtain ⟨_, h | ⟨b, o, ha, hc⟩⟩ := h
 · rw [h] at hz; simp at hz
 · exact ⟨b, o, ha, hc i x hz⟩
theorem refs_snoc {m : List Cl} {k : Nat} {x : Cl} (h : m[k]? = some x) : (m.take (k + 1)).map (·.2) = (m.take k).map (·.2) ++ [x.2] := by rw [List.take_add_one, h, List.map_append]; rfl


def clCells (m : List Cl) : List Value := m.flatMap fun x => [.int .i64 x.1, .int .i64 x.2]
theorem clCells_len (m : List Cl) : (clCells m).length = m.length * 2 := by
 unfold clCells
 induction m with
 | nil => rfl
 | cons x m ih => rw [List.flatMap_cons, List.length_append, ih]; simp; omega
theorem clCells_app (l m : List Cl) : clCells (l ++ m) = clCells l ++ clCells m := List.flatMap_append
theorem clCells_at : ∀ {m : List Cl} {j : Nat} {x : Cl}, m[j]? = some x → (clCells m)[j * 2]? = some (.int .i64 x.1) ∧ (clCells m)[j * 2 + 1]? = some (.int .i64 x.2)
 | [], _, _, h => by simp at h
 | y :: m, 0, x, h => by simp at h; subst h; exact ⟨rfl, rfl⟩
 | y :: m, j + 1, x, h => by
  have ih := clCells_at (m := m) (j := j) (x := x) (by simpa using h)
  have e : clCells (y :: m) = .int .i64 y.1 :: .int .i64 y.2 :: clCells m := rfl
  rw [e, show (j + 1) * 2 = j * 2 + 2 by omega]
  exact ih
theorem infoCl : (Try.prog.info? 71).map (fun i => (i.zero, i.size, i.bytes)) = some (some (.agg #[.int .i64 0, .int .i64 0]), 2, 16) := by kernel_rfl
theorem cells_new_at (w : World) (x : Cl) : ∀ j u, (clCells [x])[j]? = some u → (w.alloc (.cells #[.int .i64 x.1, .int .i64 x.2] 71)).cell? ((⟨w.heap.size, 0, none⟩ : Addr).add j) = some u := by
 intro j u hj
 have hc := one_cells w (.int .i64 x.1) (.int .i64 x.2) 71
 rcases j with _ | _ | j
 ·
  have e : some (Value.int .i64 x.1) = some u := hj
  cases e
  exact hc.2.1
 ·
  have e : some (Value.int .i64 x.2) = some u := hj
  cases e
  exact hc.2.2.1
 ·
  have e : ([] : List Value)[j]? = some u := hj
  simp at e
theorem kept_calls (B : Nat) (m : List Cl) (a : Option Addr) (n c : Nat) (k r : Int) (w : World) (hown : w.ownsRow B 71 2 (.slice a n c) n (clCells m)) (hn : m.length = n) (hl : n ≤ 1000) (hB : B ≤ w.heap.size) :
  Calls Try.prog 74 #[.slice a n c, .int .i64 k, .int .i64 r] w fun e w' => ∃ a' n' c', e = .returned (.slice a' n' c') ∧ w'.ownsRow B 71 2 (.slice a' n' c') n' (clCells (keptM m k r)) ∧ (keptM m k r).length = n' ∧ w.grownBy w' (Value.slice a n c).ownBlock ∧ ∀ b, (Value.slice a' n' c').ownBlock = some b → (Value.slice a n c).ownBlock = some b ∨ w.heap.size ≤ b := by
 obtain ⟨i0, hi0, hz0, hz1, hz2⟩ := info_parts infoCl
 have HO := hid hown
 have HN := hid hn
 clear hown hn
 by_cases hr : r = 1
 ·
  have e1 : (r == 1) = true := by simp [hr]
  have HR := hid (show keptM m k r = m from by unfold keptM; rw [if_pos hr])
  clear hr
  go_enter Try.func74, Try.ntmps74
  go_wp2_with fail
  go_ret
  exact ⟨a, n, c, rfl, by rw [HR.out]; exact HO.out, by rw [HR.out]; exact HN.out, grown_refl _ _, fun b e => .inl e⟩
 ·
  have e1 : (r == 1) = false := by simp [hr]
  have HR := hid (show keptM m k r = m ++ [(k, r)] from by unfold keptM; rw [if_neg hr])
  obtain ⟨Lk, hLk⟩ : ∃ L, clCells m = L := ⟨_, rfl⟩
  have HL := hid hLk
  rw [hLk] at HO
  have HLL := hid (show Lk.length = n * 2 from by rw [← hLk, clCells_len, HN.out])
  clear hr hLk
  have hnew := cells_new_at w (k, r)
  go_enter Try.func74, Try.ntmps74
  go_wp2_with (at_builtin; refine wpList_append_own_at _ rfl _ _ 24 rfl B 71 i0 (.agg #[.int .i64 0, .int .i64 0]) 2 16 Try.underlying24 hi0 hz0 hz1 hz2 rfl (by decide) _ n Lk rfl (HO.out.alloc _) ⟨w.heap.size, 0, none⟩ 1 1 [.int .i64 k, .int .i64 r] rfl rfl hnew (fun u hu => by simp at hu; rcases hu with rfl | rfl <;> rfl) (by unfold maxLen; omega) (by omega) (by simp; omega) ?_)
  intro v' w6 hown' hgrow6 _ hat6
  obtain ⟨rgA, rcA, rfl⟩ := own_shape hown'
  have HS := hid (show w6.ownsRow B 71 2 (.slice rgA (n + 1) rcA) (n + 1) (clCells (keptM m k r)) from by rw [HR.out, clCells_app, HL.out]; exact hown')
  have HGW := hid (gT (gAl w (.cells #[.int .i64 k, .int .i64 r] 71) _) hgrow6)
  have HAT := hid (show ∀ b, (Value.slice rgA (n + 1) rcA).ownBlock = some b → (Value.slice a n c).ownBlock = some b ∨ w.heap.size ≤ b from fun b e => by
   rcases hat6 with h | h
   · exact .inl (h.symm.trans e)
   · rw [h] at e; cases e; exact .inr (by simp))
  have HLN := hid (show (keptM m k r).length = n + 1 from by rw [HR.out, List.length_append, HN.out]; rfl)
  clear hown' hgrow6 hat6 hnew
  go_wp2_with fail
  go_ret
  exact ⟨rgA, n + 1, rcA, rfl, HS.out, HLN.out, HGW.out, HAT.out⟩
end Go.Proofs.Ythdhmflodiincaa
