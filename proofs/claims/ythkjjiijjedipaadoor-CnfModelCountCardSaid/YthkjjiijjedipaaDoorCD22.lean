/- Texts of the proof: D1. -/
import Derived.Test.YthkjjiijjedipaaDoorCD17
import Derived.Test.YthkjjiijjedipaaDoorCD21
namespace Go.Proofs.YthkjjiijjedipaaDoor
open Go.RowKit

/-- A step: its kind and its two numbers. -/
abbrev Stp := Nat × Nat × Nat
def doC (gs : List Gt) (refs : List Int) (s : Stp) : List Gt × Int :=
  if s.1 % 4 = 0 then inputC gs ((s.2.1 % 8 + 1 : Nat) : Int) else if s.1 % 4 = 1 then andC gs (pickL refs s.2.1) (pickL refs s.2.2)
  else if s.1 % 4 = 2 then orC gs (pickL refs s.2.1) (pickL refs s.2.2) else iffC gs (pickL refs s.2.1) (pickL refs s.2.2)
abbrev stpV (s : Stp) : Value := .agg #[.int .u8 (s.1 : Int), .int .u8 (s.2.1 : Int), .int .u8 (s.2.2 : Int)]
def StpOk (s : Stp) : Prop := s.1 < 256 ∧ s.2.1 < 256 ∧ s.2.2 < 256
theorem pick_le {refs : List Int} (h : ∀ r ∈ refs, r ≤ 9223372036854775807) (n : Nat) : pickL refs n ≤ 9223372036854775807 := by
  have h0 : pick0 refs n ≤ 9223372036854775807 := by
    unfold pick0
    split
    · omega
    · cases hg : refs[n / 2 % (refs.length + 1) - 1]? with
      | none => simp
      | some r => exact h r (List.mem_of_getElem? hg)
  unfold pickL
  split
  · exact notR_le h0
  · exact h0
theorem results33 (tmps : Array Value) (w : World) (b : Nat) (a : Option Addr) (n c : Nat) (x : Int) (ht : tmps.getD 6 undef = .pointer (some ⟨b, 0, none⟩)) (hs : tmps.getD 7 undef = .int .i64 x) (h0 : w.cell? ⟨b, 0, none⟩ = some (.slice a n c)) :
    (results Tryd.f27 tmps).run Tryd.prog w = .ok (.tuple #[.agg #[.slice a n c], .int .i64 x]) w := by
  have ht' : tmps[6]?.getD undef = .pointer (some ⟨b, 0, none⟩) := by simpa using ht
  have hs' : tmps[7]?.getD undef = .int .i64 x := by simpa using hs
  simp [results, ht', hs', go_sem, h0, Result.andThen]

set_option maxRecDepth 100000 in
set_option maxHeartbeats 4000000 in
theorem rdo_calls {gs g : List Gt} {r : Int} (refs : List Int) (s : Stp) (a : Option Addr) (c : Nat) (ra : Option Addr) (rc : Nat) (w : World) (e : doC gs refs s = (g, r)) (h : GatesW w a c gs) (hr : IntsW w ra rc refs) (hG : Good gs) (hl : gs.length ≤ 880) (hl2 : refs.length ≤ 1000) (hb : ∀ r ∈ refs, r ≤ 9223372036854775807) (hs : StpOk s) :
    Calls Tryd.prog 27 #[.agg #[.slice a gs.length c], .slice ra refs.length rc, stpV s] w (Ans w g r) := by
  obtain ⟨k, A, B⟩ := s
  obtain ⟨hk, hA, hB⟩ := hs
  simp only at hk hA hB
  have hg1 := World.grownBy_alloc w (.cells #[.slice a gs.length c] 27) none
  have hb1 := CB.new h
  obtain ⟨W1, hW1⟩ : ∃ W, w.alloc (.cells #[.slice a gs.length c] 27) = W := ⟨_, rfl⟩
  rw [hW1] at hg1 hb1
  have hg2 := World.grownBy_alloc W1 (.cells #[.int .u8 (k : Int), .int .u8 (A : Int), .int .u8 (B : Int)] 56) none
  have s0 : (W1.alloc (.cells #[.int .u8 (k : Int), .int .u8 (A : Int), .int .u8 (B : Int)] 56)).cell? ⟨W1.heap.size, 0, none⟩ = some (.int .u8 (k : Int)) := by go_simp
  have s1 : (W1.alloc (.cells #[.int .u8 (k : Int), .int .u8 (A : Int), .int .u8 (B : Int)] 56)).cell? ⟨W1.heap.size, 1, none⟩ = some (.int .u8 (A : Int)) := by go_simp
  have s2 : (W1.alloc (.cells #[.int .u8 (k : Int), .int .u8 (A : Int), .int .u8 (B : Int)] 56)).cell? ⟨W1.heap.size, 2, none⟩ = some (.int .u8 (B : Int)) := by go_simp
  obtain ⟨W2, hW2⟩ : ∃ W, W1.alloc (.cells #[.int .u8 (k : Int), .int .u8 (A : Int), .int .u8 (B : Int)] 56) = W := ⟨_, rfl⟩
  rw [hW2] at hg2 s0 s1 s2
  have hg3 := World.grownBy_alloc W2 (.cells #[.slice none 0 0] 27) none
  have e3 := BoxZ.new W2
  obtain ⟨V0, hV0⟩ : ∃ W, W2.alloc (.cells #[.slice none 0 0] 27) = W := ⟨_, rfl⟩
  rw [hV0] at hg3 e3
  have Hc := Lib.hid ((hb1.grown hg2).grown hg3)
  have HZ := Lib.hid e3
  have HR := Lib.hid (((hr.grown hg1).grown hg2).grown hg3)
  have HG := Lib.hid (World.grownBy.trans (World.grownBy.trans hg1 hg2) hg3)
  have HS1 := Lib.hid (show w.heap.size ≤ W2.heap.size from (World.grownBy.trans hg1 hg2).size)
  have x0 := hg3.cell s0 (by simp)
  have x1 := hg3.cell s1 (by simp)
  have x2 := hg3.cell s2 (by simp)
  have q0 := Hc.out.1
  have z0 := HZ.out.1
  have zf := HZ.out.2
  have HE := Lib.hid e
  have HP := Lib.hid (And.intro hG (And.intro hl (And.intro hl2 hb)))
  have PA := Lib.hid (pick_le hb A)
  have PB := Lib.hid (pick_le hb B)
  have CA := Lib.hid (pick_calls refs A ra rc V0 HR.out hl2 hA hb)
  have CB' := Lib.hid (pick_calls refs B ra rc V0 HR.out hl2 hB hb)
  obtain ⟨pa, hpa⟩ : ∃ p, pickL refs A = p := ⟨_, rfl⟩
  obtain ⟨pb, hpb⟩ : ∃ p, pickL refs B = p := ⟨_, rfl⟩
  obtain ⟨rn, hrn⟩ : ∃ n, refs.length = n := ⟨_, rfl⟩
  rw [hpa] at PA CA
  rw [hpb] at PB CB'
  rw [hrn] at CA CB' ⊢
  clear h hr hG hl hl2 hb hg1 hg2 hg3 hb1 e3 s0 s1 s2 e hrn
  have hm : (k : Int).tmod 4 = ((k % 4 : Nat) : Int) := by rw [Int.tmod_eq_emod_of_nonneg (by omega)]; rfl
  have hm8 : (A : Int).tmod 8 = ((A % 8 : Nat) : Int) := by rw [Int.tmod_eq_emod_of_nonneg (by omega)]; rfl
  have hwA : IntKind.i64.wrap (A : Int) = (A : Int) := IntWalk.i64_in _ (by omega)
  have hw8 : IntKind.i64.wrap ((A % 8 : Nat) : Int) = ((A % 8 : Nat) : Int) := IntWalk.i64_in _ (by omega)
  have hw9 : IntKind.i64.wrap (((A % 8 : Nat) : Int) + 1) = ((A % 8 + 1 : Nat) : Int) := by rw [IntWalk.i64_in _ (by omega)]; omega
  by_cases h0 : k % 4 = 0
  · have f0 : ((k : Int) % 4 == 0) = true := beqT (by omega)
    have EQ := Lib.hid (show inputC gs ((A % 8 + 1 : Nat) : Int) = (g, r) by have e := HE.out; unfold doC at e; simp only at e; rw [if_pos h0] at e; exact e)
    clear hpa hpb h0
    go_enter Tryd.func27, Tryd.ntmps27
    go_wp2_with fail
    go_at_call 10
    refine CA.out.mono ?_
    rintro e w9 ⟨rfl, hw9⟩
    rw [hw9]
    clear hw9 w9 CA
    go_wp2_with fail
    go_at_call 10
    refine CB'.out.mono ?_
    rintro e w9 ⟨rfl, hw9⟩
    rw [hw9]
    clear hw9 w9 CB'
    go_wp2_with fail
    refine (rinput_at _ EQ.out HP.out.1 (by have := HP.out.2.1; omega) Hc.out.2.2).mono ?_
    rintro e wM ⟨aM, cM, rfl, hr, gM⟩
    have zz := HZ.out.grown gM
    have hr1 := Lib.hid hr
    have g1 := Lib.hid gM
    have z1 := zz.1
    have z2 := zz.2
    clear hr gM z0 zf x0 x1 x2 q0
    go_wp2_with fail
    refine bodyPost_ret (results33 _ _ W2.heap.size aM _ cM _ rfl rfl (World.cell?_setCell_same _ _ _ z1)) rfl ⟨aM, cM, rfl, hr1.out.set z1 _, grown_own (World.grownBy.trans HG.out g1.out) (grown_set wM W2.heap.size 0 _) (fun k e => by cases e; exact HS1.out)⟩
  by_cases h1 : k % 4 = 1
  · have f0 : ((k : Int) % 4 == 0) = false := beqF (by omega)
    have f1 : ((k : Int) % 4 == 1) = true := beqT (by omega)
    have EQ := Lib.hid (show andC gs pa pb = (g, r) by have e := HE.out; unfold doC at e; simp only at e; rw [if_neg h0, if_pos h1] at e; rw [hpa, hpb] at e; exact e)
    clear hpa hpb h0 h1
    go_enter Tryd.func27, Tryd.ntmps27
    go_wp2_with fail
    go_at_call 10
    refine CA.out.mono ?_
    rintro e w9 ⟨rfl, hw9⟩
    rw [hw9]
    clear hw9 w9 CA
    go_wp2_with fail
    go_at_call 10
    refine CB'.out.mono ?_
    rintro e w9 ⟨rfl, hw9⟩
    rw [hw9]
    clear hw9 w9 CB'
    go_wp2_with fail
    refine (rand_at pa pb EQ.out HP.out.1 (by have := HP.out.2.1; omega) PA.out PB.out Hc.out.2.2).mono ?_
    rintro e wM ⟨aM, cM, rfl, hr, gM⟩
    have zz := HZ.out.grown gM
    have hr1 := Lib.hid hr
    have g1 := Lib.hid gM
    have z1 := zz.1
    have z2 := zz.2
    clear hr gM z0 zf x0 x1 x2 q0
    go_wp2_with fail
    refine bodyPost_ret (results33 _ _ W2.heap.size aM _ cM _ rfl rfl (World.cell?_setCell_same _ _ _ z1)) rfl ⟨aM, cM, rfl, hr1.out.set z1 _, grown_own (World.grownBy.trans HG.out g1.out) (grown_set wM W2.heap.size 0 _) (fun k e => by cases e; exact HS1.out)⟩
  by_cases h2 : k % 4 = 2
  · have f0 : ((k : Int) % 4 == 0) = false := beqF (by omega)
    have f1 : ((k : Int) % 4 == 1) = false := beqF (by omega)
    have f2 : ((k : Int) % 4 == 2) = true := beqT (by omega)
    have EQ := Lib.hid (show orC gs pa pb = (g, r) by have e := HE.out; unfold doC at e; simp only at e; rw [if_neg h0, if_neg h1, if_pos h2] at e; rw [hpa, hpb] at e; exact e)
    clear hpa hpb h0 h1 h2
    go_enter Tryd.func27, Tryd.ntmps27
    go_wp2_with fail
    go_at_call 10
    refine CA.out.mono ?_
    rintro e w9 ⟨rfl, hw9⟩
    rw [hw9]
    clear hw9 w9 CA
    go_wp2_with fail
    go_at_call 10
    refine CB'.out.mono ?_
    rintro e w9 ⟨rfl, hw9⟩
    rw [hw9]
    clear hw9 w9 CB'
    go_wp2_with fail
    refine (ror_at pa pb EQ.out HP.out.1 (by have := HP.out.2.1; omega) PA.out PB.out Hc.out.2.2).mono ?_
    rintro e wM ⟨aM, cM, rfl, hr, gM⟩
    have zz := HZ.out.grown gM
    have hr1 := Lib.hid hr
    have g1 := Lib.hid gM
    have z1 := zz.1
    have z2 := zz.2
    clear hr gM z0 zf x0 x1 x2 q0
    go_wp2_with fail
    refine bodyPost_ret (results33 _ _ W2.heap.size aM _ cM _ rfl rfl (World.cell?_setCell_same _ _ _ z1)) rfl ⟨aM, cM, rfl, hr1.out.set z1 _, grown_own (World.grownBy.trans HG.out g1.out) (grown_set wM W2.heap.size 0 _) (fun k e => by cases e; exact HS1.out)⟩
  have f0 : ((k : Int) % 4 == 0) = false := beqF (by omega)
  have f1 : ((k : Int) % 4 == 1) = false := beqF (by omega)
  have f2 : ((k : Int) % 4 == 2) = false := beqF (by omega)
  have EQ := Lib.hid (show iffC gs pa pb = (g, r) by have e := HE.out; unfold doC at e; simp only at e; rw [if_neg h0, if_neg h1, if_neg h2] at e; rw [hpa, hpb] at e; exact e)
  clear hpa hpb h0 h1 h2
  go_enter Tryd.func27, Tryd.ntmps27
  go_wp2_with fail
  go_at_call 10
  refine CA.out.mono ?_
  rintro e w9 ⟨rfl, hw9⟩
  rw [hw9]
  clear hw9 w9 CA
  go_wp2_with fail
  go_at_call 10
  refine CB'.out.mono ?_
  rintro e w9 ⟨rfl, hw9⟩
  rw [hw9]
  clear hw9 w9 CB'
  go_wp2_with fail
  refine (riff_at pa pb EQ.out HP.out.1 (by have := HP.out.2.1; omega) PA.out PB.out Hc.out.2.2).mono ?_
  rintro e wM ⟨aM, cM, rfl, hr, gM⟩
  have zz := HZ.out.grown gM
  have hr1 := Lib.hid hr
  have g1 := Lib.hid gM
  have z1 := zz.1
  have z2 := zz.2
  clear hr gM z0 zf x0 x1 x2 q0
  go_wp2_with fail
  refine bodyPost_ret (results33 _ _ W2.heap.size aM _ cM _ rfl rfl (World.cell?_setCell_same _ _ _ z1)) rfl ⟨aM, cM, rfl, hr1.out.set z1 _, grown_own (World.grownBy.trans HG.out g1.out) (grown_set wM W2.heap.size 0 _) (fun k e => by cases e; exact HS1.out)⟩
end Go.Proofs.YthkjjiijjedipaaDoor
