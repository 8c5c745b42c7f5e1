/- Texts of the proof: D1 D2 M1 M2. -/
import Derived.Test.YthdhmflodiincaaCD03
import Derived.Test.YthdhmflodiincaaCD04
import Derived.Test.YthdhmflodiincaaCD00
import Derived.Test.YthdhmflodiincaaCD01
set_option maxRecDepth 100000
set_option maxHeartbeats 8000000
namespace Go.Proofs.Ythdhmflodiincaa
open Lib (hid)
open Go.RowKit

abbrev Stp := Nat × Nat × Nat
def doC (gs : List Gt) (refs : List Int) (s : Stp) : List Gt × Int :=
 if s.1 % 4 = 0 then inputC gs ((s.2.1 % 8 + 1 : Nat) : Int) else if s.1 % 4 = 1 then andC gs (pickL refs s.2.1) (pickL refs s.2.2)
 else if s.1 % 4 = 2 then orC gs (pickL refs s.2.1) (pickL refs s.2.2) else iffC gs (pickL refs s.2.1) (pickL refs s.2.2)
abbrev stpV (s : Stp) : Value := .agg #[.int .u8 (s.1 : Int), .int .u8 (s.2.1 : Int), .int .u8 (s.2.2 : Int)]
def StpOk (s : Stp) : Prop := s.1 < 256 ∧ s.2.1 < 256 ∧ s.2.2 < 256
theorem pick_le {refs : List Int} (h : ∀ r ∈ refs, r ≤ 9223372036854775807) (n : Nat) : pickL refs n ≤ 9223372036854775807 := by
 have h0 : pick0 refs n ≤ 9223372036854775807 := by
  unfold pick0
  split
  · omega
  ·
   cases hg : refs[n / 2 % (refs.length + 1) - 1]? with
   | none => simp
   | some r => exact h r (List.mem_of_getElem? hg)
 unfold pickL
 split
 · exact notR_le h0
 · exact h0
theorem results33 (tmps : Array Value) (w : World) (b : Nat) (a : Option Addr) (n c : Nat) (x : Int) (ht : tmps.getD 6 undef = .pointer (some ⟨b, 0, none⟩)) (hs : tmps.getD 7 undef = .int .i64 x) (h0 : w.cell? ⟨b, 0, none⟩ = some (.slice a n c)) :
  (results Try.f70 tmps).run Try.prog w = .ok (.tuple #[.agg #[.slice a n c], .int .i64 x]) w := by
 have ht' : tmps[6]?.getD undef = .pointer (some ⟨b, 0, none⟩) := by simpa using ht
 have hs' : tmps[7]?.getD undef = .int .i64 x := by simpa using hs
 simp [results, ht', hs', go_sem, h0, Result.andThen]

theorem rdo_calls {gs g : List Gt} {r : Int} (refs : List Int) (s : Stp) (a : Option Addr) (c : Nat) (ra : Option Addr) (rc : Nat) (w : World) (e : doC gs refs s = (g, r)) (h : GatesW w a c gs) (hr : IntsW w ra rc refs) (hG : Good gs) (hl : gs.length ≤ 880) (hl2 : refs.length ≤ 1000) (hb : ∀ r ∈ refs, r ≤ 9223372036854775807) (hs : StpOk s) :
  Calls Try.prog 70 #[.agg #[.slice a gs.length c], .slice ra refs.length rc, stpV s] w (Ans w g r) := by
 obtain ⟨k, A, B⟩ := s
 obtain ⟨hk, hA, hB⟩ := hs
 simp only at hk hA hB
 have hg1 := gAl w (.cells #[.slice a gs.length c] 30) none
 have hb1 := CB.new h
 obtain ⟨W1, hW1⟩ : ∃ W, w.alloc (.cells #[.slice a gs.length c] 30) = W := ⟨_, rfl⟩
 rw [hW1] at hg1 hb1
 have hg2 := gAl W1 (.cells #[.int .u8 (k : Int), .int .u8 (A : Int), .int .u8 (B : Int)] 75) none
 have s0 : (W1.alloc (.cells #[.int .u8 (k : Int), .int .u8 (A : Int), .int .u8 (B : Int)] 75)).cell? ⟨W1.heap.size, 0, none⟩ = some (.int .u8 (k : Int)) := by go_simp
 have s1 : (W1.alloc (.cells #[.int .u8 (k : Int), .int .u8 (A : Int), .int .u8 (B : Int)] 75)).cell? ⟨W1.heap.size, 1, none⟩ = some (.int .u8 (A : Int)) := by go_simp
 have s2 : (W1.alloc (.cells #[.int .u8 (k : Int), .int .u8 (A : Int), .int .u8 (B : Int)] 75)).cell? ⟨W1.heap.size, 2, none⟩ = some (.int .u8 (B : Int)) := by go_simp
 obtain ⟨W2, hW2⟩ : ∃ W, W1.alloc (.cells #[.int .u8 (k : Int), .int .u8 (A : Int), .int .u8 (B : Int)] 75) = W := ⟨_, rfl⟩
 rw [hW2] at hg2 s0 s1 s2
 have hg3 := gAl W2 (.cells #[.slice none 0 0] 30) none
 have e3 := BoxZ.new W2
 obtain ⟨V0, hV0⟩ : ∃ W, W2.alloc (.cells #[.slice none 0 0] 30) = W := ⟨_, rfl⟩
 rw [hV0] at hg3 e3
 have Hc := hid ((hb1.grown hg2).grown hg3)
 have HZ := hid e3
 have HR := hid (((hr.grown hg1).grown hg2).grown hg3)
 have HG := hid (gT (gT hg1 hg2) hg3)
 have HS1 := hid (show w.heap.size ≤ W2.heap.size from (gT hg1 hg2).size)
 have x0 := hg3.cell s0 (by simp)
 have x1 := hg3.cell s1 (by simp)
 have x2 := hg3.cell s2 (by simp)
 have q0 := Hc.out.1
 have z0 := HZ.out.1
 have zf := HZ.out.2
 have HE := hid e
 have HP := hid (And.intro hG (And.intro hl (And.intro hl2 hb)))
 have PA := hid (pick_le hb A)
 have PB := hid (pick_le hb B)
 have CA := hid (pick_calls refs A ra rc V0 HR.out hl2 hA hb)
 have CB' := hid (pick_calls refs B ra rc V0 HR.out hl2 hB hb)
 obtain ⟨pa, hpa⟩ : ∃ p, pickL refs A = p := ⟨_, rfl⟩
 obtain ⟨pb, hpb⟩ : ∃ p, pickL refs B = p := ⟨_, rfl⟩
 obtain ⟨rn, hrn⟩ : ∃ n, refs.length = n := ⟨_, rfl⟩
 rw [hpa] at PA CA
 rw [hpb] at PB CB'
 rw [hrn] at CA CB' ⊢
 clear h hr hG hl hl2 hb hg1 hg2 hg3 hb1 e3 s0 s1 s2 e hrn
 have hm : (k : Int).tmod 4 = ((k % 4 : Nat) : Int) := by rw [Int.tmod_eq_emod_of_nonneg (by omega)]; rfl
 have hm8 : (A : Int).tmod 8 = ((A % 8 : Nat) : Int) := by rw [Int.tmod_eq_emod_of_nonneg (by omega)]; rfl
 have hwA : IntKind.i64.wrap (A : Int) = (A : Int) := IntWalk.i64_in _ (by omega)
 have hw8 : IntKind.i64.wrap ((A % 8 : Nat) : Int) = ((A % 8 : Nat) : Int) := IntWalk.i64_in _ (by omega)
 have hw9 : IntKind.i64.wrap (((A % 8 : Nat) : Int) + 1) = ((A % 8 + 1 : Nat) : Int) := by rw [IntWalk.i64_in _ (by omega)]; omega
 by_cases h0 : k % 4 = 0
 ·
  have f0 : ((k : Int) % 4 == 0) = true := beqT (by omega)
  have EQ := hid (show inputC gs ((A % 8 + 1 : Nat) : Int) = (g, r) by have e := HE.out; unfold doC at e; simp only at e; rw [if_pos h0] at e; exact e)
  clear hpa hpb h0
  go_enter Try.func70, Try.ntmps70
  go_wp2_with fail
  go_at_call 71
  refine CA.out.mono ?_
  rintro e w9 ⟨rfl, hw9⟩
  rw [hw9]
  clear hw9 w9 CA
  go_wp2_with fail
  go_at_call 71
  refine CB'.out.mono ?_
  rintro e w9 ⟨rfl, hw9⟩
  rw [hw9]
  clear hw9 w9 CB'
  go_wp2_with fail
  refine (rinput_at _ EQ.out HP.out.1 (by have := HP.out.2.1; omega) Hc.out.2.2).mono ?_
  rintro e wM ⟨aM, cM, rfl, hr, gM⟩
  have zz := HZ.out.grown gM
  have hr1 := hid hr
  have g1 := hid gM
  have z1 := zz.1
  have z2 := zz.2
  clear hr gM z0 zf x0 x1 x2 q0
  go_wp2_with fail
  refine bodyPost_ret (results33 _ _ W2.heap.size aM _ cM _ rfl rfl (World.cell?_setCell_same _ _ _ z1)) rfl ⟨aM, cM, rfl, hr1.out.set z1 _, grown_own (gT HG.out g1.out) (grown_set wM W2.heap.size 0 _) (fun k e => by cases e; exact HS1.out)⟩
 by_cases h1 : k % 4 = 1
 ·
  have f0 : ((k : Int) % 4 == 0) = false := beqF (by omega)
  have f1 : ((k : Int) % 4 == 1) = true := beqT (by omega)
  have EQ := hid (show andC gs pa pb = (g, r) by have e := HE.out; unfold doC at e; simp only at e; rw [if_neg h0, if_pos h1] at e; rw [hpa, hpb] at e; exact e)
  clear hpa hpb h0 h1
  go_enter Try.func70, Try.ntmps70
  go_wp2_with fail
  go_at_call 71
  refine CA.out.mono ?_
  rintro e w9 ⟨rfl, hw9⟩
  rw [hw9]
  clear hw9 w9 CA
  go_wp2_with fail
  go_at_call 71
  refine CB'.out.mono ?_
  rintro e w9 ⟨rfl, hw9⟩
  rw [hw9]
  clear hw9 w9 CB'
  go_wp2_with fail
  refine (rand_at pa pb EQ.out HP.out.1 (by have := HP.out.2.1; omega) PA.out PB.out Hc.out.2.2).mono ?_
  rintro e wM ⟨aM, cM, rfl, hr, gM⟩
  have zz := HZ.out.grown gM
  have hr1 := hid hr
  have g1 := hid gM
  have z1 := zz.1
  have z2 := zz.2
  clear hr gM z0 zf x0 x1 x2 q0
  go_wp2_with fail
  refine bodyPost_ret (results33 _ _ W2.heap.size aM _ cM _ rfl rfl (World.cell?_setCell_same _ _ _ z1)) rfl ⟨aM, cM, rfl, hr1.out.set z1 _, grown_own (gT HG.out g1.out) (grown_set wM W2.heap.size 0 _) (fun k e => by cases e; exact HS1.out)⟩
 by_cases h2 : k % 4 = 2
 ·
  have f0 : ((k : Int) % 4 == 0) = false := beqF (by omega)
  have f1 : ((k : Int) % 4 == 1) = false := beqF (by omega)
  have f2 : ((k : Int) % 4 == 2) = true := beqT (by omega)
  have EQ := hid (show orC gs pa pb = (g, r) by have e := HE.out; unfold doC at e; simp only at e; rw [if_neg h0, if_neg h1, if_pos h2] at e; rw [hpa, hpb] at e; exact e)
  clear hpa hpb h0 h1 h2
  go_enter Try.func70, Try.ntmps70
  go_wp2_with fail
  go_at_call 71
  refine CA.out.mono ?_
  rintro e w9 ⟨rfl, hw9⟩
  rw [hw9]
  clear hw9 w9 CA
  go_wp2_with fail
  go_at_call 71
  refine CB'.out.mono ?_
  rintro e w9 ⟨rfl, hw9⟩
  rw [hw9]
  clear hw9 w9 CB'
  go_wp2_with fail
  refine (ror_at pa pb EQ.out HP.out.1 (by have := HP.out.2.1; omega) PA.out PB.out Hc.out.2.2).mono ?_
  rintro e wM ⟨aM, cM, rfl, hr, gM⟩
  have zz := HZ.out.grown gM
  have hr1 := hid hr
  have g1 := hid gM
  have z1 := zz.1
  have z2 := zz.2
  clear hr gM z0 zf x0 x1 x2 q0
  go_wp2_with fail
  refine bodyPost_ret (results33 _ _ W2.heap.size aM _ cM _ rfl rfl (World.cell?_setCell_same _ _ _ z1)) rfl ⟨aM, cM, rfl, hr1.out.set z1 _, grown_own (gT HG.out g1.out) (grown_set wM W2.heap.size 0 _) (fun k e => by cases e; exact HS1.out)⟩
 have f0 : ((k : Int) % 4 == 0) = false := beqF (by omega)
 have f1 : ((k : Int) % 4 == 1) = false := beqF (by omega)
 have f2 : ((k : Int) % 4 == 2) = false := beqF (by omega)
 have EQ := hid (show iffC gs pa pb = (g, r) by have e := HE.out; unfold doC at e; simp only at e; rw [if_neg h0, if_neg h1, if_neg h2] at e; rw [hpa, hpb] at e; exact e)
 clear hpa hpb h0 h1 h2
 go_enter Try.func70, Try.ntmps70
 go_wp2_with fail
 go_at_call 71
 refine CA.out.mono ?_
 rintro e w9 ⟨rfl, hw9⟩
 rw [hw9]
 clear hw9 w9 CA
 go_wp2_with fail
 go_at_call 71
 refine CB'.out.mono ?_
 rintro e w9 ⟨rfl, hw9⟩
 rw [hw9]
 clear hw9 w9 CB'
 go_wp2_with fail
 refine (riff_at pa pb EQ.out HP.out.1 (by have := HP.out.2.1; omega) PA.out PB.out Hc.out.2.2).mono ?_
 rintro e wM ⟨aM, cM, rfl, hr, gM⟩
 have zz := HZ.out.grown gM
 have hr1 := hid hr
 have g1 := hid gM
 have z1 := zz.1
 have z2 := zz.2
 clear hr gM z0 zf x0 x1 x2 q0
 go_wp2_with fail
 refine bodyPost_ret (results33 _ _ W2.heap.size aM _ cM _ rfl rfl (World.cell?_setCell_same _ _ _ z1)) rfl ⟨aM, cM, rfl, hr1.out.set z1 _, grown_own (gT HG.out g1.out) (grown_set wM W2.heap.size 0 _) (fun k e => by cases e; exact HS1.out)⟩

abbrev d2o0 : Oper := { dst := some 23, op := Op.call { callee := Callee.value (Operand.func 70), args := #[Operand.tmp 17, Operand.tmp 18, Operand.tmp 22], argTypes := #[30, 31, 75] }, type := 43, pos := "ref.go:167", after := #[{ on := 0, ground := Ground.data }, { on := 1, ground := Ground.data }, { on := 5, ground := Ground.data }], guard := none }
abbrev d2o1 : Oper := { dst := some 7, op := Op.alloc 30, type := 0, pos := "ref.go:167", after := #[], guard := none }
abbrev d2o2 : Oper := { dst := some 16, op := Op.move (Operand.tmp 23), type := 43, pos := "ref.go:167", after := #[{ on := 6, ground := Ground.data }], guard := none }
abbrev d2o3 : Oper := { dst := some 24, op := Op.extract (Operand.tmp 16) 0, type := 30, pos := "ref.go:167", after := #[{ on := 7, ground := Ground.data }], guard := none }
abbrev d2o4 : Oper := { dst := some 25, op := Op.extract (Operand.tmp 16) 1, type := 3, pos := "ref.go:167", after := #[{ on := 7, ground := Ground.data }, { on := 11, ground := Ground.gcOnly Departure.lateStores }], guard := none }
abbrev d2o5 : Oper := { dst := none, op := Op.store 30 (Operand.tmp 7) (Operand.tmp 24), type := 0, pos := "ref.go:167", after := #[{ on := 10, ground := Ground.data }, { on := 8, ground := Ground.data }, { on := 6, ground := Ground.chain }, { on := 0, ground := Ground.phase }, { on := 1, ground := Ground.phase }, { on := 2, ground := Ground.phase }, { on := 3, ground := Ground.phase }, { on := 4, ground := Ground.phase }, { on := 5, ground := Ground.phase }, { on := 6, ground := Ground.phase }, { on := 7, ground := Ground.phase }, { on := 8, ground := Ground.phase }, { on := 9, ground := Ground.textOnly Departure.lateStores }, { on := 10, ground := Ground.phase }], guard := none }
abbrev d2o6 : Oper := { dst := some 8, op := Op.assign (Operand.tmp 25), type := 3, pos := "ref.go:167", after := #[{ on := 9, ground := Ground.data }, { on := 11, ground := Ground.chain }, { on := 0, ground := Ground.phase }, { on := 1, ground := Ground.phase }, { on := 2, ground := Ground.phase }, { on := 3, ground := Ground.phase }, { on := 4, ground := Ground.phase }, { on := 5, ground := Ground.phase }, { on := 6, ground := Ground.phase }, { on := 7, ground := Ground.phase }, { on := 8, ground := Ground.phase }, { on := 9, ground := Ground.phase }, { on := 10, ground := Ground.phase }, { on := 11, ground := Ground.phase }], guard := none }
def bstep (p : List Gt × List Int) (s : Stp) : List Gt × List Int := ((doC p.1 p.2 s).1, p.2 ++ [(doC p.1 p.2 s).2])
def buildC (l : List Stp) : List Gt × List Int := l.foldl bstep ([(0, 0, 0)], [])
theorem build_snoc (l : List Stp) (s : Stp) : buildC (l ++ [s]) = bstep (buildC l) s := by unfold buildC; rw [List.foldl_append]; rfl
theorem pick_ok {gs : List Gt} (hp : 1 ≤ gs.length) {refs : List Int} (h : ∀ r ∈ refs, Ok gs r) (n : Nat) : Ok gs (pickL refs n) := by
 have h0 : Ok gs (pick0 refs n) := by
  unfold pick0
  split
  · exact ⟨by omega, by omega⟩
  ·
   cases hg : refs[n / 2 % (refs.length + 1) - 1]? with
   | none => exact ⟨by simp, by simp; omega⟩
   | some r => exact h r (List.mem_of_getElem? hg)
 unfold pickL
 split
 · exact notR_ok h0
 · exact h0
theorem do_step {gs : List Gt} (hG : Good gs) (hl : gs.length ≤ 1000) {refs : List Int} (h : ∀ r ∈ refs, Ok gs r) (s : Stp) : Step gs (doC gs refs s) ∧ Ok (doC gs refs s).1 (doC gs refs s).2 ∧ (doC gs refs s).1.length ≤ gs.length + 3 := by
 have hp := hG.pos
 have oa := pick_ok hp h s.2.1
 have ob := pick_ok hp h s.2.2
 unfold doC
 split
 · exact ⟨step_input hG _, input_ok (by omega) (by omega) (by omega), by have := input_len (gs := gs) ((s.2.1 % 8 + 1 : Nat) : Int); omega⟩
 ·
  split
  · exact ⟨step_and hG _ _, and_ok hG (by omega) oa ob, by have := and_len (gs := gs) (pickL refs s.2.1) (pickL refs s.2.2); omega⟩
  ·
   split
   · exact ⟨step_or hG _ _, or_ok hG (by omega) oa ob, by have := or_len (gs := gs) (pickL refs s.2.1) (pickL refs s.2.2); omega⟩
   · exact ⟨step_iff hG _ _, iff_ok hG (by omega) oa ob, by have := iff_len (gs := gs) (pickL refs s.2.1) (pickL refs s.2.2); omega⟩
structure Built (p : List Gt × List Int) (k : Nat) : Prop where
 good : Good p.1
 len : p.1.length ≤ 1 + 3 * k
 refs : p.2.length = k
 ok : ∀ r ∈ p.2, Ok p.1 r
theorem built_nil : Built ([(0, 0, 0)], []) 0 := ⟨good_new, by simp, rfl, by simp⟩
theorem Built.step {p : List Gt × List Int} {k : Nat} (h : Built p k) (hk : k ≤ 300) (s : Stp) : Built (bstep p s) (k + 1) := by
 obtain ⟨h1, h2, h3⟩ := do_step h.good (by have := h.len; omega) h.ok s
 refine ⟨h1.good, by have := h.len; show (doC p.1 p.2 s).1.length ≤ _; omega, by show (p.2 ++ [(doC p.1 p.2 s).2]).length = _; rw [List.length_append, h.refs]; rfl, fun r hr => ?_⟩
 rcases List.mem_append.1 (show r ∈ p.2 ++ [(doC p.1 p.2 s).2] from hr) with hr | hr
 · exact (h.ok r hr).grow h1.pre
 · rw [List.mem_singleton.1 hr]; exact h2
theorem built_take (l : List Stp) (hl : l.length ≤ 300) : ∀ k, k ≤ l.length → Built (buildC (l.take k)) k
 | 0, _ => by rw [List.take_zero]; exact built_nil
 | k + 1, hk => by
  obtain ⟨s, hs⟩ : ∃ s, l[k]? = some s := ⟨_, List.getElem?_eq_getElem (by omega)⟩
  rw [List.take_add_one, hs, show (some s).toList = [s] from rfl, build_snoc]
  exact (built_take l hl k (by omega)).step (by omega) s
theorem built (l : List Stp) (hl : l.length ≤ 300) : Built (buildC l) l.length := by
 have := built_take l hl l.length (Nat.le_refl _)
 rwa [List.take_length] at this
theorem build_take_succ {l : List Stp} {k : Nat} {s : Stp} (hs : l[k]? = some s) : buildC (l.take (k + 1)) = bstep (buildC (l.take k)) s := by rw [List.take_add_one, hs, show (some s).toList = [s] from rfl, build_snoc]
theorem ok_le {gs : List Gt} (hl : gs.length ≤ 20000) {refs : List Int} (h : ∀ r ∈ refs, Ok gs r) : ∀ r ∈ refs, r ≤ 9223372036854775807 := fun r hr => by have := (h r hr).2; omega

theorem GatesW.past {w w' : World} {a : Option Addr} {c : Nat} {gs : List Gt} {B n k : Nat} {e : TypeId} {v : Value} {xs : List Value} (h : GatesW w a c gs) (hown : w.ownsRow B e k v n xs) (he : e ≠ 99) (hg : w.grownBy w' v.ownBlock) : GatesW w' a c gs := by
 obtain ⟨hc, h | ⟨b, o, ha, ht, hz⟩⟩ := h
 · exact ⟨hc, .inl h⟩
 ·
  have hne : some b ≠ v.ownBlock := fun e2 => by
   rcases hown.2 with ⟨rfl, _⟩ | ⟨g, cap, cur, rfl, _, hg, _⟩
   · cases e2
   ·
    injection e2 with e2
    have e2' : b = g := e2
    subst e2'
    obtain ⟨c2, f2, h2⟩ := ht
    rw [hg] at h2
    cases h2
    exact he rfl
  exact ⟨hc, .inr ⟨b, o, ha, ht.grown hg hne, fun j g hj => (hz j g hj).moved hg hne⟩⟩
theorem CB.past {w w' : World} {b B n k : Nat} {a : Option Addr} {c : Nat} {g : List Gt} {e : TypeId} {v : Value} {xs : List Value} (h : CB w b a c g) (hb : b < B) (hown : w.ownsRow B e k v n xs) (he : e ≠ 99) (hg : w.grownBy w' v.ownBlock) : CB w' b a c g := by
 have hne : some b ≠ v.ownBlock := fun e2 => by have := (hown.lt b e2.symm).1; omega
 exact ⟨hg.cell h.1 hne, (World.frozen?_of_block (a := ⟨b, 0, none⟩) (hg.block b (lies_lt h.1) hne)).trans h.2.1, h.2.2.past hown he hg⟩

def StpAt (w : World) (b o : Nat) (s : Stp) : Prop :=
 w.cell? ⟨b, o, none⟩ = some (.int .u8 (s.1 : Int)) ∧ w.cell? ⟨b, o + 1, none⟩ = some (.int .u8 (s.2.1 : Int)) ∧ w.cell? ⟨b, o + 2, none⟩ = some (.int .u8 (s.2.2 : Int))
theorem StpAt.grown {w w' : World} {b o : Nat} {g : Stp} (h : StpAt w b o g) (hg : w.grownBy w' none) : StpAt w' b o g := ⟨hg.cell h.1 (by simp), hg.cell h.2.1 (by simp), hg.cell h.2.2 (by simp)⟩
def StpsW (w : World) (a : Option Addr) (c : Nat) (gs : List Stp) : Prop :=
 gs.length ≤ c ∧ (gs = [] ∨ ∃ b o, a = some ⟨b, o, none⟩ ∧ ∀ (j : Nat) (g : Stp), gs[j]? = some g → StpAt w b (o + j * 3) g)
theorem StpsW.grown {w w' : World} {a : Option Addr} {c : Nat} {gs : List Stp} (h : StpsW w a c gs) (hg : w.grownBy w' none) : StpsW w' a c gs := by
 obtain ⟨hc, h | ⟨b, o, ha, hz⟩⟩ := h
 · exact ⟨hc, .inl h⟩
 · exact ⟨hc, .inr ⟨b, o, ha, fun j z hj => (hz j z hj).grown hg⟩⟩
theorem StpsW.at {w : World} {a : Option Addr} {c : Nat} {gs : List Stp} (h : StpsW w a c gs) {i : Nat} {g : Stp} (hz : gs[i]? = some g) : ∃ b o, a = some ⟨b, o, none⟩ ∧ StpAt w b (o + i * 3) g := by
 obtain ⟨_, h | ⟨b, o, ha, hc⟩⟩ := h
 · rw [h] at hz; simp at hz
 · exact ⟨b, o, ha, hc i g hz⟩
theorem rdo_len {gs g : List Gt} {r : Int} {refs : List Int} {n : Nat} (hn : refs.length = n) (s : Stp) (a : Option Addr) (c : Nat) (ra : Option Addr) (rc : Nat) (w : World) (e : doC gs refs s = (g, r)) (h : GatesW w a c gs) (hr : IntsW w ra rc refs) (hG : Good gs) (hl : gs.length ≤ 880) (hl2 : refs.length ≤ 1000) (hb : ∀ r ∈ refs, r ≤ 9223372036854775807) (hs : StpOk s) :
  Calls Try.prog 70 #[.agg #[.slice a gs.length c], .slice ra n rc, stpV s] w (Ans w g r) := by
 subst hn
 exact rdo_calls refs s a c ra rc w e h hr hG hl hl2 hb hs
theorem results11 (tmps : Array Value) (w : World) (b : Nat) (a : Option Addr) (n c : Nat) (x : Value) (ht : tmps.getD 2 undef = .pointer (some ⟨b, 0, none⟩)) (hs : tmps.getD 3 undef = x) (h0 : w.cell? ⟨b, 0, none⟩ = some (.slice a n c)) :
  (results Try.f13 tmps).run Try.prog w = .ok (.tuple #[.agg #[.slice a n c], x]) w := by
 have ht' : tmps[2]?.getD undef = .pointer (some ⟨b, 0, none⟩) := by simpa using ht
 have hs' : tmps[3]?.getD undef = x := by simpa using hs
 simp [results, ht', hs', go_sem, h0, Result.andThen]

theorem rbuild_calls {g : List Gt} {refs : List Int} (l : List Stp) (sa : Option Addr) (sc : Nat) (w : World) (e : buildC l = (g, refs)) (h : StpsW w sa sc l) (hl : l.length ≤ 60) (hs : ∀ s ∈ l, StpOk s) :
  Calls Try.prog 13 #[.slice sa l.length sc] w fun x w' => ∃ a c ra rc, x = .returned (.tuple #[.agg #[.slice a g.length c], .slice ra refs.length rc]) ∧ GatesW w' a c g ∧ IntsW w' ra rc refs ∧ w.grownBy w' none := by
 obtain ⟨n, hn⟩ : ∃ n, l.length = n := ⟨_, rfl⟩
 have hg0 := gAl w (.cells #[.slice none 0 0] 30) none
 have e0 := BoxZ.new w
 obtain ⟨V0, hV0⟩ : ∃ W, w.alloc (.cells #[.slice none 0 0] 30) = W := ⟨_, rfl⟩
 rw [hV0] at hg0 e0
 have HZ := hid e0
 have HSL := hid (h.grown hg0)
 have HOK := hid (And.intro e hs)
 have HN := hid hn
 have HB := hid (fun k (hk : k ≤ n) => built_take l (by omega) k (by omega))
 have HG0 := hid hg0
 have HLT := hid (show w.heap.size < V0.heap.size from lies_lt e0.1)
 obtain ⟨i0, hi0, hz0, hz1, hz2⟩ := info_parts info3
 rw [hn] at hl ⊢
 clear e h hs hg0 hn e0
 go_enter Try.func13, Try.ntmps13
 go_wp2_with fail
 clear hV0
 refine (rnew_calls _).mono ?_
 rintro e V1 ⟨y, rfl, ⟨a0, c0, rfl, hr⟩, g1⟩
 go_upto_region 2 with fail
 have hb := CB.new hr
 have g2 := gAl V1 (.cells #[.slice a0 ([(0, 0, 0)] : List Gt).length c0] 30) none
 have hbc : V0.heap.size ≤ V1.heap.size := g1.size
 replace hb : CB (V1.alloc (.cells #[.slice a0 1 c0] 30)) V1.heap.size a0 c0 [(0, 0, 0)] := hb
 replace g2 : V1.grownBy (V1.alloc (.cells #[.slice a0 1 c0] 30)) none := g2
 have hsz : V1.heap.size < (V1.alloc (.cells #[.slice a0 1 c0] 30)).heap.size := by simp
 obtain ⟨V2, hV2⟩ : ∃ z, World.alloc V1 (.cells #[.slice a0 1 c0] 30) = z := ⟨_, rfl⟩
 rw [hV2] at hb g2 hsz ⊢
 clear hV2 hr
 obtain ⟨bc, hbb⟩ : ∃ b, V1.heap.size = b := ⟨_, rfl⟩
 rw [hbb] at hb hbc hsz ⊢
 clear hbb
 have HBC := hid (And.intro hbc hsz)
 have HG2 := hid (gT g1 g2)
 have HB0 := hid hb
 clear g1 g2 hb hbc hsz
 go_wp2_with fail
 go_loopg [5, 6] n (fun gk s5 s6 wr => ∃ (k : Nat) (ra : Option Addr) (rc : Nat) (a : Option Addr) (c : Nat), s5 = .slice ra k rc ∧ s6 = .int .i64 (k : Int) ∧ gk = n - k ∧ k ≤ n ∧ wr.ownsRow V2.heap.size 3 1 (.slice ra k rc) k (intCells (buildC (l.take k)).2) ∧ CB wr bc a c (buildC (l.take k)).1 ∧ V0.grownBy wr none ∧ V2.heap.size ≤ wr.heap.size)
 case atStart => exact ⟨0, none, 0, a0, c0, rfl, rfl, rfl, Nat.zero_le _, World.ownsRow_nil _ _ _ _, HB0.out, HG2.out, Nat.le_refl _⟩
 case round =>
  obtain ⟨k, ra, rc, a, c, rfl, rfl, hgk, hk, hown, hcb, hgr, hsz2⟩ := hrel
  have HI := hid hgk; clear hgk
  have HOW := hid hown; clear hown
  have HBK := hid (HB.out k hk)
  obtain ⟨gg, hgg⟩ : ∃ z, buildC (l.take k) = z := ⟨_, rfl⟩
  obtain ⟨gs, rs⟩ := gg
  rw [hgg] at HOW HBK hcb
  have Hc := hid hcb; clear hcb
  have HGR := hid hgr; clear hgr
  have HS2 := hid hsz2; clear hsz2
  have HGG := hid hgg; clear hgg
  have HRS := hid (show rs.length = k from HBK.out.refs)
  have q0 := Hc.out.1
  have qf := Hc.out.2.1
  by_cases hkn : k < n
  ·
   have f1 : decide (k < n) = true := decide_eq_true hkn
   have hk1 : IntKind.i64.wrap ((k : Int) + 1) = ((k + 1 : Nat) : Int) := by rw [IntWalk.i64_in _ (by omega)]; omega
   have hjn : (k : Int) < (n : Int) := by omega
   have hj0 : (0 : Int) ≤ (k : Int) := by omega
   obtain ⟨s, hs⟩ : ∃ s, l[k]? = some s := ⟨_, List.getElem?_eq_getElem (by rw [HN.out]; omega)⟩
   obtain ⟨ba, oa, rfl, x0, x1, x2⟩ := (HSL.out.grown HGR.out).at hs
   obtain ⟨g2, r2, e2⟩ : ∃ g r, doC gs rs s = (g, r) := ⟨_, _, rfl⟩
   have HE2 := hid e2
   have HST := hid (show buildC (l.take (k + 1)) = (g2, rs ++ [r2]) by rw [build_take_succ hs, HGG.out]; unfold bstep; simp only; rw [e2])
   have HSO := hid (HOK.out.2 s (List.mem_of_getElem? hs))
   have HRW := hid (show IntsW wr ra rc rs from by
    have h1 := HOW.out
    rw [← HRS.out] at h1
    obtain ⟨a', c', e', hs'⟩ := ints_span h1
    cases e'
    exact hs'.here.weak)
   have HX := hid (And.intro x0 (And.intro x1 x2))
   clear hs e2 x0 x1 x2
   go_upto_region 6 with fail
   clear q0 qf
   have HG := hid HGR.out
   have HGW := hid (grown_refl wr none)
   go_cut [7, 8] (fun s0 s1 wx => ∃ b a c, s0 = .pointer (some ⟨b, 0, none⟩) ∧ s1 = .int .i64 (r2) ∧ wr.heap.size ≤ b ∧ CB wx b a c g2 ∧ wr.grownBy wx none)
   case first =>
    have HS := hid (fun (Wh : World) (hWh : wr.grownBy Wh none) => (⟨hWh, hWh.cell Hc.out.1 (by simp), hWh.cell HX.out.1 (by simp), hWh.cell HX.out.2.1 (by simp), hWh.cell HX.out.2.2 (by simp)⟩ : (fun Wh : World => wr.grownBy Wh none ∧ Wh.cell? ⟨bc, 0, none⟩ = some (.slice a gs.length c) ∧ Wh.cell? ⟨ba, oa + k * 3, none⟩ = some (.int .u8 (s.1 : Int)) ∧ Wh.cell? ⟨ba, oa + k * 3 + 1, none⟩ = some (.int .u8 (s.2.1 : Int)) ∧ Wh.cell? ⟨ba, oa + k * 3 + 2, none⟩ = some (.int .u8 (s.2.2 : Int))) Wh))
    have hdr : wr.grownBy wr.drew none := ⟨rfl, rfl, rfl, Nat.le_refl _, fun _ _ _ => rfl⟩
    refine wp_region_held_drew (S := (fun Wh : World => wr.grownBy Wh none ∧ Wh.cell? ⟨bc, 0, none⟩ = some (.slice a gs.length c) ∧ Wh.cell? ⟨ba, oa + k * 3, none⟩ = some (.int .u8 (s.1 : Int)) ∧ Wh.cell? ⟨ba, oa + k * 3 + 1, none⟩ = some (.int .u8 (s.2.1 : Int)) ∧ Wh.cell? ⟨ba, oa + k * 3 + 2, none⟩ = some (.int .u8 (s.2.2 : Int)))) (by kernel_rfl) (HS.out _ hdr) (fun hH => ?_)
    refine tq 0 ({ dst := some 17, op := Op.load 30 (Operand.tmp 4), type := 30, pos := "ref.go:167", after := #[], guard := none }) ?_ ?_ hH ?_
    rotate_left 1
    · (intro W h; (try dsimp only at h); go_simp <;> with_reducible rfl)
    try simp only [Act.put, sA, sB, sC]
    refine tq 1 ({ dst := some 18, op := Op.move (Operand.tmp 5), type := 31, pos := "ref.go:167", after := #[], guard := none }) ?_ ?_ hH ?_
    rotate_left 1
    · (intro W h; (try dsimp only at h); go_simp <;> with_reducible rfl)
    try simp only [Act.put, sA, sB, sC]
    refine tq 2 ({ dst := some 19, op := Op.move (Operand.tmp 0), type := 22, pos := "ref.go:167", after := #[], guard := none }) ?_ ?_ hH ?_
    rotate_left 1
    · (intro W h; (try dsimp only at h); go_simp <;> with_reducible rfl)
    try simp only [Act.put, sA, sB, sC]
    refine tq 3 ({ dst := some 20, op := Op.move (Operand.tmp 6), type := 3, pos := "ref.go:167", after := #[], guard := none }) ?_ ?_ hH ?_
    rotate_left 1
    · (intro W h; (try dsimp only at h); go_simp <;> with_reducible rfl)
    try simp only [Act.put, sA, sB, sC]
    refine tq 4 ({ dst := some 21, op := Op.indexAddr 22 (Operand.tmp 19) (Operand.tmp 20), type := 0, pos := "ref.go:167", after := #[{ on := 2, ground := Ground.data }, { on := 3, ground := Ground.data }], guard := none }) ?_ ?_ hH ?_
    rotate_left 1
    · (intro W h; (try dsimp only at h); go_simp <;> with_reducible rfl)
    try simp only [Act.put, sA, sB, sC]
    refine tq 5 ({ dst := some 22, op := Op.load 75 (Operand.tmp 21), type := 75, pos := "ref.go:167", after := #[{ on := 4, ground := Ground.data }], guard := none }) ?_ ?_ hH ?_
    rotate_left 1
    · (intro W h; (try dsimp only at h); go_simp <;> with_reducible rfl)
    try simp only [Act.put, sA, sB, sC]
    refine wpAnyH_ready (rs := [6, 10]) (by kernel_rfl) (by simp) ?_
    refine (AllReadyH.cons (o := d2o0) rfl (fun K hK => ?_) (AllReadyH.cons (o := d2o1) rfl (fun K hK => ?_) AllReadyH.nil))
    ·
     rw [if_pos (by rfl)]
     go_simp
     go_at_call 70
     refine (rdo_len (n := k) HRS.out s a c ra rc _ HE2.out ((Hc.out.grown hdr)).2.2 (HRW.out.grown hdr) HBK.out.good (by have := HBK.out.len; simp only at this; omega) (by have := HRS.out; omega) (ok_le (gs := gs) (by have := HBK.out.len; simp only at this; omega) HBK.out.ok) HSO.out).mono ?_
     rintro e wM ⟨aM, cM, rfl, hr, gM⟩
     have hgM := gT hdr gM
     go_wp2_with fail
     refine hK.out _ _ (HS.out _ hgM) (fun hH => ?_)
     clear hK K
     try simp only [Act.put, sA, sB, sC]
     refine tq 7 d2o2 ?_ ?_ hH ?_
     rotate_left 1
     · (intro W h; (try dsimp only at h); go_simp <;> with_reducible rfl)
     try simp only [Act.put, sA, sB, sC]
     refine tq 8 d2o3 ?_ ?_ hH ?_
     rotate_left 1
     · (intro W h; (try dsimp only at h); go_simp <;> with_reducible rfl)
     try simp only [Act.put, sA, sB, sC]
     refine tq 9 d2o4 ?_ ?_ hH ?_
     rotate_left 1
     · (intro W h; (try dsimp only at h); go_simp <;> with_reducible rfl)
     try simp only [Act.put, sA, sB, sC]
     refine wpAnyH_ready (rs := [10]) (by kernel_rfl) (by simp) ?_
     refine (AllReadyH.cons (o := d2o1) rfl (fun K hK => ?_) AllReadyH.nil)
     rw [if_pos (by rfl)]
     go_simp
     have hgA : wr.grownBy (World.alloc wM (.cells #[.slice none 0 0] 30)) none := gT hgM (gAl wM (.cells #[.slice none 0 0] 30) none)
     have hz : BoxZ (World.alloc wM (.cells #[.slice none 0 0] 30)) (wM.heap.size) := BoxZ.new wM
     have hge0 : wr.heap.size ≤ wM.heap.size := World.grownBy.size hgM
     have hge : ∀ p, wM.heap.size = p → wr.heap.size ≤ p := fun p e => by rw [← e]; exact hge0
     clear hge0
     replace hr := hr.grown (gAl wM (.cells #[.slice none 0 0] 30) none)
     obtain ⟨WA, hWA⟩ : ∃ z, World.alloc wM (.cells #[.slice none 0 0] 30) = z := ⟨_, rfl⟩
     rw [hWA] at hgA hz ⊢
     rw [hWA] at hr
     clear hWA
     obtain ⟨pA, hpA⟩ : ∃ p, wM.heap.size = p := ⟨_, rfl⟩
     replace hge := hge pA hpA
     rw [hpA] at hz ⊢
     clear hpA
     refine hK.out _ _ (HS.out _ hgA) (fun hH => ?_)
     clear hK K
     try simp only [Act.put, sA, sB, sC]
     refine wpAnyH_ready (rs := [11]) (by kernel_rfl) (by simp) ?_
     refine (AllReadyH.cons (o := d2o5) rfl (fun K hK => ?_) AllReadyH.nil)
     rw [if_pos (by rfl)]
     have z0 := hz.1
     have zf := hz.2
     go_simp
     clear z0 zf
     have hcb := CB.put hr hz.1 hz.2
     have hgS := grown_own hgA (grown_set WA pA 0 (.slice aM g2.length cM)) (fun k hk => by cases hk; exact hge)
     obtain ⟨WS, hWS⟩ : ∃ z, World.setCell WA ⟨pA, 0, none⟩ (.slice aM g2.length cM) = z := ⟨_, rfl⟩
     rw [hWS] at hcb hgS ⊢
     clear hWS
     refine hK.out _ _ (HS.out _ hgS) (fun hH => ?_)
     clear hK K
     try simp only [Act.put, sA, sB, sC]
     refine tq 12 d2o6 ?_ ?_ hH ?_
     rotate_left 1
     · (intro W h; (try dsimp only at h); go_simp <;> with_reducible rfl)
     try simp only [Act.put, sA, sB, sC]
     refine wpAnyH_done (by kernel_rfl) ?_ _
     have hEND := hgS
     clear hH
     go_wp2_with fail
     go_meet
     exact ⟨pA, aM, cM, rfl, rfl, hge, hcb, hEND⟩
    ·
     rw [if_pos (by rfl)]
     go_simp
     have hgA : wr.grownBy ((World.alloc wr (.cells #[.slice none 0 0] 30)).drew) none := gT (gAl wr (.cells #[.slice none 0 0] 30) none) (⟨rfl, rfl, rfl, Nat.le_refl _, fun _ _ _ => rfl⟩ : (World.alloc wr (.cells #[.slice none 0 0] 30)).grownBy (World.alloc wr (.cells #[.slice none 0 0] 30)).drew none)
     have hz : BoxZ ((World.alloc wr (.cells #[.slice none 0 0] 30)).drew) (wr.heap.size) := (BoxZ.new wr).grown (⟨rfl, rfl, rfl, Nat.le_refl _, fun _ _ _ => rfl⟩ : (World.alloc wr (.cells #[.slice none 0 0] 30)).grownBy (World.alloc wr (.cells #[.slice none 0 0] 30)).drew none)
     have hge0 : wr.heap.size ≤ wr.heap.size := Nat.le_refl _
     have hge : ∀ p, wr.heap.size = p → wr.heap.size ≤ p := fun p e => by rw [← e]; exact hge0
     clear hge0
     obtain ⟨WA, hWA⟩ : ∃ z, (World.alloc wr (.cells #[.slice none 0 0] 30)).drew = z := ⟨_, rfl⟩
     rw [hWA] at hgA hz ⊢
     clear hWA
     obtain ⟨pA, hpA⟩ : ∃ p, wr.heap.size = p := ⟨_, rfl⟩
     replace hge := hge pA hpA
     rw [hpA] at hz ⊢
     clear hpA
     refine hK.out _ _ (HS.out _ hgA) (fun hH => ?_)
     clear hK K
     try simp only [Act.put, sA, sB, sC]
     refine wpAnyH_ready (rs := [6]) (by kernel_rfl) (by simp) ?_
     refine (AllReadyH.cons (o := d2o0) rfl (fun K hK => ?_) AllReadyH.nil)
     rw [if_pos (by rfl)]
     go_simp
     go_at_call 70
     refine (rdo_len (n := k) HRS.out s a c ra rc _ HE2.out ((Hc.out.grown hgA)).2.2 (HRW.out.grown hgA) HBK.out.good (by have := HBK.out.len; simp only at this; omega) (by have := HRS.out; omega) (ok_le (gs := gs) (by have := HBK.out.len; simp only at this; omega) HBK.out.ok) HSO.out).mono ?_
     rintro e wM ⟨aM, cM, rfl, hr, gM⟩
     have hgM := gT hgA gM
     replace hz := hz.grown gM
     go_wp2_with fail
     refine hK.out _ _ (HS.out _ hgM) (fun hH => ?_)
     clear hK K
     try simp only [Act.put, sA, sB, sC]
     refine tq 7 d2o2 ?_ ?_ hH ?_
     rotate_left 1
     · (intro W h; (try dsimp only at h); go_simp <;> with_reducible rfl)
     try simp only [Act.put, sA, sB, sC]
     refine tq 8 d2o3 ?_ ?_ hH ?_
     rotate_left 1
     · (intro W h; (try dsimp only at h); go_simp <;> with_reducible rfl)
     try simp only [Act.put, sA, sB, sC]
     refine tq 9 d2o4 ?_ ?_ hH ?_
     rotate_left 1
     · (intro W h; (try dsimp only at h); go_simp <;> with_reducible rfl)
     try simp only [Act.put, sA, sB, sC]
     refine wpAnyH_ready (rs := [11]) (by kernel_rfl) (by simp) ?_
     refine (AllReadyH.cons (o := d2o5) rfl (fun K hK => ?_) AllReadyH.nil)
     rw [if_pos (by rfl)]
     have z0 := hz.1
     have zf := hz.2
     go_simp
     clear z0 zf
     have hcb := CB.put hr hz.1 hz.2
     have hgS := grown_own hgM (grown_set wM pA 0 (.slice aM g2.length cM)) (fun k hk => by cases hk; exact hge)
     obtain ⟨WS, hWS⟩ : ∃ z, World.setCell wM ⟨pA, 0, none⟩ (.slice aM g2.length cM) = z := ⟨_, rfl⟩
     rw [hWS] at hcb hgS ⊢
     clear hWS
     refine hK.out _ _ (HS.out _ hgS) (fun hH => ?_)
     clear hK K
     try simp only [Act.put, sA, sB, sC]
     refine tq 12 d2o6 ?_ ?_ hH ?_
     rotate_left 1
     · (intro W h; (try dsimp only at h); go_simp <;> with_reducible rfl)
     try simp only [Act.put, sA, sB, sC]
     refine wpAnyH_done (by kernel_rfl) ?_ _
     have hEND := hgS
     clear hH
     go_wp2_with fail
     go_meet
     exact ⟨pA, aM, cM, rfl, rfl, hge, hcb, hEND⟩
   case rest =>
    obtain ⟨bd, a1, c1, rfl, rfl, hle, hb, g⟩ := hcut
    obtain ⟨V1, rfl⟩ : ∃ z, z = wc := ⟨_, rfl⟩
    have SZd := hid (show wr.heap.size ≤ V1.heap.size from World.grownBy.size g)
    replace Hc := hid (Hc.out.grown g)
    replace HG := hid (gT HG.out g)
    replace HGW := hid (gT HGW.out g)
    clear g
    have Hd := hid hb
    have Ld := hid hle
    clear hb hle
    have qc := Hc.out.1
    have fc := Hc.out.2.1
    have qd := Hd.out.1
    have fd := Hd.out.2.1
    go_upto_region 7 with fail
    clear qc fc qd fd
    have qc := Hc.out.1
    have fc := Hc.out.2.1
    have qd := Hd.out.1
    have fd := Hd.out.2.1
    go_upto_region 8 with fail
    clear qc fc qd fd
    have hb := CB.put Hd.out.2.2 Hc.out.1 Hc.out.2.1
    have hg := grown_own HG.out (grown_set V1 bc 0 (.slice a1 g2.length c1)) (fun k e => by cases e; exact HBC.out.1)
    have hwv := HGW.out
    have how := (own_grown HOW.out hwv).kept (grown_set V1 bc 0 (.slice a1 g2.length c1)) (own_ne (own_grown HOW.out hwv) HBC.out.2)
    have hs3 := Nat.le_trans (Nat.le_trans HS2.out (World.grownBy.size hwv)) (grown_set V1 bc 0 (.slice a1 g2.length c1)).size
    obtain ⟨V3, hV3⟩ : ∃ z, World.setCell V1 ⟨bc, 0, none⟩ (.slice a1 g2.length c1) = z := ⟨_, rfl⟩
    rw [hV3] at hb hg how hs3 ⊢
    clear hV3 hwv
    have HC3 := hid hb
    have HG3 := hid hg
    have HO3 := hid how
    have HS3 := hid hs3
    clear hb hg how hs3
    go_wp2_with (at_builtin; refine wpList_append_own_at _ rfl _ _ 31 rfl V2.heap.size 3 i0 (.int .i64 0) 1 8 Try.underlying31 hi0 hz0 hz1 hz2 rfl (by decide) _ k (intCells rs) rfl (HO3.out.alloc _) ⟨V3.heap.size, 0, none⟩ 1 1 [.int .i64 r2] rfl rfl (cell_one_new _ _ _) (fun u hu => by simp at hu; subst hu; rfl) (by unfold maxLen; omega) (by omega) (by have := HS3.out; simp; omega) ?_)
    intro v' w6 hown' hgrow6 _ hat6
    obtain ⟨rgA, rcA, rfl⟩ := own_shape hown'
    have haA := gAl V3 (.cells #[.int .i64 r2] 3) none
    have HE := hid (And.intro ((HC3.out.grown haA).past HBC.out.2 (HO3.out.alloc _) (by decide) hgrow6) (And.intro (grown_own (gT HG3.out haA) hgrow6 (fun j e => by have h1 := ((HO3.out.alloc (.cells #[.int .i64 r2] 3)).lt j e).1; have h2 := HBC.out; omega)) (Nat.le_trans (Nat.le_trans HS3.out haA.size) hgrow6.size)))
    have HOW6 := hid (show w6.ownsRow V2.heap.size 3 1 (.slice rgA (k + 1) rcA) (k + 1) (intCells (rs ++ [r2])) by rw [intCells, List.map_append]; exact hown')
    clear hown' hgrow6 haA hat6
    go_wp2_with fail
    go_roundg (n - (k + 1))
    case measure => rw [HI.out]; omega
    case rel => exact ⟨k + 1, rgA, rcA, a1, c1, rfl, rfl, rfl, by omega, by rw [HST.out]; exact HOW6.out, by rw [HST.out]; exact HE.out.1, HE.out.2.1, HE.out.2.2⟩
  ·
   have f1 : decide (k < n) = false := decide_eq_false hkn
   have hkE : k = n := by omega
   have HRR := hid (show (g, refs) = (gs, rs) by rw [← HOK.out.1, ← HGG.out, hkE, ← HN.out, List.take_length])
   clear hkE
   have z := HZ.out.grown HGR.out
   have z1 := z.1
   have z2 := z.2
   clear z
   go_wp2_with fail
   have hE := HRR.out
   injection hE with hE1 hE2
   subst hE1 hE2
   have h1 := HOW.out
   rw [← HRS.out] at h1
   obtain ⟨a', c', e', hs'⟩ := ints_span h1
   cases e'
   refine bodyPost_ret (results11 _ _ w.heap.size a _ c _ rfl rfl (World.cell?_setCell_same _ _ _ z1)) rfl ⟨a, c, ra, rc, by rw [HRS.out]; rfl, Hc.out.2.2.set z1 _, (hs'.off (grown_set wr w.heap.size 0 _) (fun x e => by cases e; exact .inl (Nat.lt_of_lt_of_le HLT.out (Nat.le_of_lt (Nat.lt_of_le_of_lt HBC.out.1 HBC.out.2))))).here.weak, grown_own (gT HG0.out HGR.out) (grown_set wr w.heap.size 0 _) (fun j e => by cases e; exact Nat.le_refl _)⟩
end Go.Proofs.Ythdhmflodiincaa
namespace Go.Proofs.Ythdhmflodiincaa
open Lib (hid)
open Go.RowKit Go.Maps
set_option maxRecDepth 100000

structure Off (M : Nat → Prop) (w w' : World) : Prop where
 os : w'.os = w.os
 tape : w'.tape = w.tape
 output : w'.output = w.output
 size : w.heap.size ≤ w'.heap.size
 block : ∀ k, k < w.heap.size → ¬ M k → w'.heap[k]? = w.heap[k]?
theorem Off.of {M : Nat → Prop} {w w' : World} {r : Option Nat} (h : w.grownBy w' r) (hr : ∀ k, r = some k → M k) : Off M w w' :=
 ⟨h.os, h.tape, h.output, h.size, fun k hk hm => h.block k hk (fun e => hm (hr k e.symm))⟩
theorem Off.trans {M N : Nat → Prop} {w w1 w' : World} (h : Off M w w1) (h2 : Off N w1 w') (hn : ∀ k, k < w.heap.size → N k → M k) : Off M w w' :=
 ⟨h2.os.trans h.os, h2.tape.trans h.tape, h2.output.trans h.output, Nat.le_trans h.size h2.size, fun k hk hm => (h2.block k (Nat.lt_of_lt_of_le hk h.size) (fun e => hm (hn k hk e))).trans (h.block k hk hm)⟩
theorem Off.mono {M N : Nat → Prop} {w w' : World} (h : Off M w w') (hn : ∀ k, k < w.heap.size → M k → N k) : Off N w w' := ⟨h.os, h.tape, h.output, h.size, fun k hk hm => h.block k hk (fun e => hm (hn k hk e))⟩
theorem Off.refl (M : Nat → Prop) (w : World) : Off M w w := ⟨rfl, rfl, rfl, Nat.le_refl _, fun _ _ _ => rfl⟩
theorem Off.grown {M : Nat → Prop} {w0 w w' : World} (h0 : w0.grownBy w none) (h : Off M w w') (hm : ∀ k, M k → w0.heap.size ≤ k) : w0.grownBy w' none :=
 ⟨h.os.trans h0.os, h.tape.trans h0.tape, h.output.trans h0.output, Nat.le_trans h0.size h.size, fun k hk _ => (h.block k (Nat.lt_of_lt_of_le hk h0.size) (fun e => by have := hm k e; omega)).trans (h0.block k hk (by simp))⟩
theorem Off.cell {M : Nat → Prop} {w w' : World} (h : Off M w w') {a : Addr} {v : Value} (hc : w.cell? a = some v) (hm : ¬ M a.block) : w'.cell? a = some v :=
 (World.cell?_of_block (h.block a.block (lies_lt hc) hm)).trans hc
theorem Off.frozen {M : Nat → Prop} {w w' : World} (h : Off M w w') {b : Nat} (hb : b < w.heap.size) (hm : ¬ M b) (o : Nat) : w'.frozen? ⟨b, o, none⟩ = w.frozen? ⟨b, o, none⟩ :=
 World.frozen?_of_block (a := ⟨b, o, none⟩) (h.block b hb hm)
theorem Off.row {M : Nat → Prop} {w w' : World} (h : Off M w w') {B n k : Nat} {e : TypeId} {v : Value} {xs : List Value} (hr : w.ownsRow B e k v n xs) (hm : ∀ b, v.ownBlock = some b → ¬ M b) : w'.ownsRow B e k v n xs := by
 refine ⟨hr.1, ?_⟩
 rcases hr.2 with h0 | ⟨g, cap, cur, e1, h1, h2, h3⟩
 · exact .inl h0
 · exact .inr ⟨g, cap, cur, e1, h1, (h.block g (Array.getElem?_eq_some_iff.1 h2).1 (hm g (by rw [e1]; rfl))).trans h2, h3⟩
def mine (p : Nat) (owned : Bool) (va : Option Addr) (mb : Option Nat) (k : Nat) : Prop := k = p ∨ (owned = true ∧ ∃ a, va = some a ∧ a.block = k) ∨ mb = some k
structure Grw (p : Nat) (w : World) (owned : Bool) (va : Option Addr) (vc : Nat) (gs : List Gt) (mb : Option Nat) (vis : Int) : Prop where
 c0 : w.cell? ⟨p, 0, none⟩ = some (.slice va gs.length vc)
 c1 : w.cell? ⟨p, 1, none⟩ = some (.bool owned)
 c2 : w.cell? ⟨p, 2, none⟩ = some (.map mb)
 c3 : w.cell? ⟨p, 3, none⟩ = some (.int .i64 vis)
 fr : ∀ o, w.frozen? ⟨p, o, none⟩ = false
 row : GRow (p + 1) p w owned va vc gs
 ix : ∀ b, mb = some b → p < b ∧ MapG w b gs
theorem GRow.far {B p : Nat} {w w' : World} {owned : Bool} {va : Option Addr} {vc : Nat} {gs : List Gt} {r : Option Nat} (h : GRow B p w owned va vc gs) (hg : w.grownBy w' r) (hr : ∀ x, r = some x → p ≤ x ∧ ¬ (owned = true ∧ ∃ a, va = some a ∧ a.block = x)) : GRow B p w' owned va vc gs := by
 unfold GRow at h ⊢
 cases owned with
 | true =>
  simp only [if_true] at h ⊢
  refine h.kept hg ?_
  cases va with
  | none => exact .inl rfl
  | some a => exact .inr (fun e => (hr a.block e.symm).2 ⟨rfl, a, rfl, rfl⟩)
 | false =>
  simp only [Bool.false_eq_true, if_false] at h ⊢
  exact h.off hg fun x e => .inr (hr x e).1
theorem Grw.far {p : Nat} {w w' : World} {owned : Bool} {va : Option Addr} {vc : Nat} {gs : List Gt} {mb : Option Nat} {vis : Int} {r : Option Nat} (h : Grw p w owned va vc gs mb vis) (hg : w.grownBy w' r) (hr : ∀ x, r = some x → p ≤ x ∧ ¬ mine p owned va mb x) : Grw p w' owned va vc gs mb vis := by
 have hp : some p ≠ r := fun e => (hr p e.symm).2 (.inl rfl)
 refine ⟨hg.cell h.c0 hp, hg.cell h.c1 hp, hg.cell h.c2 hp, hg.cell h.c3 hp, fun o => (World.frozen?_of_block (a := ⟨p, o, none⟩) (hg.block p (lies_lt h.c0) hp)).trans (h.fr o), h.row.far hg (fun x e => ⟨(hr x e).1, fun c => (hr x e).2 (.inr (.inl c))⟩), fun b e => ⟨(h.ix b e).1, (h.ix b e).2.kept hg (fun c => (hr b c.symm).2 (.inr (.inr e)))⟩⟩
theorem Grw.grown {p : Nat} {w w' : World} {owned : Bool} {va : Option Addr} {vc : Nat} {gs : List Gt} {mb : Option Nat} {vis : Int} (h : Grw p w owned va vc gs mb vis) (hg : w.grownBy w' none) : Grw p w' owned va vc gs mb vis := h.far hg (fun x e => by cases e)
theorem Grw.gates {p : Nat} {w : World} {owned : Bool} {va : Option Addr} {vc : Nat} {gs : List Gt} {mb : Option Nat} {vis : Int} (h : Grw p w owned va vc gs mb vis) : GatesW w va vc gs := GRow.gates h.row
theorem GRow.ne {p : Nat} {w : World} {owned : Bool} {va : Option Addr} {vc : Nat} {gs : List Gt} (h : GRow (p + 1) p w owned va vc gs) : ¬ (owned = true ∧ ∃ a, va = some a ∧ a.block = p) := by
 rintro ⟨rfl, a, rfl, e⟩
 unfold GRow at h
 simp only [if_true] at h
 have := (h.lt a.block rfl).1
 omega
theorem Grw.setVis {p : Nat} {w : World} {owned : Bool} {va : Option Addr} {vc : Nat} {gs : List Gt} {mb : Option Nat} {vis : Int} (h : Grw p w owned va vc gs mb vis) (v : Int) : Grw p (w.setCell ⟨p, 3, none⟩ (.int .i64 v)) owned va vc gs mb v := by
 refine ⟨?_, ?_, ?_, World.cell?_setCell_same _ _ _ h.c3, fun o => by rw [World.frozen?_setCell]; exact h.fr o, h.row.far (grown_set _ _ _ _) (fun x e => by cases e; exact ⟨Nat.le_refl _, h.row.ne⟩), fun b e => ⟨(h.ix b e).1, (h.ix b e).2.kept (grown_set w p 3 _) (fun c => by injection c with c; have := (h.ix b e).1; omega)⟩⟩
 · rw [World.cell?_setCell_other _ _ _ _ (ne_at (by decide))]; exact h.c0
 · rw [World.cell?_setCell_other _ _ _ _ (ne_at (by decide))]; exact h.c1
 · rw [World.cell?_setCell_other _ _ _ _ (ne_at (by decide))]; exact h.c2
theorem Grw.setIx {p b : Nat} {w : World} {owned : Bool} {va : Option Addr} {vc : Nat} {gs : List Gt} {vis : Int} (h : Grw p w owned va vc gs none vis) (hb : p < b) (hm : MapG w b gs) : Grw p (w.setCell ⟨p, 2, none⟩ (.map (some b))) owned va vc gs (some b) vis := by
 refine ⟨?_, ?_, World.cell?_setCell_same _ _ _ h.c2, ?_, fun o => by rw [World.frozen?_setCell]; exact h.fr o, h.row.far (grown_set _ _ _ _) (fun x e => by cases e; exact ⟨Nat.le_refl _, h.row.ne⟩), fun b' e => by injection e with e; subst e; exact ⟨hb, hm.kept (grown_set w p 2 _) (fun c => by injection c with c; omega)⟩⟩
 · rw [World.cell?_setCell_other _ _ _ _ (ne_at (by decide))]; exact h.c0
 · rw [World.cell?_setCell_other _ _ _ _ (ne_at (by decide))]; exact h.c1
 · rw [World.cell?_setCell_other _ _ _ _ (ne_at (by decide))]; exact h.c3
theorem mapnil_eq (b : Nat) (w : World) : (binOp .eql 120 (.map (some b)) (.map none)).run Try.prog w = .ok (.bool false) w := by kernel_rfl
theorem mapnil_ne (b : Nat) (w : World) : (binOp .neq 120 (.map (some b)) (.map none)).run Try.prog w = .ok (.bool true) w := by kernel_rfl
theorem locI_mem {gs : List Gt} {x : Gt} (hone : ∀ (i j : Nat) (g : Gt), gs[i]? = some g → gs[j]? = some g → i = j) {c : Int} (hc : ∀ i : Nat, gs[i]? = some x → c = (i : Int)) (hx : x ∈ gs) : locI x gs = c := by
 obtain ⟨i, hi⟩ := List.mem_iff_getElem?.1 hx
 rw [locI_some hone hi, hc i hi]
theorem locI_not {gs : List Gt} {x : Gt} (hx : x ∉ gs) : locI x gs = -1 := locI_none fun _ hi => hx (List.mem_of_getElem? hi)
theorem MapG.looks {w : World} {b : Nat} {S : List Gt} (h : MapG w b S) {g : Gt} (hk : WfG g) : ∃ c : Int, (∀ q : Nat, (Instr.lookup 120 (.map (some b)) (gv g) true).run Try.prog (w.drewN q) = .ok (.tuple #[.int .i64 c, .bool (decide (g ∈ S))]) (w.drewN q)) ∧ ∀ i : Nat, S[i]? = some g → c = (i : Int) := by
 obtain ⟨D, hD, ha⟩ := h
 obtain ⟨l, hl⟩ := key_mk hk
 have H : ∀ q : Nat, ∃ c : Int, (Instr.lookup 120 (.map (some b)) (gv g) true).run Try.prog (w.drewN q) = .ok (.tuple #[.int .i64 c, .bool (decide (g ∈ S))]) (w.drewN q) ∧ D.atKey l (.lit (.int .i64 0)) = .lit (.int .i64 c) := fun q => by
  obtain ⟨v, ps, hr, hv⟩ := (hD.kept (grown_drewN w q none) (by simp)).look_ok keyed69 Try.underlying120 (zero3 _) (plainElem_int Try.underlying3 (by decide)) hl
  obtain ⟨c, rfl, hc, _⟩ := plainElem_int_inv Try.underlying3 hv
  exact ⟨c, by rw [hr, (ha g l hl).1], congrArg Prod.fst hc⟩
 obtain ⟨c, _, hc⟩ := H 0
 refine ⟨c, fun q => ?_, fun i hi => ?_⟩
 ·
  obtain ⟨d, h1, h2⟩ := H q
  rw [hc] at h2
  injection h2 with h2
  injection h2 with _ h2
  rw [h1, h2]
 ·
  have h1 := (ha g l hl).2 i hi
  rw [h1] at hc
  injection hc with hc
  injection hc with _ hc
  exact hc.symm
end Go.Proofs.Ythdhmflodiincaa
namespace Go.Proofs.Ythdhmflodiincaa
open Lib (hid)
open Go.RowKit

theorem find_ix (gs : List Gt) (x : Gt) (fm : Nat) (p b : Nat) (owned : Bool) (va : Option Addr) (vc : Nat) (vis : Int) (w : World) (h : Grw p w owned va vc gs (some b) vis) (hx : WfG x)
  (hone : ∀ (i j : Nat) (g : Gt), gs[i]? = some g → gs[j]? = some g → i = j) :
  Calls Try.prog 128 #[.pointer (some ⟨p, 0, none⟩), gv x, .int .i64 (fm : Int)] w fun e w' => e = .returned (.int .i64 (locI x gs)) ∧ w.grownBy w' none := by
 have hg := gAl w (.cells #[.int .i64 x.1, .int .i64 x.2.1, .int .i64 x.2.2] 99) none
 have hxc := gate_cells w x
 obtain ⟨W, hW⟩ : ∃ W, w.alloc (.cells #[.int .i64 x.1, .int .i64 x.2.1, .int .i64 x.2.2] 99) = W := ⟨_, rfl⟩
 rw [hW] at hg hxc
 have HX := hid hxc
 have HG := hid hg
 have HW := hid (h.grown hg)
 have HONE := hid (And.intro hone hx)
 have k2 := HW.out.c2
 have hE := mapnil_eq b
 have hNe := mapnil_ne b
 clear h hone hg hxc hx
 go_enter Try.func128, Try.ntmps128
 go_wp2_with fail
 go_quiet (fail)
 go_wp2_with fail
 obtain ⟨W0, hW0⟩ : ∃ z, W.drewN nq = z := ⟨_, rfl⟩
 have HG0 := hid (gT HG.out (show W.grownBy W0 none by rw [← hW0]; exact grown_drewN W nq none))
 have hG0 : W.grownBy W0 none := by rw [← hW0]; exact grown_drewN W nq none
 have HW0 := hid (HW.out.grown hG0)
 have x0 := hG0.cell HX.out.1 (by simp)
 have x1 := hG0.cell HX.out.2.1 (by simp)
 have x2 := hG0.cell HX.out.2.2 (by simp)
 rw [hW0]
 clear hW hW0 hG0 k2 hE hNe
 have k2 := HW0.out.c2
 obtain ⟨c, hL, hc⟩ := (HW0.out.ix b rfl).2.looks HONE.out.2
 have HC := hid hc; clear hc
 by_cases hxm : x ∈ gs
 ·
  rw [decide_eq_true hxm] at hL
  have HR := hid (locI_mem HONE.out.1 HC.out hxm)
  clear hxm
  go_quiet (fail)
  go_wp2_with fail
  go_ret
  exact ⟨by rw [HR.out]; rfl, gT HG0.out (grown_drewN W0 nq none)⟩
 ·
  rw [decide_eq_false hxm] at hL
  have HR := hid (locI_not hxm)
  clear hxm
  go_quiet (fail)
  go_wp2_with fail
  go_ret
  exact ⟨by rw [HR.out]; rfl, gT HG0.out (grown_drewN W0 nq none)⟩
end Go.Proofs.Ythdhmflodiincaa
