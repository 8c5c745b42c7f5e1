/- Texts of the proof: E2. -/
import Derived.Test.YthkjjiijjedipaaDoorCD15
import Derived.Test.YthkjjiijjedipaaDoorCD04
import Derived.Deep.DeepCutAuto
namespace Go.Proofs.YthkjjiijjedipaaDoor
open Go.RowKit

abbrev e2o0 : Oper := { dst := some 45, op := Op.fieldAddr 58 (Operand.tmp 10) 1, type := 0, pos := "circuit.go:84", after := #[], guard := none }
abbrev e2o1 : Oper := { dst := some 46, op := Op.load 3 (Operand.tmp 45), type := 3, pos := "circuit.go:84", after := #[{ on := 1, ground := Ground.data }], guard := none }
abbrev e2o2 : Oper := { dst := some 47, op := Op.binOp BinOp.leq 3 (Operand.const (Value.int IntKind.i64 1)) (Operand.tmp 46) 3, type := 4, pos := "circuit.go:84", after := #[{ on := 2, ground := Ground.data }], guard := none }
abbrev e2o3 : Oper := { dst := some 48, op := Op.move (Operand.tmp 47), type := 4, pos := "circuit.go:84", after := #[{ on := 3, ground := Ground.data }], guard := none }
abbrev e2o4 : Oper := { dst := some 49, op := Op.fieldAddr 58 (Operand.tmp 10) 1, type := 0, pos := "circuit.go:84", after := #[{ on := 4, ground := Ground.guard }], guard := some (4, true) }
abbrev e2o5 : Oper := { dst := some 50, op := Op.load 3 (Operand.tmp 49), type := 3, pos := "circuit.go:84", after := #[{ on := 5, ground := Ground.data }, { on := 4, ground := Ground.guard }], guard := some (4, true) }
abbrev e2o6 : Oper := { dst := some 51, op := Op.move (Operand.tmp 1), type := 23, pos := "circuit.go:84", after := #[{ on := 4, ground := Ground.guard }], guard := some (4, true) }
abbrev e2o7 : Oper := { dst := some 52, op := Op.call { callee := Callee.builtin Builtin.len, args := #[Operand.tmp 51], argTypes := #[23] }, type := 3, pos := "circuit.go:84", after := #[{ on := 7, ground := Ground.data }, { on := 4, ground := Ground.guard }], guard := some (4, true) }
abbrev e2o8 : Oper := { dst := some 53, op := Op.binOp BinOp.leq 3 (Operand.tmp 50) (Operand.tmp 52) 3, type := 4, pos := "circuit.go:84", after := #[{ on := 6, ground := Ground.data }, { on := 8, ground := Ground.data }, { on := 4, ground := Ground.guard }], guard := some (4, true) }
abbrev e2o9 : Oper := { dst := some 54, op := Op.pick (Operand.tmp 48) (Operand.tmp 53) (Operand.const (Value.bool false)), type := 4, pos := "circuit.go:84", after := #[{ on := 4, ground := Ground.data }, { on := 9, ground := Ground.data }], guard := none }
abbrev e2o10 : Oper := { dst := some 55, op := Op.move (Operand.tmp 54), type := 4, pos := "circuit.go:84", after := #[{ on := 10, ground := Ground.data }, { on := 4, ground := Ground.chain }], guard := none }
abbrev e2o11 : Oper := { dst := some 56, op := Op.move (Operand.tmp 1), type := 23, pos := "circuit.go:84", after := #[{ on := 11, ground := Ground.guard }], guard := some (11, true) }
abbrev e2o12 : Oper := { dst := some 57, op := Op.fieldAddr 58 (Operand.tmp 10) 1, type := 0, pos := "circuit.go:84", after := #[{ on := 11, ground := Ground.guard }], guard := some (11, true) }
abbrev e2o13 : Oper := { dst := some 58, op := Op.load 3 (Operand.tmp 57), type := 3, pos := "circuit.go:84", after := #[{ on := 13, ground := Ground.data }, { on := 11, ground := Ground.guard }], guard := some (11, true) }
abbrev e2o14 : Oper := { dst := some 59, op := Op.binOp BinOp.sub 3 (Operand.tmp 58) (Operand.const (Value.int IntKind.i64 1)) 3, type := 3, pos := "circuit.go:84", after := #[{ on := 14, ground := Ground.data }, { on := 11, ground := Ground.guard }], guard := some (11, true) }
abbrev e2o15 : Oper := { dst := some 60, op := Op.indexAddr 23 (Operand.tmp 56) (Operand.tmp 59), type := 0, pos := "circuit.go:84", after := #[{ on := 12, ground := Ground.data }, { on := 15, ground := Ground.data }, { on := 11, ground := Ground.guard }], guard := some (11, true) }
abbrev e2o16 : Oper := { dst := some 61, op := Op.load 4 (Operand.tmp 60), type := 4, pos := "circuit.go:84", after := #[{ on := 16, ground := Ground.data }, { on := 11, ground := Ground.guard }], guard := some (11, true) }
abbrev e2o17 : Oper := { dst := some 62, op := Op.pick (Operand.tmp 55) (Operand.tmp 61) (Operand.const (Value.bool false)), type := 4, pos := "circuit.go:84", after := #[{ on := 11, ground := Ground.data }, { on := 17, ground := Ground.data }], guard := none }
abbrev e2o18 : Oper := { dst := some 44, op := Op.load 23 (Operand.tmp 7), type := 23, pos := "circuit.go:84", after := #[], guard := none }
abbrev e2o19 : Oper := { dst := some 63, op := Op.buildSlice 23 1 #[(0, Operand.tmp 62)], type := 23, pos := "circuit.go:84", after := #[{ on := 18, ground := Ground.data }], guard := none }
abbrev e2o20 : Oper := { dst := some 64, op := Op.call { callee := Callee.builtin Builtin.append, args := #[Operand.tmp 44, Operand.tmp 63], argTypes := #[23, 23] }, type := 23, pos := "circuit.go:84", after := #[{ on := 0, ground := Ground.data }, { on := 19, ground := Ground.data }, { on := 11, ground := Ground.chain }], guard := none }
abbrev e2o21 : Oper := { dst := none, op := Op.store 23 (Operand.tmp 7) (Operand.tmp 64), type := 0, pos := "circuit.go:84", after := #[{ on := 20, ground := Ground.data }, { on := 20, ground := Ground.chain }, { on := 0, ground := Ground.phase }, { on := 1, ground := Ground.phase }, { on := 2, ground := Ground.phase }, { on := 3, ground := Ground.phase }, { on := 4, ground := Ground.phase }, { on := 5, ground := Ground.phase }, { on := 6, ground := Ground.phase }, { on := 7, ground := Ground.phase }, { on := 8, ground := Ground.phase }, { on := 9, ground := Ground.phase }, { on := 10, ground := Ground.phase }, { on := 11, ground := Ground.phase }, { on := 12, ground := Ground.phase }, { on := 13, ground := Ground.phase }, { on := 14, ground := Ground.phase }, { on := 15, ground := Ground.phase }, { on := 16, ground := Ground.phase }, { on := 17, ground := Ground.phase }, { on := 18, ground := Ground.phase }, { on := 19, ground := Ground.phase }, { on := 20, ground := Ground.phase }], guard := none }
abbrev e2o22 : Oper := { dst := some 68, op := Op.move (Operand.tmp 8), type := 62, pos := "circuit.go:86", after := #[], guard := none }
abbrev e2o23 : Oper := { dst := some 69, op := Op.fieldAddr 58 (Operand.tmp 10) 1, type := 0, pos := "circuit.go:86", after := #[], guard := none }
abbrev e2o24 : Oper := { dst := some 70, op := Op.load 3 (Operand.tmp 69), type := 3, pos := "circuit.go:86", after := #[{ on := 2, ground := Ground.data }], guard := none }
abbrev e2o25 : Oper := { dst := some 67, op := Op.load 23 (Operand.tmp 7), type := 23, pos := "circuit.go:86", after := #[], guard := none }
abbrev e2o26 : Oper := { dst := some 71, op := Op.call { callee := Callee.value (Operand.tmp 68), args := #[Operand.tmp 70], argTypes := #[3] }, type := 4, pos := "circuit.go:86", after := #[{ on := 1, ground := Ground.data }, { on := 3, ground := Ground.data }], guard := none }
abbrev e2o27 : Oper := { dst := some 72, op := Op.move (Operand.tmp 71), type := 4, pos := "circuit.go:86", after := #[{ on := 4, ground := Ground.data }, { on := 4, ground := Ground.chain }], guard := none }
abbrev e2o28 : Oper := { dst := some 73, op := Op.move (Operand.tmp 8), type := 62, pos := "circuit.go:86", after := #[{ on := 5, ground := Ground.guard }], guard := some (5, true) }
abbrev e2o29 : Oper := { dst := some 74, op := Op.fieldAddr 58 (Operand.tmp 10) 2, type := 0, pos := "circuit.go:86", after := #[{ on := 5, ground := Ground.guard }], guard := some (5, true) }
abbrev e2o30 : Oper := { dst := some 75, op := Op.load 3 (Operand.tmp 74), type := 3, pos := "circuit.go:86", after := #[{ on := 7, ground := Ground.data }, { on := 5, ground := Ground.guard }], guard := some (5, true) }
abbrev e2o31 : Oper := { dst := some 76, op := Op.call { callee := Callee.value (Operand.tmp 73), args := #[Operand.tmp 75], argTypes := #[3] }, type := 4, pos := "circuit.go:86", after := #[{ on := 6, ground := Ground.data }, { on := 8, ground := Ground.data }, { on := 5, ground := Ground.chain }, { on := 5, ground := Ground.guard }], guard := some (5, true) }
abbrev e2o32 : Oper := { dst := some 77, op := Op.pick (Operand.tmp 72) (Operand.tmp 76) (Operand.const (Value.bool false)), type := 4, pos := "circuit.go:86", after := #[{ on := 5, ground := Ground.data }, { on := 9, ground := Ground.data }], guard := none }
abbrev e2o33 : Oper := { dst := some 78, op := Op.buildSlice 23 1 #[(0, Operand.tmp 77)], type := 23, pos := "circuit.go:86", after := #[{ on := 10, ground := Ground.data }], guard := none }
abbrev e2o34 : Oper := { dst := some 79, op := Op.call { callee := Callee.builtin Builtin.append, args := #[Operand.tmp 67, Operand.tmp 78], argTypes := #[23, 23] }, type := 23, pos := "circuit.go:86", after := #[{ on := 0, ground := Ground.data }, { on := 11, ground := Ground.data }, { on := 9, ground := Ground.chain }], guard := none }
abbrev e2o35 : Oper := { dst := none, op := Op.store 23 (Operand.tmp 7) (Operand.tmp 79), type := 0, pos := "circuit.go:86", after := #[{ on := 12, ground := Ground.data }, { on := 12, ground := Ground.chain }, { on := 0, ground := Ground.phase }, { on := 1, ground := Ground.phase }, { on := 2, ground := Ground.phase }, { on := 3, ground := Ground.phase }, { on := 4, ground := Ground.phase }, { on := 5, ground := Ground.phase }, { on := 6, ground := Ground.phase }, { on := 7, ground := Ground.phase }, { on := 8, ground := Ground.phase }, { on := 9, ground := Ground.phase }, { on := 10, ground := Ground.phase }, { on := 11, ground := Ground.phase }, { on := 12, ground := Ground.phase }], guard := none }
theorem take_snoc {gs : List Gt} {k : Nat} {g : Gt} (h : gs[k]? = some g) : gs.take (k + 1) = gs.take k ++ [g] := by rw [List.take_add_one, h]; rfl
theorem known_step (vals : List Bool) {gs : List Gt} {k : Nat} {g : Gt} (h : gs[k]? = some g) : knownV vals (gs.take (k + 1)) = knownV vals (gs.take k) ++ [gateV vals (knownV vals (gs.take k)) g] := by rw [take_snoc h, known_snoc]

set_option maxRecDepth 100000 in
set_option maxHeartbeats 4000000 in
theorem eval_calls (gs : List Gt) (vals : List Bool) (r : Int) (a : Option Addr) (c : Nat) (va : Option Addr) (vc : Nat) (w : World) (h : GatesW w a c gs) (hv : BoolsW w va vc vals) (hl : gs.length ≤ 1000) (_hl2 : vals.length ≤ 1000)
    (hb : ∀ g ∈ gs, g.2.1 ≤ 9223372036854775807 ∧ g.2.2 ≤ 9223372036854775807) (hr : r ≤ 9223372036854775807) :
    Calls Tryd.prog 33 #[.agg #[.slice a gs.length c], .slice va vals.length vc, .int .i64 r] w fun e w' => e = .returned (.bool (evalC gs vals r)) ∧ w.grownBy w' none := by
  obtain ⟨n, hn⟩ : ∃ n, gs.length = n := ⟨_, rfl⟩
  obtain ⟨nv, hnv⟩ : ∃ n, vals.length = n := ⟨_, rfl⟩
  have hg1 := World.grownBy_alloc w (.cells #[.slice a n c] 27) none
  have e1 := one_cell w (.slice a n c) 27
  obtain ⟨W1, hW1⟩ : ∃ W, w.alloc (.cells #[.slice a n c] 27) = W := ⟨_, rfl⟩
  rw [hW1] at hg1 e1
  have q1 := e1.2.1
  have HG := Lib.hid hg1
  have HA := Lib.hid (h.grown hg1)
  have HV := Lib.hid (hv.grown hg1)
  have HN := Lib.hid (And.intro hn hnv)
  have HB := Lib.hid hb
  have hw2 : IntKind.i64.wrap (2 * (n : Int)) = 2 * (n : Int) := IntWalk.i64_in _ (by omega)
  rw [hn] at hl ⊢
  rw [hnv] at _hl2 ⊢
  have HC := Lib.hid h.1
  clear h hv hg1 e1 hn hnv hb
  by_cases h0 : r < 0
  · have f0 : decide (r < 0) = true := decide_eq_true h0
    have HE := Lib.hid (show evalC gs vals r = false by unfold evalC; rw [decide_eq_false (by omega)]; rfl)
    clear h0
    go_enter Tryd.func33, Tryd.ntmps33
    go_wp2_with fail
    go_ret
    exact ⟨by rw [HE.out]; rfl, HG.out⟩
  · have f0 : decide (r < 0) = false := decide_eq_false h0
    by_cases h1 : 2 * (n : Int) ≤ r
    · have f1 : decide (2 * (n : Int) ≤ r) = true := decide_eq_true h1
      have HE := Lib.hid (show evalC gs vals r = false by unfold evalC; rw [HN.out.1, decide_eq_false (by omega)]; rfl)
      clear h0 h1
      go_enter Tryd.func33, Tryd.ntmps33
      go_wp2_with fail
      go_ret
      exact ⟨by rw [HE.out]; rfl, HG.out⟩
    · have f1 : decide (2 * (n : Int) ≤ r) = false := decide_eq_false h1
      obtain ⟨q, hqq⟩ : ∃ q : Nat, r / 2 = (q : Int) := ⟨(r / 2).toNat, by omega⟩
      have HE := Lib.hid (show evalC gs vals r = litV (knownV vals (gs.take (q + 1))) r by unfold evalC; rw [HN.out.1, decide_eq_true (by omega), hqq, Int.toNat_natCast]; rfl)
      have hq : Int.tdiv r 2 = (q : Int) := by rw [Int.tdiv_eq_ediv_of_nonneg (by omega), hqq]
      have hqn : q < n := by omega
      have hwq : IntKind.i64.wrap (q : Int) = (q : Int) := IntWalk.i64_in _ (by omega)
      obtain ⟨N, hN⟩ : ∃ N, q + 1 = N := ⟨_, rfl⟩
      rw [hN] at HE
      have hwq1 : IntKind.i64.wrap ((q : Int) + 1) = (N : Int) := by rw [IntWalk.i64_in _ (by omega)]; omega
      have hNn : N ≤ n := by omega
      have hNc : N ≤ c := by have := HC.out; have := HN.out.1; omega
      have HR := Lib.hid (And.intro h0 (And.intro h1 hN))
      clear h0 h1 hqq hN
      obtain ⟨i0, hi0, hz0, hz1, hz2⟩ := info_parts info4
      obtain ⟨WM, hmk, hownM, hgM⟩ := run_make_own (P := Tryd.prog) W1 W1.heap.size 23 4 i0 _ 1 Tryd.underlying23 hi0 hz0 hz1 .i64 .i64 N (by rw [hz2]; omega) (by unfold maxLen; omega) (Nat.le_refl _)
      have hsM : W1.heap.size < WM.heap.size := (hownM.lt _ rfl).2
      have HOM := Lib.hid hownM
      have HGM := Lib.hid hgM
      clear hgM hownM
      have q2 := HGM.out.cell q1 (by simp)
      have hgp := World.grownBy_alloc WM (.cells #[.slice (some ⟨W1.heap.size, 0, none⟩) 0 N] 23) none
      have e2 := one_cell WM (.slice (some ⟨W1.heap.size, 0, none⟩) 0 N) 23
      obtain ⟨W2, hW2⟩ : ∃ W, WM.alloc (.cells #[.slice (some ⟨W1.heap.size, 0, none⟩) 0 N] 23) = W := ⟨_, rfl⟩
      rw [hW2] at hgp e2
      have HK0 := Lib.hid (show KnownBox W1.heap.size WM.heap.size W2 (some ⟨W1.heap.size, 0, none⟩) N [] from ⟨e2.2.1, e2.2.2, own_grown HOM.out hgp, ⟨Nat.le_of_lt hsM, e2.1⟩, fun e => by injection e with e; have h9 : W1.heap.size = WM.heap.size := e; omega⟩)
      have q3 := hgp.cell q2 (by simp)
      have HG2 := Lib.hid (World.grownBy.trans HGM.out hgp)
      clear hgp e2 q2
      go_enter Tryd.func33, Tryd.ntmps33
      go_wp2_with fail
      obtain ⟨p, hp⟩ : ∃ p, WM.heap.size = p := ⟨_, rfl⟩
      rw [hp] at HK0 ⊢
      clear hW1 hW2 q1 q3 hmk f0 f1 hq hwq hwq1 hw2 hsM HOM
      go_loopg [33] N (fun g s wr => ∃ (k : Nat) (ka : Option Addr) (kc : Nat), s = .int .i64 (k : Int) ∧ g = N - k ∧ k ≤ N ∧ KnownBox W1.heap.size p wr ka kc (knownV vals (gs.take k)) ∧ W1.grownBy wr none)
      case atStart => exact ⟨0, _, _, rfl, rfl, Nat.zero_le _, HK0.out, HG2.out⟩
      case round =>
        obtain ⟨k, ka, kc, rfl, hgk, hk, hkb, hgr⟩ := hrel
        have HI := Lib.hid hgk; clear hgk
        have HKB := Lib.hid hkb; clear hkb
        have HGR := Lib.hid hgr; clear hgr
        have hkl : (knownV vals (gs.take k)).length = k := by rw [known_len, List.length_take, HN.out.1]; omega
        obtain ⟨kn, hkn⟩ : ∃ kn, knownV vals (gs.take k) = kn := ⟨_, rfl⟩
        rw [hkn] at HKB hkl
        have HKN := Lib.hid (And.intro hkn hkl)
        clear hkn hkl
        by_cases hkN : k < N
        · have f1 : decide (k < N) = true := decide_eq_true hkN
          have hk1 : IntKind.i64.wrap ((k : Int) + 1) = ((k + 1 : Nat) : Int) := by rw [IntWalk.i64_in _ (by omega)]; omega
          have hjn : (k : Int) < (N : Int) := by omega
          have hj0 : (0 : Int) ≤ (k : Int) := by omega
          obtain ⟨g, hg⟩ : ∃ g, gs[k]? = some g := ⟨_, List.getElem?_eq_getElem (by rw [HN.out.1]; omega)⟩
          obtain ⟨ba, oa, rfl, x0, x1, x2⟩ := (HA.out.grown HGR.out).at hg
          have HST := Lib.hid (show knownV vals (gs.take (k + 1)) = kn ++ [gateV vals kn g] by rw [known_step vals hg, HKN.out.1])
          have HBG := Lib.hid (HB.out g (List.mem_of_getElem? hg))
          clear hg
          have hgc := gate_cells wr g
          have hga2 := World.grownBy_alloc wr (.cells #[.int .i64 g.1, .int .i64 g.2.1, .int .i64 g.2.2] 58) none
          obtain ⟨wA, hwA⟩ : ∃ W, wr.alloc (.cells #[.int .i64 g.1, .int .i64 g.2.1, .int .i64 g.2.2] 58) = W := ⟨_, rfl⟩
          rw [hwA] at hgc hga2
          have HGA := Lib.hid hga2
          have HBX := Lib.hid (HKB.out.grown hga2)
          have HSF := Lib.hid (show Safe W1 wr.heap.size g wA from ⟨World.grownBy.trans HGR.out hga2, hgc⟩)
          have HOB := Lib.hid (show ∀ j, (Value.slice ka kn.length kc).ownBlock = some j → W1.heap.size ≤ j ∧ j < wr.heap.size from fun j hj => HKB.out.own.lt j hj)
          obtain ⟨y0, y1, y2⟩ := hgc
          clear hga2
          by_cases hK1 : g.1 = 1
          · have e1 := beqT hK1
            by_cases c1 : 1 ≤ g.2.1
            · have f2 : decide (1 ≤ g.2.1) = true := decide_eq_true c1
              have hwA1 : IntKind.i64.wrap (g.2.1 - 1) = g.2.1 - 1 := IntWalk.i64_in _ (by have := HBG.out.1; omega)
              obtain ⟨i, hi⟩ : ∃ i : Nat, g.2.1 - 1 = (i : Int) := ⟨(g.2.1 - 1).toNat, by omega⟩
              by_cases c2 : g.2.1 ≤ (nv : Int)
              · have f3 : decide (g.2.1 ≤ (nv : Int)) = true := decide_eq_true c2
                obtain ⟨z, hz⟩ : ∃ z, vals[i]? = some z := ⟨_, List.getElem?_eq_getElem (by rw [HN.out.2]; omega)⟩
                obtain ⟨bv, ov, hva, xv⟩ := HV.out.at hz
                have HX := Lib.hid (show gateV vals kn g = z by unfold gateV; rw [if_pos hK1, decide_eq_true c1, hi, Int.toNat_natCast, hz]; rfl)
                have hin : (i : Int) < (nv : Int) := by omega
                have hi0' : (0 : Int) ≤ (i : Int) := by omega
                rw [hi] at hwA1
                have HXV := Lib.hid xv
                subst hva
                clear hK1 c1 c2 hz xv
                go_wp2_with fail
                clear y0 y1 y2 x0 x1 x2 hwA
                have HS := Lib.hid (fun (Wh : World) (hWh : Safe W1 wr.heap.size g Wh) => (⟨hWh.grow, hWh.gate.2.1, hWh.gate.2.2, hWh.grow.cell HXV.out (by simp)⟩ : (fun Wh : World => W1.grownBy Wh none ∧ Wh.cell? ⟨wr.heap.size, 1, none⟩ = some (.int .i64 g.2.1) ∧ Wh.cell? ⟨wr.heap.size, 2, none⟩ = some (.int .i64 g.2.2) ∧ Wh.cell? ⟨bv, ov + i, none⟩ = some (.bool z)) Wh))
                have hdr : Safe W1 wr.heap.size g wA.drew := HSF.out.next (⟨rfl, rfl, rfl, Nat.le_refl _, fun _ _ _ => rfl⟩ : wA.grownBy wA.drew none)
                refine wp_region_held_drew (S := (fun Wh : World => W1.grownBy Wh none ∧ Wh.cell? ⟨wr.heap.size, 1, none⟩ = some (.int .i64 g.2.1) ∧ Wh.cell? ⟨wr.heap.size, 2, none⟩ = some (.int .i64 g.2.2) ∧ Wh.cell? ⟨bv, ov + i, none⟩ = some (.bool z))) (by kernel_rfl) (HS.out _ hdr) (fun hHeld => ?_)
                refine tk 1 e2o0 ?_ rfl (by kernel_rfl) (fun _ _ _ h => h) (by rfl) ?_ hHeld ?_
                rotate_left 1
                · (intro W hSW; (try dsimp only at hSW); first | (go_simp; done) | (go_simp; with_reducible rfl))
                try simp only [Act.put, List.setIfInBounds_toArray, List.set_cons_zero, List.set_cons_succ]
                refine tk 2 e2o1 ?_ rfl (by kernel_rfl) (fun _ _ _ h => h) (by rfl) ?_ hHeld ?_
                rotate_left 1
                · (intro W hSW; (try dsimp only at hSW); first | (go_simp; done) | (go_simp; with_reducible rfl))
                try simp only [Act.put, List.setIfInBounds_toArray, List.set_cons_zero, List.set_cons_succ]
                refine tk 3 e2o2 ?_ rfl (by kernel_rfl) (fun _ _ _ h => h) (by rfl) ?_ hHeld ?_
                rotate_left 1
                · (intro W hSW; (try dsimp only at hSW); first | (go_simp; done) | (go_simp; with_reducible rfl))
                try simp only [Act.put, List.setIfInBounds_toArray, List.set_cons_zero, List.set_cons_succ]
                refine tk 4 e2o3 ?_ rfl (by kernel_rfl) (fun _ _ _ h => h) (by rfl) ?_ hHeld ?_
                rotate_left 1
                · (intro W hSW; (try dsimp only at hSW); first | (go_simp; done) | (go_simp; with_reducible rfl))
                try simp only [Act.put, List.setIfInBounds_toArray, List.set_cons_zero, List.set_cons_succ]
                refine tk 5 e2o4 ?_ rfl (by kernel_rfl) (fun _ _ _ h => h) (by rfl) ?_ hHeld ?_
                rotate_left 1
                · (intro W hSW; (try dsimp only at hSW); first | (go_simp; done) | (go_simp; with_reducible rfl))
                try simp only [Act.put, List.setIfInBounds_toArray, List.set_cons_zero, List.set_cons_succ]
                refine tk 6 e2o5 ?_ rfl (by kernel_rfl) (fun _ _ _ h => h) (by rfl) ?_ hHeld ?_
                rotate_left 1
                · (intro W hSW; (try dsimp only at hSW); first | (go_simp; done) | (go_simp; with_reducible rfl))
                try simp only [Act.put, List.setIfInBounds_toArray, List.set_cons_zero, List.set_cons_succ]
                refine tk 7 e2o6 ?_ rfl (by kernel_rfl) (fun _ _ _ h => h) (by rfl) ?_ hHeld ?_
                rotate_left 1
                · (intro W hSW; (try dsimp only at hSW); first | (go_simp; done) | (go_simp; with_reducible rfl))
                try simp only [Act.put, List.setIfInBounds_toArray, List.set_cons_zero, List.set_cons_succ]
                refine tk 8 e2o7 ?_ rfl (by kernel_rfl) (fun _ _ _ h => h) (by rfl) ?_ hHeld ?_
                rotate_left 1
                · (intro W hSW; (try dsimp only at hSW); first | (go_simp; done) | (go_simp; with_reducible rfl))
                try simp only [Act.put, List.setIfInBounds_toArray, List.set_cons_zero, List.set_cons_succ]
                refine tk 9 e2o8 ?_ rfl (by kernel_rfl) (fun _ _ _ h => h) (by rfl) ?_ hHeld ?_
                rotate_left 1
                · (intro W hSW; (try dsimp only at hSW); first | (go_simp; done) | (go_simp; with_reducible rfl))
                try simp only [Act.put, List.setIfInBounds_toArray, List.set_cons_zero, List.set_cons_succ]
                refine tk 10 e2o9 ?_ rfl (by kernel_rfl) (fun _ _ _ h => h) (by rfl) ?_ hHeld ?_
                rotate_left 1
                · (intro W hSW; (try dsimp only at hSW); first | (go_simp; done) | (go_simp; with_reducible rfl))
                try simp only [Act.put, List.setIfInBounds_toArray, List.set_cons_zero, List.set_cons_succ]
                refine tk 11 e2o10 ?_ rfl (by kernel_rfl) (fun _ _ _ h => h) (by rfl) ?_ hHeld ?_
                rotate_left 1
                · (intro W hSW; (try dsimp only at hSW); first | (go_simp; done) | (go_simp; with_reducible rfl))
                try simp only [Act.put, List.setIfInBounds_toArray, List.set_cons_zero, List.set_cons_succ]
                refine tk 12 e2o11 ?_ rfl (by kernel_rfl) (fun _ _ _ h => h) (by rfl) ?_ hHeld ?_
                rotate_left 1
                · (intro W hSW; (try dsimp only at hSW); first | (go_simp; done) | (go_simp; with_reducible rfl))
                try simp only [Act.put, List.setIfInBounds_toArray, List.set_cons_zero, List.set_cons_succ]
                refine tk 13 e2o12 ?_ rfl (by kernel_rfl) (fun _ _ _ h => h) (by rfl) ?_ hHeld ?_
                rotate_left 1
                · (intro W hSW; (try dsimp only at hSW); first | (go_simp; done) | (go_simp; with_reducible rfl))
                try simp only [Act.put, List.setIfInBounds_toArray, List.set_cons_zero, List.set_cons_succ]
                refine tk 14 e2o13 ?_ rfl (by kernel_rfl) (fun _ _ _ h => h) (by rfl) ?_ hHeld ?_
                rotate_left 1
                · (intro W hSW; (try dsimp only at hSW); first | (go_simp; done) | (go_simp; with_reducible rfl))
                try simp only [Act.put, List.setIfInBounds_toArray, List.set_cons_zero, List.set_cons_succ]
                refine tk 15 e2o14 ?_ rfl (by kernel_rfl) (fun _ _ _ h => h) (by rfl) ?_ hHeld ?_
                rotate_left 1
                · (intro W hSW; (try dsimp only at hSW); first | (go_simp; done) | (go_simp; with_reducible rfl))
                try simp only [Act.put, List.setIfInBounds_toArray, List.set_cons_zero, List.set_cons_succ]
                refine tk 16 e2o15 ?_ rfl (by kernel_rfl) (fun _ _ _ h => h) (by rfl) ?_ hHeld ?_
                rotate_left 1
                · (intro W hSW; (try dsimp only at hSW); first | (go_simp; done) | (go_simp; with_reducible rfl))
                try simp only [Act.put, List.setIfInBounds_toArray, List.set_cons_zero, List.set_cons_succ]
                refine tk 17 e2o16 ?_ rfl (by kernel_rfl) (fun _ _ _ h => h) (by rfl) ?_ hHeld ?_
                rotate_left 1
                · (intro W hSW; (try dsimp only at hSW); first | (go_simp; done) | (go_simp; with_reducible rfl))
                try simp only [Act.put, List.setIfInBounds_toArray, List.set_cons_zero, List.set_cons_succ]
                refine tk 18 e2o17 ?_ rfl (by kernel_rfl) (fun _ _ _ h => h) (by rfl) ?_ hHeld ?_
                rotate_left 1
                · (intro W hSW; (try dsimp only at hSW); first | (go_simp; done) | (go_simp; with_reducible rfl))
                try simp only [Act.put, List.setIfInBounds_toArray, List.set_cons_zero, List.set_cons_succ]
                refine wpAnyH_ready (rs := [0, 19]) (by kernel_rfl) (by simp) ?_
                refine (AllReadyH.cons (o := e2o18) rfl (fun K hK => ?_) (AllReadyH.cons (o := e2o19) rfl (fun K hK => ?_) AllReadyH.nil))
                · rw [if_pos (by rfl)]
                  have hrow := (HBX.out).c0
                  go_simp
                  clear hrow
                  refine hK.out _ _ (HS.out _ hdr) (fun hHeld => ?_)
                  clear hK K
                  try simp only [Act.put, List.setIfInBounds_toArray, List.set_cons_zero, List.set_cons_succ]
                  refine wpAnyH_ready (rs := [19]) (by kernel_rfl) (by simp) ?_
                  refine (AllReadyH.cons (o := e2o19) rfl (fun K hK => ?_) AllReadyH.nil)
                  rw [if_pos (by rfl)]
                  go_simp
                  have haA : wA.grownBy ((World.alloc wA (.cells #[.bool z] 4)).drew) none := World.grownBy.trans (World.grownBy_alloc wA _ none) (⟨rfl, rfl, rfl, Nat.le_refl _, fun _ _ _ => rfl⟩ : (World.alloc wA (.cells #[.bool z] 4)).grownBy ((World.alloc wA (.cells #[.bool z] 4)).drew) none)
                  have hnA : ∀ j u, [Value.bool z][j]? = some u → ((World.alloc wA (.cells #[.bool z] 4)).drew).cell? ((⟨wA.heap.size, 0, none⟩ : Addr).add j) = some u := cell_one_new wA _ _
                  obtain ⟨WA, hWA⟩ : ∃ WA, (World.alloc wA (.cells #[.bool z] 4)).drew = WA := ⟨_, rfl⟩
                  rw [hWA] at haA hnA ⊢
                  clear hWA
                  have HBA := HBX.out.grown haA
                  have hgA := HSF.out.next haA
                  refine hK.out _ _ (HS.out _ hgA) (fun hHeld => ?_)
                  clear hK K
                  try simp only [Act.put, List.setIfInBounds_toArray, List.set_cons_zero, List.set_cons_succ]
                  refine wpAnyH_ready (rs := [20]) (by kernel_rfl) (by simp) ?_
                  refine (AllReadyH.cons (o := e2o20) rfl (fun K hK => ?_) AllReadyH.nil)
                  refine ready_append_g 23 4 (.tmp 44) (.tmp 63) rfl rfl Tryd.underlying23 hi0 hz0 hz1 hz2 rfl (by decide) (by omega) W1.heap.size _ _ (boolCells kn) rfl HBA.own ⟨wA.heap.size, 0, none⟩ [.bool z] rfl rfl hnA (fun u hu => by simp at hu; subst hu; rfl) (by have := HKN.out.2; omega) (by have := HBA.low; omega) (fun v' w6 hown' hgrow6 hat6 => ?_)
                  obtain ⟨rgA, rcA, rfl⟩ := own_shape hown'
                  have hs6 := hgA.own hgrow6 (fun j hj => (HOB.out j hj).1) (fun e => by have := (HOB.out _ e.symm).2; omega)
                  obtain ⟨hs1, hs2⟩ := HBX.out.at_ haA hgrow6
                  have HSTEP := Lib.hid (HBX.out.step haA hgrow6 rfl hown' hat6)
                  refine hK.out _ _ (HS.out _ hs6) (fun hHeld => ?_)
                  clear hK K
                  try simp only [Act.put, List.setIfInBounds_toArray, List.set_cons_zero, List.set_cons_succ]
                  refine wpAnyH_ready (rs := [21]) (by kernel_rfl) (by simp) ?_
                  refine (AllReadyH.cons (o := e2o21) rfl (fun K hK => ?_) AllReadyH.nil)
                  rw [if_pos (by rfl)]
                  go_simp
                  have hss := hs6.own (grown_set w6 p 0 (.slice rgA (kn.length + 1) rcA)) (fun j e => by cases e; exact HKB.out.low.1) (fun e => by injection e with e; have := HKB.out.low.2; omega)
                  refine hK.out _ _ (HS.out _ hss) (fun hHeld => ?_)
                  clear hK K
                  try simp only [Act.put, List.setIfInBounds_toArray, List.set_cons_zero, List.set_cons_succ]
                  refine wpAnyH_done (by kernel_rfl) ?_ _
                  have hEND := hss
                  clear hHeld
                  clear hdr hEND hs1 hs2 hs6 hgA hgrow6 haA hnA hat6 hown'
                  have HSS := Lib.hid hss; clear hss
                  go_wp2_with fail
                  go_roundg (N - (k + 1))
                  case measure => rw [HI.out]; omega
                  case rel => exact ⟨k + 1, rgA, rcA, rfl, rfl, by omega, by rw [HST.out, HX.out]; exact HSTEP.out, HSS.out.grow⟩
                · rw [if_pos (by rfl)]
                  go_simp
                  have haA : wA.grownBy ((World.alloc wA (.cells #[.bool z] 4)).drew) none := World.grownBy.trans (World.grownBy_alloc wA _ none) (⟨rfl, rfl, rfl, Nat.le_refl _, fun _ _ _ => rfl⟩ : (World.alloc wA (.cells #[.bool z] 4)).grownBy ((World.alloc wA (.cells #[.bool z] 4)).drew) none)
                  have hnA : ∀ j u, [Value.bool z][j]? = some u → ((World.alloc wA (.cells #[.bool z] 4)).drew).cell? ((⟨wA.heap.size, 0, none⟩ : Addr).add j) = some u := cell_one_new wA _ _
                  obtain ⟨WA, hWA⟩ : ∃ WA, (World.alloc wA (.cells #[.bool z] 4)).drew = WA := ⟨_, rfl⟩
                  rw [hWA] at haA hnA ⊢
                  clear hWA
                  have HBA := HBX.out.grown haA
                  have hgA := HSF.out.next haA
                  refine hK.out _ _ (HS.out _ hgA) (fun hHeld => ?_)
                  clear hK K
                  try simp only [Act.put, List.setIfInBounds_toArray, List.set_cons_zero, List.set_cons_succ]
                  refine wpAnyH_ready (rs := [0]) (by kernel_rfl) (by simp) ?_
                  refine (AllReadyH.cons (o := e2o18) rfl (fun K hK => ?_) AllReadyH.nil)
                  rw [if_pos (by rfl)]
                  have hrow := (HBA).c0
                  go_simp
                  clear hrow
                  refine hK.out _ _ (HS.out _ hgA) (fun hHeld => ?_)
                  clear hK K
                  try simp only [Act.put, List.setIfInBounds_toArray, List.set_cons_zero, List.set_cons_succ]
                  refine wpAnyH_ready (rs := [20]) (by kernel_rfl) (by simp) ?_
                  refine (AllReadyH.cons (o := e2o20) rfl (fun K hK => ?_) AllReadyH.nil)
                  refine ready_append_g 23 4 (.tmp 44) (.tmp 63) rfl rfl Tryd.underlying23 hi0 hz0 hz1 hz2 rfl (by decide) (by omega) W1.heap.size _ _ (boolCells kn) rfl HBA.own ⟨wA.heap.size, 0, none⟩ [.bool z] rfl rfl hnA (fun u hu => by simp at hu; subst hu; rfl) (by have := HKN.out.2; omega) (by have := HBA.low; omega) (fun v' w6 hown' hgrow6 hat6 => ?_)
                  obtain ⟨rgA, rcA, rfl⟩ := own_shape hown'
                  have hs6 := hgA.own hgrow6 (fun j hj => (HOB.out j hj).1) (fun e => by have := (HOB.out _ e.symm).2; omega)
                  obtain ⟨hs1, hs2⟩ := HBX.out.at_ haA hgrow6
                  have HSTEP := Lib.hid (HBX.out.step haA hgrow6 rfl hown' hat6)
                  refine hK.out _ _ (HS.out _ hs6) (fun hHeld => ?_)
                  clear hK K
                  try simp only [Act.put, List.setIfInBounds_toArray, List.set_cons_zero, List.set_cons_succ]
                  refine wpAnyH_ready (rs := [21]) (by kernel_rfl) (by simp) ?_
                  refine (AllReadyH.cons (o := e2o21) rfl (fun K hK => ?_) AllReadyH.nil)
                  rw [if_pos (by rfl)]
                  go_simp
                  have hss := hs6.own (grown_set w6 p 0 (.slice rgA (kn.length + 1) rcA)) (fun j e => by cases e; exact HKB.out.low.1) (fun e => by injection e with e; have := HKB.out.low.2; omega)
                  refine hK.out _ _ (HS.out _ hss) (fun hHeld => ?_)
                  clear hK K
                  try simp only [Act.put, List.setIfInBounds_toArray, List.set_cons_zero, List.set_cons_succ]
                  refine wpAnyH_done (by kernel_rfl) ?_ _
                  have hEND := hss
                  clear hHeld
                  clear hdr hEND hs1 hs2 hs6 hgA hgrow6 haA hnA hat6 hown'
                  have HSS := Lib.hid hss; clear hss
                  go_wp2_with fail
                  go_roundg (N - (k + 1))
                  case measure => rw [HI.out]; omega
                  case rel => exact ⟨k + 1, rgA, rcA, rfl, rfl, by omega, by rw [HST.out, HX.out]; exact HSTEP.out, HSS.out.grow⟩
              · have f3 : decide (g.2.1 ≤ (nv : Int)) = false := decide_eq_false c2
                have HX := Lib.hid (show gateV vals kn g = false by unfold gateV; rw [if_pos hK1, hi, Int.toNat_natCast, List.getElem?_eq_none (by rw [HN.out.2]; omega)]; simp)
                clear hK1 c1 c2 hi
                go_wp2_with fail
                clear y0 y1 y2 x0 x1 x2 hwA
                have HS := Lib.hid (fun (Wh : World) (hWh : Safe W1 wr.heap.size g Wh) => (⟨hWh.grow, hWh.gate.2.1, hWh.gate.2.2⟩ : (fun Wh : World => W1.grownBy Wh none ∧ Wh.cell? ⟨wr.heap.size, 1, none⟩ = some (.int .i64 g.2.1) ∧ Wh.cell? ⟨wr.heap.size, 2, none⟩ = some (.int .i64 g.2.2)) Wh))
                have hdr : Safe W1 wr.heap.size g wA.drew := HSF.out.next (⟨rfl, rfl, rfl, Nat.le_refl _, fun _ _ _ => rfl⟩ : wA.grownBy wA.drew none)
                refine wp_region_held_drew (S := (fun Wh : World => W1.grownBy Wh none ∧ Wh.cell? ⟨wr.heap.size, 1, none⟩ = some (.int .i64 g.2.1) ∧ Wh.cell? ⟨wr.heap.size, 2, none⟩ = some (.int .i64 g.2.2))) (by kernel_rfl) (HS.out _ hdr) (fun hHeld => ?_)
                refine tk 1 e2o0 ?_ rfl (by kernel_rfl) (fun _ _ _ h => h) (by rfl) ?_ hHeld ?_
                rotate_left 1
                · (intro W hSW; (try dsimp only at hSW); first | (go_simp; done) | (go_simp; with_reducible rfl))
                try simp only [Act.put, List.setIfInBounds_toArray, List.set_cons_zero, List.set_cons_succ]
                refine tk 2 e2o1 ?_ rfl (by kernel_rfl) (fun _ _ _ h => h) (by rfl) ?_ hHeld ?_
                rotate_left 1
                · (intro W hSW; (try dsimp only at hSW); first | (go_simp; done) | (go_simp; with_reducible rfl))
                try simp only [Act.put, List.setIfInBounds_toArray, List.set_cons_zero, List.set_cons_succ]
                refine tk 3 e2o2 ?_ rfl (by kernel_rfl) (fun _ _ _ h => h) (by rfl) ?_ hHeld ?_
                rotate_left 1
                · (intro W hSW; (try dsimp only at hSW); first | (go_simp; done) | (go_simp; with_reducible rfl))
                try simp only [Act.put, List.setIfInBounds_toArray, List.set_cons_zero, List.set_cons_succ]
                refine tk 4 e2o3 ?_ rfl (by kernel_rfl) (fun _ _ _ h => h) (by rfl) ?_ hHeld ?_
                rotate_left 1
                · (intro W hSW; (try dsimp only at hSW); first | (go_simp; done) | (go_simp; with_reducible rfl))
                try simp only [Act.put, List.setIfInBounds_toArray, List.set_cons_zero, List.set_cons_succ]
                refine tk 5 e2o4 ?_ rfl (by kernel_rfl) (fun _ _ _ h => h) (by rfl) ?_ hHeld ?_
                rotate_left 1
                · (intro W hSW; (try dsimp only at hSW); first | (go_simp; done) | (go_simp; with_reducible rfl))
                try simp only [Act.put, List.setIfInBounds_toArray, List.set_cons_zero, List.set_cons_succ]
                refine tk 6 e2o5 ?_ rfl (by kernel_rfl) (fun _ _ _ h => h) (by rfl) ?_ hHeld ?_
                rotate_left 1
                · (intro W hSW; (try dsimp only at hSW); first | (go_simp; done) | (go_simp; with_reducible rfl))
                try simp only [Act.put, List.setIfInBounds_toArray, List.set_cons_zero, List.set_cons_succ]
                refine tk 7 e2o6 ?_ rfl (by kernel_rfl) (fun _ _ _ h => h) (by rfl) ?_ hHeld ?_
                rotate_left 1
                · (intro W hSW; (try dsimp only at hSW); first | (go_simp; done) | (go_simp; with_reducible rfl))
                try simp only [Act.put, List.setIfInBounds_toArray, List.set_cons_zero, List.set_cons_succ]
                refine tk 8 e2o7 ?_ rfl (by kernel_rfl) (fun _ _ _ h => h) (by rfl) ?_ hHeld ?_
                rotate_left 1
                · (intro W hSW; (try dsimp only at hSW); first | (go_simp; done) | (go_simp; with_reducible rfl))
                try simp only [Act.put, List.setIfInBounds_toArray, List.set_cons_zero, List.set_cons_succ]
                refine tk 9 e2o8 ?_ rfl (by kernel_rfl) (fun _ _ _ h => h) (by rfl) ?_ hHeld ?_
                rotate_left 1
                · (intro W hSW; (try dsimp only at hSW); first | (go_simp; done) | (go_simp; with_reducible rfl))
                try simp only [Act.put, List.setIfInBounds_toArray, List.set_cons_zero, List.set_cons_succ]
                refine tk 10 e2o9 ?_ rfl (by kernel_rfl) (fun _ _ _ h => h) (by rfl) ?_ hHeld ?_
                rotate_left 1
                · (intro W hSW; (try dsimp only at hSW); first | (go_simp; done) | (go_simp; with_reducible rfl))
                try simp only [Act.put, List.setIfInBounds_toArray, List.set_cons_zero, List.set_cons_succ]
                refine tk 11 e2o10 ?_ rfl (by kernel_rfl) (fun _ _ _ h => h) (by rfl) ?_ hHeld ?_
                rotate_left 1
                · (intro W hSW; (try dsimp only at hSW); first | (go_simp; done) | (go_simp; with_reducible rfl))
                try simp only [Act.put, List.setIfInBounds_toArray, List.set_cons_zero, List.set_cons_succ]
                refine tku 12 e2o11 rfl (by kernel_rfl) (fun _ _ _ h => h) (by rfl) hHeld ?_
                try simp only [Act.put, List.setIfInBounds_toArray, List.set_cons_zero, List.set_cons_succ]
                refine tku 13 e2o12 rfl (by kernel_rfl) (fun _ _ _ h => h) (by rfl) hHeld ?_
                try simp only [Act.put, List.setIfInBounds_toArray, List.set_cons_zero, List.set_cons_succ]
                refine tku 14 e2o13 rfl (by kernel_rfl) (fun _ _ _ h => h) (by rfl) hHeld ?_
                try simp only [Act.put, List.setIfInBounds_toArray, List.set_cons_zero, List.set_cons_succ]
                refine tku 15 e2o14 rfl (by kernel_rfl) (fun _ _ _ h => h) (by rfl) hHeld ?_
                try simp only [Act.put, List.setIfInBounds_toArray, List.set_cons_zero, List.set_cons_succ]
                refine tku 16 e2o15 rfl (by kernel_rfl) (fun _ _ _ h => h) (by rfl) hHeld ?_
                try simp only [Act.put, List.setIfInBounds_toArray, List.set_cons_zero, List.set_cons_succ]
                refine tku 17 e2o16 rfl (by kernel_rfl) (fun _ _ _ h => h) (by rfl) hHeld ?_
                try simp only [Act.put, List.setIfInBounds_toArray, List.set_cons_zero, List.set_cons_succ]
                refine tk 18 e2o17 ?_ rfl (by kernel_rfl) (fun _ _ _ h => h) (by rfl) ?_ hHeld ?_
                rotate_left 1
                · (intro W hSW; (try dsimp only at hSW); first | (go_simp; done) | (go_simp; with_reducible rfl))
                try simp only [Act.put, List.setIfInBounds_toArray, List.set_cons_zero, List.set_cons_succ]
                refine wpAnyH_ready (rs := [0, 19]) (by kernel_rfl) (by simp) ?_
                refine (AllReadyH.cons (o := e2o18) rfl (fun K hK => ?_) (AllReadyH.cons (o := e2o19) rfl (fun K hK => ?_) AllReadyH.nil))
                · rw [if_pos (by rfl)]
                  have hrow := (HBX.out).c0
                  go_simp
                  clear hrow
                  refine hK.out _ _ (HS.out _ hdr) (fun hHeld => ?_)
                  clear hK K
                  try simp only [Act.put, List.setIfInBounds_toArray, List.set_cons_zero, List.set_cons_succ]
                  refine wpAnyH_ready (rs := [19]) (by kernel_rfl) (by simp) ?_
                  refine (AllReadyH.cons (o := e2o19) rfl (fun K hK => ?_) AllReadyH.nil)
                  rw [if_pos (by rfl)]
                  go_simp
                  have haA : wA.grownBy ((World.alloc wA (.cells #[.bool false] 4)).drew) none := World.grownBy.trans (World.grownBy_alloc wA _ none) (⟨rfl, rfl, rfl, Nat.le_refl _, fun _ _ _ => rfl⟩ : (World.alloc wA (.cells #[.bool false] 4)).grownBy ((World.alloc wA (.cells #[.bool false] 4)).drew) none)
                  have hnA : ∀ j u, [Value.bool false][j]? = some u → ((World.alloc wA (.cells #[.bool false] 4)).drew).cell? ((⟨wA.heap.size, 0, none⟩ : Addr).add j) = some u := cell_one_new wA _ _
                  obtain ⟨WA, hWA⟩ : ∃ WA, (World.alloc wA (.cells #[.bool false] 4)).drew = WA := ⟨_, rfl⟩
                  rw [hWA] at haA hnA ⊢
                  clear hWA
                  have HBA := HBX.out.grown haA
                  have hgA := HSF.out.next haA
                  refine hK.out _ _ (HS.out _ hgA) (fun hHeld => ?_)
                  clear hK K
                  try simp only [Act.put, List.setIfInBounds_toArray, List.set_cons_zero, List.set_cons_succ]
                  refine wpAnyH_ready (rs := [20]) (by kernel_rfl) (by simp) ?_
                  refine (AllReadyH.cons (o := e2o20) rfl (fun K hK => ?_) AllReadyH.nil)
                  refine ready_append_g 23 4 (.tmp 44) (.tmp 63) rfl rfl Tryd.underlying23 hi0 hz0 hz1 hz2 rfl (by decide) (by omega) W1.heap.size _ _ (boolCells kn) rfl HBA.own ⟨wA.heap.size, 0, none⟩ [.bool false] rfl rfl hnA (fun u hu => by simp at hu; subst hu; rfl) (by have := HKN.out.2; omega) (by have := HBA.low; omega) (fun v' w6 hown' hgrow6 hat6 => ?_)
                  obtain ⟨rgA, rcA, rfl⟩ := own_shape hown'
                  have hs6 := hgA.own hgrow6 (fun j hj => (HOB.out j hj).1) (fun e => by have := (HOB.out _ e.symm).2; omega)
                  obtain ⟨hs1, hs2⟩ := HBX.out.at_ haA hgrow6
                  have HSTEP := Lib.hid (HBX.out.step haA hgrow6 rfl hown' hat6)
                  refine hK.out _ _ (HS.out _ hs6) (fun hHeld => ?_)
                  clear hK K
                  try simp only [Act.put, List.setIfInBounds_toArray, List.set_cons_zero, List.set_cons_succ]
                  refine wpAnyH_ready (rs := [21]) (by kernel_rfl) (by simp) ?_
                  refine (AllReadyH.cons (o := e2o21) rfl (fun K hK => ?_) AllReadyH.nil)
                  rw [if_pos (by rfl)]
                  go_simp
                  have hss := hs6.own (grown_set w6 p 0 (.slice rgA (kn.length + 1) rcA)) (fun j e => by cases e; exact HKB.out.low.1) (fun e => by injection e with e; have := HKB.out.low.2; omega)
                  refine hK.out _ _ (HS.out _ hss) (fun hHeld => ?_)
                  clear hK K
                  try simp only [Act.put, List.setIfInBounds_toArray, List.set_cons_zero, List.set_cons_succ]
                  refine wpAnyH_done (by kernel_rfl) ?_ _
                  have hEND := hss
                  clear hHeld
                  clear hdr hEND hs1 hs2 hs6 hgA hgrow6 haA hnA hat6 hown'
                  have HSS := Lib.hid hss; clear hss
                  go_wp2_with fail
                  go_roundg (N - (k + 1))
                  case measure => rw [HI.out]; omega
                  case rel => exact ⟨k + 1, rgA, rcA, rfl, rfl, by omega, by rw [HST.out, HX.out]; exact HSTEP.out, HSS.out.grow⟩
                · rw [if_pos (by rfl)]
                  go_simp
                  have haA : wA.grownBy ((World.alloc wA (.cells #[.bool false] 4)).drew) none := World.grownBy.trans (World.grownBy_alloc wA _ none) (⟨rfl, rfl, rfl, Nat.le_refl _, fun _ _ _ => rfl⟩ : (World.alloc wA (.cells #[.bool false] 4)).grownBy ((World.alloc wA (.cells #[.bool false] 4)).drew) none)
                  have hnA : ∀ j u, [Value.bool false][j]? = some u → ((World.alloc wA (.cells #[.bool false] 4)).drew).cell? ((⟨wA.heap.size, 0, none⟩ : Addr).add j) = some u := cell_one_new wA _ _
                  obtain ⟨WA, hWA⟩ : ∃ WA, (World.alloc wA (.cells #[.bool false] 4)).drew = WA := ⟨_, rfl⟩
                  rw [hWA] at haA hnA ⊢
                  clear hWA
                  have HBA := HBX.out.grown haA
                  have hgA := HSF.out.next haA
                  refine hK.out _ _ (HS.out _ hgA) (fun hHeld => ?_)
                  clear hK K
                  try simp only [Act.put, List.setIfInBounds_toArray, List.set_cons_zero, List.set_cons_succ]
                  refine wpAnyH_ready (rs := [0]) (by kernel_rfl) (by simp) ?_
                  refine (AllReadyH.cons (o := e2o18) rfl (fun K hK => ?_) AllReadyH.nil)
                  rw [if_pos (by rfl)]
                  have hrow := (HBA).c0
                  go_simp
                  clear hrow
                  refine hK.out _ _ (HS.out _ hgA) (fun hHeld => ?_)
                  clear hK K
                  try simp only [Act.put, List.setIfInBounds_toArray, List.set_cons_zero, List.set_cons_succ]
                  refine wpAnyH_ready (rs := [20]) (by kernel_rfl) (by simp) ?_
                  refine (AllReadyH.cons (o := e2o20) rfl (fun K hK => ?_) AllReadyH.nil)
                  refine ready_append_g 23 4 (.tmp 44) (.tmp 63) rfl rfl Tryd.underlying23 hi0 hz0 hz1 hz2 rfl (by decide) (by omega) W1.heap.size _ _ (boolCells kn) rfl HBA.own ⟨wA.heap.size, 0, none⟩ [.bool false] rfl rfl hnA (fun u hu => by simp at hu; subst hu; rfl) (by have := HKN.out.2; omega) (by have := HBA.low; omega) (fun v' w6 hown' hgrow6 hat6 => ?_)
                  obtain ⟨rgA, rcA, rfl⟩ := own_shape hown'
                  have hs6 := hgA.own hgrow6 (fun j hj => (HOB.out j hj).1) (fun e => by have := (HOB.out _ e.symm).2; omega)
                  obtain ⟨hs1, hs2⟩ := HBX.out.at_ haA hgrow6
                  have HSTEP := Lib.hid (HBX.out.step haA hgrow6 rfl hown' hat6)
                  refine hK.out _ _ (HS.out _ hs6) (fun hHeld => ?_)
                  clear hK K
                  try simp only [Act.put, List.setIfInBounds_toArray, List.set_cons_zero, List.set_cons_succ]
                  refine wpAnyH_ready (rs := [21]) (by kernel_rfl) (by simp) ?_
                  refine (AllReadyH.cons (o := e2o21) rfl (fun K hK => ?_) AllReadyH.nil)
                  rw [if_pos (by rfl)]
                  go_simp
                  have hss := hs6.own (grown_set w6 p 0 (.slice rgA (kn.length + 1) rcA)) (fun j e => by cases e; exact HKB.out.low.1) (fun e => by injection e with e; have := HKB.out.low.2; omega)
                  refine hK.out _ _ (HS.out _ hss) (fun hHeld => ?_)
                  clear hK K
                  try simp only [Act.put, List.setIfInBounds_toArray, List.set_cons_zero, List.set_cons_succ]
                  refine wpAnyH_done (by kernel_rfl) ?_ _
                  have hEND := hss
                  clear hHeld
                  clear hdr hEND hs1 hs2 hs6 hgA hgrow6 haA hnA hat6 hown'
                  have HSS := Lib.hid hss; clear hss
                  go_wp2_with fail
                  go_roundg (N - (k + 1))
                  case measure => rw [HI.out]; omega
                  case rel => exact ⟨k + 1, rgA, rcA, rfl, rfl, by omega, by rw [HST.out, HX.out]; exact HSTEP.out, HSS.out.grow⟩
            · have f2 : decide (1 ≤ g.2.1) = false := decide_eq_false c1
              have HX := Lib.hid (show gateV vals kn g = false by unfold gateV; rw [if_pos hK1, decide_eq_false c1]; rfl)
              clear hK1 c1
              go_wp2_with fail
              clear y0 y1 y2 x0 x1 x2 hwA
              have HS := Lib.hid (fun (Wh : World) (hWh : Safe W1 wr.heap.size g Wh) => (⟨hWh.grow, hWh.gate.2.1, hWh.gate.2.2⟩ : (fun Wh : World => W1.grownBy Wh none ∧ Wh.cell? ⟨wr.heap.size, 1, none⟩ = some (.int .i64 g.2.1) ∧ Wh.cell? ⟨wr.heap.size, 2, none⟩ = some (.int .i64 g.2.2)) Wh))
              have hdr : Safe W1 wr.heap.size g wA.drew := HSF.out.next (⟨rfl, rfl, rfl, Nat.le_refl _, fun _ _ _ => rfl⟩ : wA.grownBy wA.drew none)
              refine wp_region_held_drew (S := (fun Wh : World => W1.grownBy Wh none ∧ Wh.cell? ⟨wr.heap.size, 1, none⟩ = some (.int .i64 g.2.1) ∧ Wh.cell? ⟨wr.heap.size, 2, none⟩ = some (.int .i64 g.2.2))) (by kernel_rfl) (HS.out _ hdr) (fun hHeld => ?_)
              refine tk 1 e2o0 ?_ rfl (by kernel_rfl) (fun _ _ _ h => h) (by rfl) ?_ hHeld ?_
              rotate_left 1
              · (intro W hSW; (try dsimp only at hSW); first | (go_simp; done) | (go_simp; with_reducible rfl))
              try simp only [Act.put, List.setIfInBounds_toArray, List.set_cons_zero, List.set_cons_succ]
              refine tk 2 e2o1 ?_ rfl (by kernel_rfl) (fun _ _ _ h => h) (by rfl) ?_ hHeld ?_
              rotate_left 1
              · (intro W hSW; (try dsimp only at hSW); first | (go_simp; done) | (go_simp; with_reducible rfl))
              try simp only [Act.put, List.setIfInBounds_toArray, List.set_cons_zero, List.set_cons_succ]
              refine tk 3 e2o2 ?_ rfl (by kernel_rfl) (fun _ _ _ h => h) (by rfl) ?_ hHeld ?_
              rotate_left 1
              · (intro W hSW; (try dsimp only at hSW); first | (go_simp; done) | (go_simp; with_reducible rfl))
              try simp only [Act.put, List.setIfInBounds_toArray, List.set_cons_zero, List.set_cons_succ]
              refine tk 4 e2o3 ?_ rfl (by kernel_rfl) (fun _ _ _ h => h) (by rfl) ?_ hHeld ?_
              rotate_left 1
              · (intro W hSW; (try dsimp only at hSW); first | (go_simp; done) | (go_simp; with_reducible rfl))
              try simp only [Act.put, List.setIfInBounds_toArray, List.set_cons_zero, List.set_cons_succ]
              refine tku 5 e2o4 rfl (by kernel_rfl) (fun _ _ _ h => h) (by rfl) hHeld ?_
              try simp only [Act.put, List.setIfInBounds_toArray, List.set_cons_zero, List.set_cons_succ]
              refine tku 6 e2o5 rfl (by kernel_rfl) (fun _ _ _ h => h) (by rfl) hHeld ?_
              try simp only [Act.put, List.setIfInBounds_toArray, List.set_cons_zero, List.set_cons_succ]
              refine tku 7 e2o6 rfl (by kernel_rfl) (fun _ _ _ h => h) (by rfl) hHeld ?_
              try simp only [Act.put, List.setIfInBounds_toArray, List.set_cons_zero, List.set_cons_succ]
              refine tku 8 e2o7 rfl (by kernel_rfl) (fun _ _ _ h => h) (by rfl) hHeld ?_
              try simp only [Act.put, List.setIfInBounds_toArray, List.set_cons_zero, List.set_cons_succ]
              refine tku 9 e2o8 rfl (by kernel_rfl) (fun _ _ _ h => h) (by rfl) hHeld ?_
              try simp only [Act.put, List.setIfInBounds_toArray, List.set_cons_zero, List.set_cons_succ]
              refine tk 10 e2o9 ?_ rfl (by kernel_rfl) (fun _ _ _ h => h) (by rfl) ?_ hHeld ?_
              rotate_left 1
              · (intro W hSW; (try dsimp only at hSW); first | (go_simp; done) | (go_simp; with_reducible rfl))
              try simp only [Act.put, List.setIfInBounds_toArray, List.set_cons_zero, List.set_cons_succ]
              refine tk 11 e2o10 ?_ rfl (by kernel_rfl) (fun _ _ _ h => h) (by rfl) ?_ hHeld ?_
              rotate_left 1
              · (intro W hSW; (try dsimp only at hSW); first | (go_simp; done) | (go_simp; with_reducible rfl))
              try simp only [Act.put, List.setIfInBounds_toArray, List.set_cons_zero, List.set_cons_succ]
              refine tku 12 e2o11 rfl (by kernel_rfl) (fun _ _ _ h => h) (by rfl) hHeld ?_
              try simp only [Act.put, List.setIfInBounds_toArray, List.set_cons_zero, List.set_cons_succ]
              refine tku 13 e2o12 rfl (by kernel_rfl) (fun _ _ _ h => h) (by rfl) hHeld ?_
              try simp only [Act.put, List.setIfInBounds_toArray, List.set_cons_zero, List.set_cons_succ]
              refine tku 14 e2o13 rfl (by kernel_rfl) (fun _ _ _ h => h) (by rfl) hHeld ?_
              try simp only [Act.put, List.setIfInBounds_toArray, List.set_cons_zero, List.set_cons_succ]
              refine tku 15 e2o14 rfl (by kernel_rfl) (fun _ _ _ h => h) (by rfl) hHeld ?_
              try simp only [Act.put, List.setIfInBounds_toArray, List.set_cons_zero, List.set_cons_succ]
              refine tku 16 e2o15 rfl (by kernel_rfl) (fun _ _ _ h => h) (by rfl) hHeld ?_
              try simp only [Act.put, List.setIfInBounds_toArray, List.set_cons_zero, List.set_cons_succ]
              refine tku 17 e2o16 rfl (by kernel_rfl) (fun _ _ _ h => h) (by rfl) hHeld ?_
              try simp only [Act.put, List.setIfInBounds_toArray, List.set_cons_zero, List.set_cons_succ]
              refine tk 18 e2o17 ?_ rfl (by kernel_rfl) (fun _ _ _ h => h) (by rfl) ?_ hHeld ?_
              rotate_left 1
              · (intro W hSW; (try dsimp only at hSW); first | (go_simp; done) | (go_simp; with_reducible rfl))
              try simp only [Act.put, List.setIfInBounds_toArray, List.set_cons_zero, List.set_cons_succ]
              refine wpAnyH_ready (rs := [0, 19]) (by kernel_rfl) (by simp) ?_
              refine (AllReadyH.cons (o := e2o18) rfl (fun K hK => ?_) (AllReadyH.cons (o := e2o19) rfl (fun K hK => ?_) AllReadyH.nil))
              · rw [if_pos (by rfl)]
                have hrow := (HBX.out).c0
                go_simp
                clear hrow
                refine hK.out _ _ (HS.out _ hdr) (fun hHeld => ?_)
                clear hK K
                try simp only [Act.put, List.setIfInBounds_toArray, List.set_cons_zero, List.set_cons_succ]
                refine wpAnyH_ready (rs := [19]) (by kernel_rfl) (by simp) ?_
                refine (AllReadyH.cons (o := e2o19) rfl (fun K hK => ?_) AllReadyH.nil)
                rw [if_pos (by rfl)]
                go_simp
                have haA : wA.grownBy ((World.alloc wA (.cells #[.bool false] 4)).drew) none := World.grownBy.trans (World.grownBy_alloc wA _ none) (⟨rfl, rfl, rfl, Nat.le_refl _, fun _ _ _ => rfl⟩ : (World.alloc wA (.cells #[.bool false] 4)).grownBy ((World.alloc wA (.cells #[.bool false] 4)).drew) none)
                have hnA : ∀ j u, [Value.bool false][j]? = some u → ((World.alloc wA (.cells #[.bool false] 4)).drew).cell? ((⟨wA.heap.size, 0, none⟩ : Addr).add j) = some u := cell_one_new wA _ _
                obtain ⟨WA, hWA⟩ : ∃ WA, (World.alloc wA (.cells #[.bool false] 4)).drew = WA := ⟨_, rfl⟩
                rw [hWA] at haA hnA ⊢
                clear hWA
                have HBA := HBX.out.grown haA
                have hgA := HSF.out.next haA
                refine hK.out _ _ (HS.out _ hgA) (fun hHeld => ?_)
                clear hK K
                try simp only [Act.put, List.setIfInBounds_toArray, List.set_cons_zero, List.set_cons_succ]
                refine wpAnyH_ready (rs := [20]) (by kernel_rfl) (by simp) ?_
                refine (AllReadyH.cons (o := e2o20) rfl (fun K hK => ?_) AllReadyH.nil)
                refine ready_append_g 23 4 (.tmp 44) (.tmp 63) rfl rfl Tryd.underlying23 hi0 hz0 hz1 hz2 rfl (by decide) (by omega) W1.heap.size _ _ (boolCells kn) rfl HBA.own ⟨wA.heap.size, 0, none⟩ [.bool false] rfl rfl hnA (fun u hu => by simp at hu; subst hu; rfl) (by have := HKN.out.2; omega) (by have := HBA.low; omega) (fun v' w6 hown' hgrow6 hat6 => ?_)
                obtain ⟨rgA, rcA, rfl⟩ := own_shape hown'
                have hs6 := hgA.own hgrow6 (fun j hj => (HOB.out j hj).1) (fun e => by have := (HOB.out _ e.symm).2; omega)
                obtain ⟨hs1, hs2⟩ := HBX.out.at_ haA hgrow6
                have HSTEP := Lib.hid (HBX.out.step haA hgrow6 rfl hown' hat6)
                refine hK.out _ _ (HS.out _ hs6) (fun hHeld => ?_)
                clear hK K
                try simp only [Act.put, List.setIfInBounds_toArray, List.set_cons_zero, List.set_cons_succ]
                refine wpAnyH_ready (rs := [21]) (by kernel_rfl) (by simp) ?_
                refine (AllReadyH.cons (o := e2o21) rfl (fun K hK => ?_) AllReadyH.nil)
                rw [if_pos (by rfl)]
                go_simp
                have hss := hs6.own (grown_set w6 p 0 (.slice rgA (kn.length + 1) rcA)) (fun j e => by cases e; exact HKB.out.low.1) (fun e => by injection e with e; have := HKB.out.low.2; omega)
                refine hK.out _ _ (HS.out _ hss) (fun hHeld => ?_)
                clear hK K
                try simp only [Act.put, List.setIfInBounds_toArray, List.set_cons_zero, List.set_cons_succ]
                refine wpAnyH_done (by kernel_rfl) ?_ _
                have hEND := hss
                clear hHeld
                clear hdr hEND hs1 hs2 hs6 hgA hgrow6 haA hnA hat6 hown'
                have HSS := Lib.hid hss; clear hss
                go_wp2_with fail
                go_roundg (N - (k + 1))
                case measure => rw [HI.out]; omega
                case rel => exact ⟨k + 1, rgA, rcA, rfl, rfl, by omega, by rw [HST.out, HX.out]; exact HSTEP.out, HSS.out.grow⟩
              · rw [if_pos (by rfl)]
                go_simp
                have haA : wA.grownBy ((World.alloc wA (.cells #[.bool false] 4)).drew) none := World.grownBy.trans (World.grownBy_alloc wA _ none) (⟨rfl, rfl, rfl, Nat.le_refl _, fun _ _ _ => rfl⟩ : (World.alloc wA (.cells #[.bool false] 4)).grownBy ((World.alloc wA (.cells #[.bool false] 4)).drew) none)
                have hnA : ∀ j u, [Value.bool false][j]? = some u → ((World.alloc wA (.cells #[.bool false] 4)).drew).cell? ((⟨wA.heap.size, 0, none⟩ : Addr).add j) = some u := cell_one_new wA _ _
                obtain ⟨WA, hWA⟩ : ∃ WA, (World.alloc wA (.cells #[.bool false] 4)).drew = WA := ⟨_, rfl⟩
                rw [hWA] at haA hnA ⊢
                clear hWA
                have HBA := HBX.out.grown haA
                have hgA := HSF.out.next haA
                refine hK.out _ _ (HS.out _ hgA) (fun hHeld => ?_)
                clear hK K
                try simp only [Act.put, List.setIfInBounds_toArray, List.set_cons_zero, List.set_cons_succ]
                refine wpAnyH_ready (rs := [0]) (by kernel_rfl) (by simp) ?_
                refine (AllReadyH.cons (o := e2o18) rfl (fun K hK => ?_) AllReadyH.nil)
                rw [if_pos (by rfl)]
                have hrow := (HBA).c0
                go_simp
                clear hrow
                refine hK.out _ _ (HS.out _ hgA) (fun hHeld => ?_)
                clear hK K
                try simp only [Act.put, List.setIfInBounds_toArray, List.set_cons_zero, List.set_cons_succ]
                refine wpAnyH_ready (rs := [20]) (by kernel_rfl) (by simp) ?_
                refine (AllReadyH.cons (o := e2o20) rfl (fun K hK => ?_) AllReadyH.nil)
                refine ready_append_g 23 4 (.tmp 44) (.tmp 63) rfl rfl Tryd.underlying23 hi0 hz0 hz1 hz2 rfl (by decide) (by omega) W1.heap.size _ _ (boolCells kn) rfl HBA.own ⟨wA.heap.size, 0, none⟩ [.bool false] rfl rfl hnA (fun u hu => by simp at hu; subst hu; rfl) (by have := HKN.out.2; omega) (by have := HBA.low; omega) (fun v' w6 hown' hgrow6 hat6 => ?_)
                obtain ⟨rgA, rcA, rfl⟩ := own_shape hown'
                have hs6 := hgA.own hgrow6 (fun j hj => (HOB.out j hj).1) (fun e => by have := (HOB.out _ e.symm).2; omega)
                obtain ⟨hs1, hs2⟩ := HBX.out.at_ haA hgrow6
                have HSTEP := Lib.hid (HBX.out.step haA hgrow6 rfl hown' hat6)
                refine hK.out _ _ (HS.out _ hs6) (fun hHeld => ?_)
                clear hK K
                try simp only [Act.put, List.setIfInBounds_toArray, List.set_cons_zero, List.set_cons_succ]
                refine wpAnyH_ready (rs := [21]) (by kernel_rfl) (by simp) ?_
                refine (AllReadyH.cons (o := e2o21) rfl (fun K hK => ?_) AllReadyH.nil)
                rw [if_pos (by rfl)]
                go_simp
                have hss := hs6.own (grown_set w6 p 0 (.slice rgA (kn.length + 1) rcA)) (fun j e => by cases e; exact HKB.out.low.1) (fun e => by injection e with e; have := HKB.out.low.2; omega)
                refine hK.out _ _ (HS.out _ hss) (fun hHeld => ?_)
                clear hK K
                try simp only [Act.put, List.setIfInBounds_toArray, List.set_cons_zero, List.set_cons_succ]
                refine wpAnyH_done (by kernel_rfl) ?_ _
                have hEND := hss
                clear hHeld
                clear hdr hEND hs1 hs2 hs6 hgA hgrow6 haA hnA hat6 hown'
                have HSS := Lib.hid hss; clear hss
                go_wp2_with fail
                go_roundg (N - (k + 1))
                case measure => rw [HI.out]; omega
                case rel => exact ⟨k + 1, rgA, rcA, rfl, rfl, by omega, by rw [HST.out, HX.out]; exact HSTEP.out, HSS.out.grow⟩
          · have e1 := beqF hK1
            by_cases hK2 : g.1 = 2
            · have e2 := beqT hK2
              have hC1 := value_calls g.2.1 W1.heap.size p ka kc kn wA.drew (HBX.out.grown (⟨rfl, rfl, rfl, Nat.le_refl _, fun _ _ _ => rfl⟩ : wA.grownBy wA.drew none)) (by have := HKN.out.2; omega) HBG.out.1
              have HC2 := Lib.hid (value_calls g.2.2 W1.heap.size p ka kc kn wA.drew (HBX.out.grown (⟨rfl, rfl, rfl, Nat.le_refl _, fun _ _ _ => rfl⟩ : wA.grownBy wA.drew none)) (by have := HKN.out.2; omega) HBG.out.2)
              by_cases hl1 : litV kn g.2.1 = true
              · rw [hl1] at hC1
                have HC1 := Lib.hid hC1
                have HX := Lib.hid (show gateV vals kn g = litV kn g.2.2 by unfold gateV; rw [if_neg hK1, if_pos hK2, hl1]; rfl)
                clear hC1 hK1 hK2 hl1
                go_wp2_with fail
                clear y0 y1 y2 x0 x1 x2 hwA
                have HS := Lib.hid (fun (Wh : World) (hWh : Safe W1 wr.heap.size g Wh) => (⟨hWh.grow, hWh.gate.2.1, hWh.gate.2.2⟩ : (fun Wh : World => W1.grownBy Wh none ∧ Wh.cell? ⟨wr.heap.size, 1, none⟩ = some (.int .i64 g.2.1) ∧ Wh.cell? ⟨wr.heap.size, 2, none⟩ = some (.int .i64 g.2.2)) Wh))
                have hdr : Safe W1 wr.heap.size g wA.drew := HSF.out.next (⟨rfl, rfl, rfl, Nat.le_refl _, fun _ _ _ => rfl⟩ : wA.grownBy wA.drew none)
                refine wp_region_held_drew (S := (fun Wh : World => W1.grownBy Wh none ∧ Wh.cell? ⟨wr.heap.size, 1, none⟩ = some (.int .i64 g.2.1) ∧ Wh.cell? ⟨wr.heap.size, 2, none⟩ = some (.int .i64 g.2.2))) (by kernel_rfl) (HS.out _ hdr) (fun hHeld => ?_)
                refine tk 1 e2o22 ?_ rfl (by kernel_rfl) (fun _ _ _ h => h) (by rfl) ?_ hHeld ?_
                rotate_left 1
                · (intro W hSW; (try dsimp only at hSW); first | (go_simp; done) | (go_simp; with_reducible rfl))
                try simp only [Act.put, List.setIfInBounds_toArray, List.set_cons_zero, List.set_cons_succ]
                refine tk 2 e2o23 ?_ rfl (by kernel_rfl) (fun _ _ _ h => h) (by rfl) ?_ hHeld ?_
                rotate_left 1
                · (intro W hSW; (try dsimp only at hSW); first | (go_simp; done) | (go_simp; with_reducible rfl))
                try simp only [Act.put, List.setIfInBounds_toArray, List.set_cons_zero, List.set_cons_succ]
                refine tk 3 e2o24 ?_ rfl (by kernel_rfl) (fun _ _ _ h => h) (by rfl) ?_ hHeld ?_
                rotate_left 1
                · (intro W hSW; (try dsimp only at hSW); first | (go_simp; done) | (go_simp; with_reducible rfl))
                try simp only [Act.put, List.setIfInBounds_toArray, List.set_cons_zero, List.set_cons_succ]
                refine wpAnyH_ready (rs := [0, 4]) (by kernel_rfl) (by simp) ?_
                refine (AllReadyH.cons (o := e2o25) rfl (fun K hK => ?_) (AllReadyH.cons (o := e2o26) rfl (fun K hK => ?_) AllReadyH.nil))
                · rw [if_pos (by rfl)]
                  have hrow := (HBX.out).c0
                  go_simp
                  clear hrow
                  refine hK.out _ _ (HS.out _ hdr) (fun hHeld => ?_)
                  clear hK K
                  try simp only [Act.put, List.setIfInBounds_toArray, List.set_cons_zero, List.set_cons_succ]
                  refine wpAnyH_ready (rs := [4]) (by kernel_rfl) (by simp) ?_
                  refine (AllReadyH.cons (o := e2o26) rfl (fun K hK => ?_) AllReadyH.nil)
                  rw [if_pos (by rfl)]
                  go_simp
                  go_at_call 43
                  refine HC1.out.mono ?_
                  rintro e w9 ⟨rfl, hw9⟩
                  rw [hw9]
                  clear hw9 w9
                  go_wp2_with fail
                  refine hK.out _ _ (HS.out _ hdr) (fun hHeld => ?_)
                  clear hK K
                  try simp only [Act.put, List.setIfInBounds_toArray, List.set_cons_zero, List.set_cons_succ]
                  refine tk 5 e2o27 ?_ rfl (by kernel_rfl) (fun _ _ _ h => h) (by rfl) ?_ hHeld ?_
                  rotate_left 1
                  · (intro W hSW; (try dsimp only at hSW); first | (go_simp; done) | (go_simp; with_reducible rfl))
                  try simp only [Act.put, List.setIfInBounds_toArray, List.set_cons_zero, List.set_cons_succ]
                  refine tk 6 e2o28 ?_ rfl (by kernel_rfl) (fun _ _ _ h => h) (by rfl) ?_ hHeld ?_
                  rotate_left 1
                  · (intro W hSW; (try dsimp only at hSW); first | (go_simp; done) | (go_simp; with_reducible rfl))
                  try simp only [Act.put, List.setIfInBounds_toArray, List.set_cons_zero, List.set_cons_succ]
                  refine tk 7 e2o29 ?_ rfl (by kernel_rfl) (fun _ _ _ h => h) (by rfl) ?_ hHeld ?_
                  rotate_left 1
                  · (intro W hSW; (try dsimp only at hSW); first | (go_simp; done) | (go_simp; with_reducible rfl))
                  try simp only [Act.put, List.setIfInBounds_toArray, List.set_cons_zero, List.set_cons_succ]
                  refine tk 8 e2o30 ?_ rfl (by kernel_rfl) (fun _ _ _ h => h) (by rfl) ?_ hHeld ?_
                  rotate_left 1
                  · (intro W hSW; (try dsimp only at hSW); first | (go_simp; done) | (go_simp; with_reducible rfl))
                  try simp only [Act.put, List.setIfInBounds_toArray, List.set_cons_zero, List.set_cons_succ]
                  refine wpAnyH_ready (rs := [9]) (by kernel_rfl) (by simp) ?_
                  refine (AllReadyH.cons (o := e2o31) rfl (fun K hK => ?_) AllReadyH.nil)
                  rw [if_pos (by rfl)]
                  go_simp
                  go_at_call 43
                  refine HC2.out.mono ?_
                  rintro e w9 ⟨rfl, hw9⟩
                  rw [hw9]
                  clear hw9 w9
                  go_wp2_with fail
                  refine hK.out _ _ (HS.out _ hdr) (fun hHeld => ?_)
                  clear hK K
                  try simp only [Act.put, List.setIfInBounds_toArray, List.set_cons_zero, List.set_cons_succ]
                  refine tk 10 e2o32 ?_ rfl (by kernel_rfl) (fun _ _ _ h => h) (by rfl) ?_ hHeld ?_
                  rotate_left 1
                  · (intro W hSW; (try dsimp only at hSW); first | (go_simp; done) | (go_simp; with_reducible rfl))
                  try simp only [Act.put, List.setIfInBounds_toArray, List.set_cons_zero, List.set_cons_succ]
                  refine wpAnyH_ready (rs := [11]) (by kernel_rfl) (by simp) ?_
                  refine (AllReadyH.cons (o := e2o33) rfl (fun K hK => ?_) AllReadyH.nil)
                  rw [if_pos (by rfl)]
                  go_simp
                  have haA : wA.grownBy ((World.alloc wA (.cells #[.bool (litV kn g.2.2)] 4)).drew) none := World.grownBy.trans (World.grownBy_alloc wA _ none) (⟨rfl, rfl, rfl, Nat.le_refl _, fun _ _ _ => rfl⟩ : (World.alloc wA (.cells #[.bool (litV kn g.2.2)] 4)).grownBy ((World.alloc wA (.cells #[.bool (litV kn g.2.2)] 4)).drew) none)
                  have hnA : ∀ j u, [Value.bool (litV kn g.2.2)][j]? = some u → ((World.alloc wA (.cells #[.bool (litV kn g.2.2)] 4)).drew).cell? ((⟨wA.heap.size, 0, none⟩ : Addr).add j) = some u := cell_one_new wA _ _
                  obtain ⟨WA, hWA⟩ : ∃ WA, (World.alloc wA (.cells #[.bool (litV kn g.2.2)] 4)).drew = WA := ⟨_, rfl⟩
                  rw [hWA] at haA hnA ⊢
                  clear hWA
                  have HBA := HBX.out.grown haA
                  have hgA := HSF.out.next haA
                  refine hK.out _ _ (HS.out _ hgA) (fun hHeld => ?_)
                  clear hK K
                  try simp only [Act.put, List.setIfInBounds_toArray, List.set_cons_zero, List.set_cons_succ]
                  refine wpAnyH_ready (rs := [12]) (by kernel_rfl) (by simp) ?_
                  refine (AllReadyH.cons (o := e2o34) rfl (fun K hK => ?_) AllReadyH.nil)
                  refine ready_append_g 23 4 (.tmp 67) (.tmp 78) rfl rfl Tryd.underlying23 hi0 hz0 hz1 hz2 rfl (by decide) (by omega) W1.heap.size _ _ (boolCells kn) rfl HBA.own ⟨wA.heap.size, 0, none⟩ [.bool (litV kn g.2.2)] rfl rfl hnA (fun u hu => by simp at hu; subst hu; rfl) (by have := HKN.out.2; omega) (by have := HBA.low; omega) (fun v' w6 hown' hgrow6 hat6 => ?_)
                  obtain ⟨rgA, rcA, rfl⟩ := own_shape hown'
                  have hs6 := hgA.own hgrow6 (fun j hj => (HOB.out j hj).1) (fun e => by have := (HOB.out _ e.symm).2; omega)
                  obtain ⟨hs1, hs2⟩ := HBX.out.at_ haA hgrow6
                  have HSTEP := Lib.hid (HBX.out.step haA hgrow6 rfl hown' hat6)
                  refine hK.out _ _ (HS.out _ hs6) (fun hHeld => ?_)
                  clear hK K
                  try simp only [Act.put, List.setIfInBounds_toArray, List.set_cons_zero, List.set_cons_succ]
                  refine wpAnyH_ready (rs := [13]) (by kernel_rfl) (by simp) ?_
                  refine (AllReadyH.cons (o := e2o35) rfl (fun K hK => ?_) AllReadyH.nil)
                  rw [if_pos (by rfl)]
                  go_simp
                  have hss := hs6.own (grown_set w6 p 0 (.slice rgA (kn.length + 1) rcA)) (fun j e => by cases e; exact HKB.out.low.1) (fun e => by injection e with e; have := HKB.out.low.2; omega)
                  refine hK.out _ _ (HS.out _ hss) (fun hHeld => ?_)
                  clear hK K
                  try simp only [Act.put, List.setIfInBounds_toArray, List.set_cons_zero, List.set_cons_succ]
                  refine wpAnyH_done (by kernel_rfl) ?_ _
                  have hEND := hss
                  clear hHeld
                  clear hdr hEND hs1 hs2 hs6 hgA hgrow6 haA hnA hat6 hown'
                  have HSS := Lib.hid hss; clear hss
                  go_wp2_with fail
                  go_roundg (N - (k + 1))
                  case measure => rw [HI.out]; omega
                  case rel => exact ⟨k + 1, rgA, rcA, rfl, rfl, by omega, by rw [HST.out, HX.out]; exact HSTEP.out, HSS.out.grow⟩
                · rw [if_pos (by rfl)]
                  go_simp
                  go_at_call 43
                  refine HC1.out.mono ?_
                  rintro e w9 ⟨rfl, hw9⟩
                  rw [hw9]
                  clear hw9 w9
                  go_wp2_with fail
                  refine hK.out _ _ (HS.out _ hdr) (fun hHeld => ?_)
                  clear hK K
                  try simp only [Act.put, List.setIfInBounds_toArray, List.set_cons_zero, List.set_cons_succ]
                  refine tk 5 e2o27 ?_ rfl (by kernel_rfl) (fun _ _ _ h => h) (by rfl) ?_ hHeld ?_
                  rotate_left 1
                  · (intro W hSW; (try dsimp only at hSW); first | (go_simp; done) | (go_simp; with_reducible rfl))
                  try simp only [Act.put, List.setIfInBounds_toArray, List.set_cons_zero, List.set_cons_succ]
                  refine tk 6 e2o28 ?_ rfl (by kernel_rfl) (fun _ _ _ h => h) (by rfl) ?_ hHeld ?_
                  rotate_left 1
                  · (intro W hSW; (try dsimp only at hSW); first | (go_simp; done) | (go_simp; with_reducible rfl))
                  try simp only [Act.put, List.setIfInBounds_toArray, List.set_cons_zero, List.set_cons_succ]
                  refine tk 7 e2o29 ?_ rfl (by kernel_rfl) (fun _ _ _ h => h) (by rfl) ?_ hHeld ?_
                  rotate_left 1
                  · (intro W hSW; (try dsimp only at hSW); first | (go_simp; done) | (go_simp; with_reducible rfl))
                  try simp only [Act.put, List.setIfInBounds_toArray, List.set_cons_zero, List.set_cons_succ]
                  refine tk 8 e2o30 ?_ rfl (by kernel_rfl) (fun _ _ _ h => h) (by rfl) ?_ hHeld ?_
                  rotate_left 1
                  · (intro W hSW; (try dsimp only at hSW); first | (go_simp; done) | (go_simp; with_reducible rfl))
                  try simp only [Act.put, List.setIfInBounds_toArray, List.set_cons_zero, List.set_cons_succ]
                  refine wpAnyH_ready (rs := [0, 9]) (by kernel_rfl) (by simp) ?_
                  refine (AllReadyH.cons (o := e2o25) rfl (fun K hK => ?_) (AllReadyH.cons (o := e2o31) rfl (fun K hK => ?_) AllReadyH.nil))
                  · rw [if_pos (by rfl)]
                    have hrow := (HBX.out).c0
                    go_simp
                    clear hrow
                    refine hK.out _ _ (HS.out _ hdr) (fun hHeld => ?_)
                    clear hK K
                    try simp only [Act.put, List.setIfInBounds_toArray, List.set_cons_zero, List.set_cons_succ]
                    refine wpAnyH_ready (rs := [9]) (by kernel_rfl) (by simp) ?_
                    refine (AllReadyH.cons (o := e2o31) rfl (fun K hK => ?_) AllReadyH.nil)
                    rw [if_pos (by rfl)]
                    go_simp
                    go_at_call 43
                    refine HC2.out.mono ?_
                    rintro e w9 ⟨rfl, hw9⟩
                    rw [hw9]
                    clear hw9 w9
                    go_wp2_with fail
                    refine hK.out _ _ (HS.out _ hdr) (fun hHeld => ?_)
                    clear hK K
                    try simp only [Act.put, List.setIfInBounds_toArray, List.set_cons_zero, List.set_cons_succ]
                    refine tk 10 e2o32 ?_ rfl (by kernel_rfl) (fun _ _ _ h => h) (by rfl) ?_ hHeld ?_
                    rotate_left 1
                    · (intro W hSW; (try dsimp only at hSW); first | (go_simp; done) | (go_simp; with_reducible rfl))
                    try simp only [Act.put, List.setIfInBounds_toArray, List.set_cons_zero, List.set_cons_succ]
                    refine wpAnyH_ready (rs := [11]) (by kernel_rfl) (by simp) ?_
                    refine (AllReadyH.cons (o := e2o33) rfl (fun K hK => ?_) AllReadyH.nil)
                    rw [if_pos (by rfl)]
                    go_simp
                    have haA : wA.grownBy ((World.alloc wA (.cells #[.bool (litV kn g.2.2)] 4)).drew) none := World.grownBy.trans (World.grownBy_alloc wA _ none) (⟨rfl, rfl, rfl, Nat.le_refl _, fun _ _ _ => rfl⟩ : (World.alloc wA (.cells #[.bool (litV kn g.2.2)] 4)).grownBy ((World.alloc wA (.cells #[.bool (litV kn g.2.2)] 4)).drew) none)
                    have hnA : ∀ j u, [Value.bool (litV kn g.2.2)][j]? = some u → ((World.alloc wA (.cells #[.bool (litV kn g.2.2)] 4)).drew).cell? ((⟨wA.heap.size, 0, none⟩ : Addr).add j) = some u := cell_one_new wA _ _
                    obtain ⟨WA, hWA⟩ : ∃ WA, (World.alloc wA (.cells #[.bool (litV kn g.2.2)] 4)).drew = WA := ⟨_, rfl⟩
                    rw [hWA] at haA hnA ⊢
                    clear hWA
                    have HBA := HBX.out.grown haA
                    have hgA := HSF.out.next haA
                    refine hK.out _ _ (HS.out _ hgA) (fun hHeld => ?_)
                    clear hK K
                    try simp only [Act.put, List.setIfInBounds_toArray, List.set_cons_zero, List.set_cons_succ]
                    refine wpAnyH_ready (rs := [12]) (by kernel_rfl) (by simp) ?_
                    refine (AllReadyH.cons (o := e2o34) rfl (fun K hK => ?_) AllReadyH.nil)
                    refine ready_append_g 23 4 (.tmp 67) (.tmp 78) rfl rfl Tryd.underlying23 hi0 hz0 hz1 hz2 rfl (by decide) (by omega) W1.heap.size _ _ (boolCells kn) rfl HBA.own ⟨wA.heap.size, 0, none⟩ [.bool (litV kn g.2.2)] rfl rfl hnA (fun u hu => by simp at hu; subst hu; rfl) (by have := HKN.out.2; omega) (by have := HBA.low; omega) (fun v' w6 hown' hgrow6 hat6 => ?_)
                    obtain ⟨rgA, rcA, rfl⟩ := own_shape hown'
                    have hs6 := hgA.own hgrow6 (fun j hj => (HOB.out j hj).1) (fun e => by have := (HOB.out _ e.symm).2; omega)
                    obtain ⟨hs1, hs2⟩ := HBX.out.at_ haA hgrow6
                    have HSTEP := Lib.hid (HBX.out.step haA hgrow6 rfl hown' hat6)
                    refine hK.out _ _ (HS.out _ hs6) (fun hHeld => ?_)
                    clear hK K
                    try simp only [Act.put, List.setIfInBounds_toArray, List.set_cons_zero, List.set_cons_succ]
                    refine wpAnyH_ready (rs := [13]) (by kernel_rfl) (by simp) ?_
                    refine (AllReadyH.cons (o := e2o35) rfl (fun K hK => ?_) AllReadyH.nil)
                    rw [if_pos (by rfl)]
                    go_simp
                    have hss := hs6.own (grown_set w6 p 0 (.slice rgA (kn.length + 1) rcA)) (fun j e => by cases e; exact HKB.out.low.1) (fun e => by injection e with e; have := HKB.out.low.2; omega)
                    refine hK.out _ _ (HS.out _ hss) (fun hHeld => ?_)
                    clear hK K
                    try simp only [Act.put, List.setIfInBounds_toArray, List.set_cons_zero, List.set_cons_succ]
                    refine wpAnyH_done (by kernel_rfl) ?_ _
                    have hEND := hss
                    clear hHeld
                    clear hdr hEND hs1 hs2 hs6 hgA hgrow6 haA hnA hat6 hown'
                    have HSS := Lib.hid hss; clear hss
                    go_wp2_with fail
                    go_roundg (N - (k + 1))
                    case measure => rw [HI.out]; omega
                    case rel => exact ⟨k + 1, rgA, rcA, rfl, rfl, by omega, by rw [HST.out, HX.out]; exact HSTEP.out, HSS.out.grow⟩
                  · rw [if_pos (by rfl)]
                    go_simp
                    go_at_call 43
                    refine HC2.out.mono ?_
                    rintro e w9 ⟨rfl, hw9⟩
                    rw [hw9]
                    clear hw9 w9
                    go_wp2_with fail
                    refine hK.out _ _ (HS.out _ hdr) (fun hHeld => ?_)
                    clear hK K
                    try simp only [Act.put, List.setIfInBounds_toArray, List.set_cons_zero, List.set_cons_succ]
                    refine tk 10 e2o32 ?_ rfl (by kernel_rfl) (fun _ _ _ h => h) (by rfl) ?_ hHeld ?_
                    rotate_left 1
                    · (intro W hSW; (try dsimp only at hSW); first | (go_simp; done) | (go_simp; with_reducible rfl))
                    try simp only [Act.put, List.setIfInBounds_toArray, List.set_cons_zero, List.set_cons_succ]
                    refine wpAnyH_ready (rs := [0, 11]) (by kernel_rfl) (by simp) ?_
                    refine (AllReadyH.cons (o := e2o25) rfl (fun K hK => ?_) (AllReadyH.cons (o := e2o33) rfl (fun K hK => ?_) AllReadyH.nil))
                    · rw [if_pos (by rfl)]
                      have hrow := (HBX.out).c0
                      go_simp
                      clear hrow
                      refine hK.out _ _ (HS.out _ hdr) (fun hHeld => ?_)
                      clear hK K
                      try simp only [Act.put, List.setIfInBounds_toArray, List.set_cons_zero, List.set_cons_succ]
                      refine wpAnyH_ready (rs := [11]) (by kernel_rfl) (by simp) ?_
                      refine (AllReadyH.cons (o := e2o33) rfl (fun K hK => ?_) AllReadyH.nil)
                      rw [if_pos (by rfl)]
                      go_simp
                      have haA : wA.grownBy ((World.alloc wA (.cells #[.bool (litV kn g.2.2)] 4)).drew) none := World.grownBy.trans (World.grownBy_alloc wA _ none) (⟨rfl, rfl, rfl, Nat.le_refl _, fun _ _ _ => rfl⟩ : (World.alloc wA (.cells #[.bool (litV kn g.2.2)] 4)).grownBy ((World.alloc wA (.cells #[.bool (litV kn g.2.2)] 4)).drew) none)
                      have hnA : ∀ j u, [Value.bool (litV kn g.2.2)][j]? = some u → ((World.alloc wA (.cells #[.bool (litV kn g.2.2)] 4)).drew).cell? ((⟨wA.heap.size, 0, none⟩ : Addr).add j) = some u := cell_one_new wA _ _
                      obtain ⟨WA, hWA⟩ : ∃ WA, (World.alloc wA (.cells #[.bool (litV kn g.2.2)] 4)).drew = WA := ⟨_, rfl⟩
                      rw [hWA] at haA hnA ⊢
                      clear hWA
                      have HBA := HBX.out.grown haA
                      have hgA := HSF.out.next haA
                      refine hK.out _ _ (HS.out _ hgA) (fun hHeld => ?_)
                      clear hK K
                      try simp only [Act.put, List.setIfInBounds_toArray, List.set_cons_zero, List.set_cons_succ]
                      refine wpAnyH_ready (rs := [12]) (by kernel_rfl) (by simp) ?_
                      refine (AllReadyH.cons (o := e2o34) rfl (fun K hK => ?_) AllReadyH.nil)
                      refine ready_append_g 23 4 (.tmp 67) (.tmp 78) rfl rfl Tryd.underlying23 hi0 hz0 hz1 hz2 rfl (by decide) (by omega) W1.heap.size _ _ (boolCells kn) rfl HBA.own ⟨wA.heap.size, 0, none⟩ [.bool (litV kn g.2.2)] rfl rfl hnA (fun u hu => by simp at hu; subst hu; rfl) (by have := HKN.out.2; omega) (by have := HBA.low; omega) (fun v' w6 hown' hgrow6 hat6 => ?_)
                      obtain ⟨rgA, rcA, rfl⟩ := own_shape hown'
                      have hs6 := hgA.own hgrow6 (fun j hj => (HOB.out j hj).1) (fun e => by have := (HOB.out _ e.symm).2; omega)
                      obtain ⟨hs1, hs2⟩ := HBX.out.at_ haA hgrow6
                      have HSTEP := Lib.hid (HBX.out.step haA hgrow6 rfl hown' hat6)
                      refine hK.out _ _ (HS.out _ hs6) (fun hHeld => ?_)
                      clear hK K
                      try simp only [Act.put, List.setIfInBounds_toArray, List.set_cons_zero, List.set_cons_succ]
                      refine wpAnyH_ready (rs := [13]) (by kernel_rfl) (by simp) ?_
                      refine (AllReadyH.cons (o := e2o35) rfl (fun K hK => ?_) AllReadyH.nil)
                      rw [if_pos (by rfl)]
                      go_simp
                      have hss := hs6.own (grown_set w6 p 0 (.slice rgA (kn.length + 1) rcA)) (fun j e => by cases e; exact HKB.out.low.1) (fun e => by injection e with e; have := HKB.out.low.2; omega)
                      refine hK.out _ _ (HS.out _ hss) (fun hHeld => ?_)
                      clear hK K
                      try simp only [Act.put, List.setIfInBounds_toArray, List.set_cons_zero, List.set_cons_succ]
                      refine wpAnyH_done (by kernel_rfl) ?_ _
                      have hEND := hss
                      clear hHeld
                      clear hdr hEND hs1 hs2 hs6 hgA hgrow6 haA hnA hat6 hown'
                      have HSS := Lib.hid hss; clear hss
                      go_wp2_with fail
                      go_roundg (N - (k + 1))
                      case measure => rw [HI.out]; omega
                      case rel => exact ⟨k + 1, rgA, rcA, rfl, rfl, by omega, by rw [HST.out, HX.out]; exact HSTEP.out, HSS.out.grow⟩
                    · rw [if_pos (by rfl)]
                      go_simp
                      have haA : wA.grownBy ((World.alloc wA (.cells #[.bool (litV kn g.2.2)] 4)).drew) none := World.grownBy.trans (World.grownBy_alloc wA _ none) (⟨rfl, rfl, rfl, Nat.le_refl _, fun _ _ _ => rfl⟩ : (World.alloc wA (.cells #[.bool (litV kn g.2.2)] 4)).grownBy ((World.alloc wA (.cells #[.bool (litV kn g.2.2)] 4)).drew) none)
                      have hnA : ∀ j u, [Value.bool (litV kn g.2.2)][j]? = some u → ((World.alloc wA (.cells #[.bool (litV kn g.2.2)] 4)).drew).cell? ((⟨wA.heap.size, 0, none⟩ : Addr).add j) = some u := cell_one_new wA _ _
                      obtain ⟨WA, hWA⟩ : ∃ WA, (World.alloc wA (.cells #[.bool (litV kn g.2.2)] 4)).drew = WA := ⟨_, rfl⟩
                      rw [hWA] at haA hnA ⊢
                      clear hWA
                      have HBA := HBX.out.grown haA
                      have hgA := HSF.out.next haA
                      refine hK.out _ _ (HS.out _ hgA) (fun hHeld => ?_)
                      clear hK K
                      try simp only [Act.put, List.setIfInBounds_toArray, List.set_cons_zero, List.set_cons_succ]
                      refine wpAnyH_ready (rs := [0]) (by kernel_rfl) (by simp) ?_
                      refine (AllReadyH.cons (o := e2o25) rfl (fun K hK => ?_) AllReadyH.nil)
                      rw [if_pos (by rfl)]
                      have hrow := (HBA).c0
                      go_simp
                      clear hrow
                      refine hK.out _ _ (HS.out _ hgA) (fun hHeld => ?_)
                      clear hK K
                      try simp only [Act.put, List.setIfInBounds_toArray, List.set_cons_zero, List.set_cons_succ]
                      refine wpAnyH_ready (rs := [12]) (by kernel_rfl) (by simp) ?_
                      refine (AllReadyH.cons (o := e2o34) rfl (fun K hK => ?_) AllReadyH.nil)
                      refine ready_append_g 23 4 (.tmp 67) (.tmp 78) rfl rfl Tryd.underlying23 hi0 hz0 hz1 hz2 rfl (by decide) (by omega) W1.heap.size _ _ (boolCells kn) rfl HBA.own ⟨wA.heap.size, 0, none⟩ [.bool (litV kn g.2.2)] rfl rfl hnA (fun u hu => by simp at hu; subst hu; rfl) (by have := HKN.out.2; omega) (by have := HBA.low; omega) (fun v' w6 hown' hgrow6 hat6 => ?_)
                      obtain ⟨rgA, rcA, rfl⟩ := own_shape hown'
                      have hs6 := hgA.own hgrow6 (fun j hj => (HOB.out j hj).1) (fun e => by have := (HOB.out _ e.symm).2; omega)
                      obtain ⟨hs1, hs2⟩ := HBX.out.at_ haA hgrow6
                      have HSTEP := Lib.hid (HBX.out.step haA hgrow6 rfl hown' hat6)
                      refine hK.out _ _ (HS.out _ hs6) (fun hHeld => ?_)
                      clear hK K
                      try simp only [Act.put, List.setIfInBounds_toArray, List.set_cons_zero, List.set_cons_succ]
                      refine wpAnyH_ready (rs := [13]) (by kernel_rfl) (by simp) ?_
                      refine (AllReadyH.cons (o := e2o35) rfl (fun K hK => ?_) AllReadyH.nil)
                      rw [if_pos (by rfl)]
                      go_simp
                      have hss := hs6.own (grown_set w6 p 0 (.slice rgA (kn.length + 1) rcA)) (fun j e => by cases e; exact HKB.out.low.1) (fun e => by injection e with e; have := HKB.out.low.2; omega)
                      refine hK.out _ _ (HS.out _ hss) (fun hHeld => ?_)
                      clear hK K
                      try simp only [Act.put, List.setIfInBounds_toArray, List.set_cons_zero, List.set_cons_succ]
                      refine wpAnyH_done (by kernel_rfl) ?_ _
                      have hEND := hss
                      clear hHeld
                      clear hdr hEND hs1 hs2 hs6 hgA hgrow6 haA hnA hat6 hown'
                      have HSS := Lib.hid hss; clear hss
                      go_wp2_with fail
                      go_roundg (N - (k + 1))
                      case measure => rw [HI.out]; omega
                      case rel => exact ⟨k + 1, rgA, rcA, rfl, rfl, by omega, by rw [HST.out, HX.out]; exact HSTEP.out, HSS.out.grow⟩
              · have hl1 : litV kn g.2.1 = false := by simpa using hl1
                rw [hl1] at hC1
                have HC1 := Lib.hid hC1
                have HX := Lib.hid (show gateV vals kn g = false by unfold gateV; rw [if_neg hK1, if_pos hK2, hl1]; rfl)
                clear hC1 HC2 hK1 hK2 hl1
                go_wp2_with fail
                clear y0 y1 y2 x0 x1 x2 hwA
                have HS := Lib.hid (fun (Wh : World) (hWh : Safe W1 wr.heap.size g Wh) => (⟨hWh.grow, hWh.gate.2.1, hWh.gate.2.2⟩ : (fun Wh : World => W1.grownBy Wh none ∧ Wh.cell? ⟨wr.heap.size, 1, none⟩ = some (.int .i64 g.2.1) ∧ Wh.cell? ⟨wr.heap.size, 2, none⟩ = some (.int .i64 g.2.2)) Wh))
                have hdr : Safe W1 wr.heap.size g wA.drew := HSF.out.next (⟨rfl, rfl, rfl, Nat.le_refl _, fun _ _ _ => rfl⟩ : wA.grownBy wA.drew none)
                refine wp_region_held_drew (S := (fun Wh : World => W1.grownBy Wh none ∧ Wh.cell? ⟨wr.heap.size, 1, none⟩ = some (.int .i64 g.2.1) ∧ Wh.cell? ⟨wr.heap.size, 2, none⟩ = some (.int .i64 g.2.2))) (by kernel_rfl) (HS.out _ hdr) (fun hHeld => ?_)
                refine tk 1 e2o22 ?_ rfl (by kernel_rfl) (fun _ _ _ h => h) (by rfl) ?_ hHeld ?_
                rotate_left 1
                · (intro W hSW; (try dsimp only at hSW); first | (go_simp; done) | (go_simp; with_reducible rfl))
                try simp only [Act.put, List.setIfInBounds_toArray, List.set_cons_zero, List.set_cons_succ]
                refine tk 2 e2o23 ?_ rfl (by kernel_rfl) (fun _ _ _ h => h) (by rfl) ?_ hHeld ?_
                rotate_left 1
                · (intro W hSW; (try dsimp only at hSW); first | (go_simp; done) | (go_simp; with_reducible rfl))
                try simp only [Act.put, List.setIfInBounds_toArray, List.set_cons_zero, List.set_cons_succ]
                refine tk 3 e2o24 ?_ rfl (by kernel_rfl) (fun _ _ _ h => h) (by rfl) ?_ hHeld ?_
                rotate_left 1
                · (intro W hSW; (try dsimp only at hSW); first | (go_simp; done) | (go_simp; with_reducible rfl))
                try simp only [Act.put, List.setIfInBounds_toArray, List.set_cons_zero, List.set_cons_succ]
                refine wpAnyH_ready (rs := [0, 4]) (by kernel_rfl) (by simp) ?_
                refine (AllReadyH.cons (o := e2o25) rfl (fun K hK => ?_) (AllReadyH.cons (o := e2o26) rfl (fun K hK => ?_) AllReadyH.nil))
                · rw [if_pos (by rfl)]
                  have hrow := (HBX.out).c0
                  go_simp
                  clear hrow
                  refine hK.out _ _ (HS.out _ hdr) (fun hHeld => ?_)
                  clear hK K
                  try simp only [Act.put, List.setIfInBounds_toArray, List.set_cons_zero, List.set_cons_succ]
                  refine wpAnyH_ready (rs := [4]) (by kernel_rfl) (by simp) ?_
                  refine (AllReadyH.cons (o := e2o26) rfl (fun K hK => ?_) AllReadyH.nil)
                  rw [if_pos (by rfl)]
                  go_simp
                  go_at_call 43
                  refine HC1.out.mono ?_
                  rintro e w9 ⟨rfl, hw9⟩
                  rw [hw9]
                  clear hw9 w9
                  go_wp2_with fail
                  refine hK.out _ _ (HS.out _ hdr) (fun hHeld => ?_)
                  clear hK K
                  try simp only [Act.put, List.setIfInBounds_toArray, List.set_cons_zero, List.set_cons_succ]
                  refine tk 5 e2o27 ?_ rfl (by kernel_rfl) (fun _ _ _ h => h) (by rfl) ?_ hHeld ?_
                  rotate_left 1
                  · (intro W hSW; (try dsimp only at hSW); first | (go_simp; done) | (go_simp; with_reducible rfl))
                  try simp only [Act.put, List.setIfInBounds_toArray, List.set_cons_zero, List.set_cons_succ]
                  refine tku 6 e2o28 rfl (by kernel_rfl) (fun _ _ _ h => h) (by rfl) hHeld ?_
                  try simp only [Act.put, List.setIfInBounds_toArray, List.set_cons_zero, List.set_cons_succ]
                  refine tku 7 e2o29 rfl (by kernel_rfl) (fun _ _ _ h => h) (by rfl) hHeld ?_
                  try simp only [Act.put, List.setIfInBounds_toArray, List.set_cons_zero, List.set_cons_succ]
                  refine tku 8 e2o30 rfl (by kernel_rfl) (fun _ _ _ h => h) (by rfl) hHeld ?_
                  try simp only [Act.put, List.setIfInBounds_toArray, List.set_cons_zero, List.set_cons_succ]
                  refine tku 9 e2o31 rfl (by kernel_rfl) (fun _ _ _ h => h) (by rfl) hHeld ?_
                  try simp only [Act.put, List.setIfInBounds_toArray, List.set_cons_zero, List.set_cons_succ]
                  refine tk 10 e2o32 ?_ rfl (by kernel_rfl) (fun _ _ _ h => h) (by rfl) ?_ hHeld ?_
                  rotate_left 1
                  · (intro W hSW; (try dsimp only at hSW); first | (go_simp; done) | (go_simp; with_reducible rfl))
                  try simp only [Act.put, List.setIfInBounds_toArray, List.set_cons_zero, List.set_cons_succ]
                  refine wpAnyH_ready (rs := [11]) (by kernel_rfl) (by simp) ?_
                  refine (AllReadyH.cons (o := e2o33) rfl (fun K hK => ?_) AllReadyH.nil)
                  rw [if_pos (by rfl)]
                  go_simp
                  have haA : wA.grownBy ((World.alloc wA (.cells #[.bool false] 4)).drew) none := World.grownBy.trans (World.grownBy_alloc wA _ none) (⟨rfl, rfl, rfl, Nat.le_refl _, fun _ _ _ => rfl⟩ : (World.alloc wA (.cells #[.bool false] 4)).grownBy ((World.alloc wA (.cells #[.bool false] 4)).drew) none)
                  have hnA : ∀ j u, [Value.bool false][j]? = some u → ((World.alloc wA (.cells #[.bool false] 4)).drew).cell? ((⟨wA.heap.size, 0, none⟩ : Addr).add j) = some u := cell_one_new wA _ _
                  obtain ⟨WA, hWA⟩ : ∃ WA, (World.alloc wA (.cells #[.bool false] 4)).drew = WA := ⟨_, rfl⟩
                  rw [hWA] at haA hnA ⊢
                  clear hWA
                  have HBA := HBX.out.grown haA
                  have hgA := HSF.out.next haA
                  refine hK.out _ _ (HS.out _ hgA) (fun hHeld => ?_)
                  clear hK K
                  try simp only [Act.put, List.setIfInBounds_toArray, List.set_cons_zero, List.set_cons_succ]
                  refine wpAnyH_ready (rs := [12]) (by kernel_rfl) (by simp) ?_
                  refine (AllReadyH.cons (o := e2o34) rfl (fun K hK => ?_) AllReadyH.nil)
                  refine ready_append_g 23 4 (.tmp 67) (.tmp 78) rfl rfl Tryd.underlying23 hi0 hz0 hz1 hz2 rfl (by decide) (by omega) W1.heap.size _ _ (boolCells kn) rfl HBA.own ⟨wA.heap.size, 0, none⟩ [.bool false] rfl rfl hnA (fun u hu => by simp at hu; subst hu; rfl) (by have := HKN.out.2; omega) (by have := HBA.low; omega) (fun v' w6 hown' hgrow6 hat6 => ?_)
                  obtain ⟨rgA, rcA, rfl⟩ := own_shape hown'
                  have hs6 := hgA.own hgrow6 (fun j hj => (HOB.out j hj).1) (fun e => by have := (HOB.out _ e.symm).2; omega)
                  obtain ⟨hs1, hs2⟩ := HBX.out.at_ haA hgrow6
                  have HSTEP := Lib.hid (HBX.out.step haA hgrow6 rfl hown' hat6)
                  refine hK.out _ _ (HS.out _ hs6) (fun hHeld => ?_)
                  clear hK K
                  try simp only [Act.put, List.setIfInBounds_toArray, List.set_cons_zero, List.set_cons_succ]
                  refine wpAnyH_ready (rs := [13]) (by kernel_rfl) (by simp) ?_
                  refine (AllReadyH.cons (o := e2o35) rfl (fun K hK => ?_) AllReadyH.nil)
                  rw [if_pos (by rfl)]
                  go_simp
                  have hss := hs6.own (grown_set w6 p 0 (.slice rgA (kn.length + 1) rcA)) (fun j e => by cases e; exact HKB.out.low.1) (fun e => by injection e with e; have := HKB.out.low.2; omega)
                  refine hK.out _ _ (HS.out _ hss) (fun hHeld => ?_)
                  clear hK K
                  try simp only [Act.put, List.setIfInBounds_toArray, List.set_cons_zero, List.set_cons_succ]
                  refine wpAnyH_done (by kernel_rfl) ?_ _
                  have hEND := hss
                  clear hHeld
                  clear hdr hEND hs1 hs2 hs6 hgA hgrow6 haA hnA hat6 hown'
                  have HSS := Lib.hid hss; clear hss
                  go_wp2_with fail
                  go_roundg (N - (k + 1))
                  case measure => rw [HI.out]; omega
                  case rel => exact ⟨k + 1, rgA, rcA, rfl, rfl, by omega, by rw [HST.out, HX.out]; exact HSTEP.out, HSS.out.grow⟩
                · rw [if_pos (by rfl)]
                  go_simp
                  go_at_call 43
                  refine HC1.out.mono ?_
                  rintro e w9 ⟨rfl, hw9⟩
                  rw [hw9]
                  clear hw9 w9
                  go_wp2_with fail
                  refine hK.out _ _ (HS.out _ hdr) (fun hHeld => ?_)
                  clear hK K
                  try simp only [Act.put, List.setIfInBounds_toArray, List.set_cons_zero, List.set_cons_succ]
                  refine tk 5 e2o27 ?_ rfl (by kernel_rfl) (fun _ _ _ h => h) (by rfl) ?_ hHeld ?_
                  rotate_left 1
                  · (intro W hSW; (try dsimp only at hSW); first | (go_simp; done) | (go_simp; with_reducible rfl))
                  try simp only [Act.put, List.setIfInBounds_toArray, List.set_cons_zero, List.set_cons_succ]
                  refine tku 6 e2o28 rfl (by kernel_rfl) (fun _ _ _ h => h) (by rfl) hHeld ?_
                  try simp only [Act.put, List.setIfInBounds_toArray, List.set_cons_zero, List.set_cons_succ]
                  refine tku 7 e2o29 rfl (by kernel_rfl) (fun _ _ _ h => h) (by rfl) hHeld ?_
                  try simp only [Act.put, List.setIfInBounds_toArray, List.set_cons_zero, List.set_cons_succ]
                  refine tku 8 e2o30 rfl (by kernel_rfl) (fun _ _ _ h => h) (by rfl) hHeld ?_
                  try simp only [Act.put, List.setIfInBounds_toArray, List.set_cons_zero, List.set_cons_succ]
                  refine tku 9 e2o31 rfl (by kernel_rfl) (fun _ _ _ h => h) (by rfl) hHeld ?_
                  try simp only [Act.put, List.setIfInBounds_toArray, List.set_cons_zero, List.set_cons_succ]
                  refine tk 10 e2o32 ?_ rfl (by kernel_rfl) (fun _ _ _ h => h) (by rfl) ?_ hHeld ?_
                  rotate_left 1
                  · (intro W hSW; (try dsimp only at hSW); first | (go_simp; done) | (go_simp; with_reducible rfl))
                  try simp only [Act.put, List.setIfInBounds_toArray, List.set_cons_zero, List.set_cons_succ]
                  refine wpAnyH_ready (rs := [0, 11]) (by kernel_rfl) (by simp) ?_
                  refine (AllReadyH.cons (o := e2o25) rfl (fun K hK => ?_) (AllReadyH.cons (o := e2o33) rfl (fun K hK => ?_) AllReadyH.nil))
                  · rw [if_pos (by rfl)]
                    have hrow := (HBX.out).c0
                    go_simp
                    clear hrow
                    refine hK.out _ _ (HS.out _ hdr) (fun hHeld => ?_)
                    clear hK K
                    try simp only [Act.put, List.setIfInBounds_toArray, List.set_cons_zero, List.set_cons_succ]
                    refine wpAnyH_ready (rs := [11]) (by kernel_rfl) (by simp) ?_
                    refine (AllReadyH.cons (o := e2o33) rfl (fun K hK => ?_) AllReadyH.nil)
                    rw [if_pos (by rfl)]
                    go_simp
                    have haA : wA.grownBy ((World.alloc wA (.cells #[.bool false] 4)).drew) none := World.grownBy.trans (World.grownBy_alloc wA _ none) (⟨rfl, rfl, rfl, Nat.le_refl _, fun _ _ _ => rfl⟩ : (World.alloc wA (.cells #[.bool false] 4)).grownBy ((World.alloc wA (.cells #[.bool false] 4)).drew) none)
                    have hnA : ∀ j u, [Value.bool false][j]? = some u → ((World.alloc wA (.cells #[.bool false] 4)).drew).cell? ((⟨wA.heap.size, 0, none⟩ : Addr).add j) = some u := cell_one_new wA _ _
                    obtain ⟨WA, hWA⟩ : ∃ WA, (World.alloc wA (.cells #[.bool false] 4)).drew = WA := ⟨_, rfl⟩
                    rw [hWA] at haA hnA ⊢
                    clear hWA
                    have HBA := HBX.out.grown haA
                    have hgA := HSF.out.next haA
                    refine hK.out _ _ (HS.out _ hgA) (fun hHeld => ?_)
                    clear hK K
                    try simp only [Act.put, List.setIfInBounds_toArray, List.set_cons_zero, List.set_cons_succ]
                    refine wpAnyH_ready (rs := [12]) (by kernel_rfl) (by simp) ?_
                    refine (AllReadyH.cons (o := e2o34) rfl (fun K hK => ?_) AllReadyH.nil)
                    refine ready_append_g 23 4 (.tmp 67) (.tmp 78) rfl rfl Tryd.underlying23 hi0 hz0 hz1 hz2 rfl (by decide) (by omega) W1.heap.size _ _ (boolCells kn) rfl HBA.own ⟨wA.heap.size, 0, none⟩ [.bool false] rfl rfl hnA (fun u hu => by simp at hu; subst hu; rfl) (by have := HKN.out.2; omega) (by have := HBA.low; omega) (fun v' w6 hown' hgrow6 hat6 => ?_)
                    obtain ⟨rgA, rcA, rfl⟩ := own_shape hown'
                    have hs6 := hgA.own hgrow6 (fun j hj => (HOB.out j hj).1) (fun e => by have := (HOB.out _ e.symm).2; omega)
                    obtain ⟨hs1, hs2⟩ := HBX.out.at_ haA hgrow6
                    have HSTEP := Lib.hid (HBX.out.step haA hgrow6 rfl hown' hat6)
                    refine hK.out _ _ (HS.out _ hs6) (fun hHeld => ?_)
                    clear hK K
                    try simp only [Act.put, List.setIfInBounds_toArray, List.set_cons_zero, List.set_cons_succ]
                    refine wpAnyH_ready (rs := [13]) (by kernel_rfl) (by simp) ?_
                    refine (AllReadyH.cons (o := e2o35) rfl (fun K hK => ?_) AllReadyH.nil)
                    rw [if_pos (by rfl)]
                    go_simp
                    have hss := hs6.own (grown_set w6 p 0 (.slice rgA (kn.length + 1) rcA)) (fun j e => by cases e; exact HKB.out.low.1) (fun e => by injection e with e; have := HKB.out.low.2; omega)
                    refine hK.out _ _ (HS.out _ hss) (fun hHeld => ?_)
                    clear hK K
                    try simp only [Act.put, List.setIfInBounds_toArray, List.set_cons_zero, List.set_cons_succ]
                    refine wpAnyH_done (by kernel_rfl) ?_ _
                    have hEND := hss
                    clear hHeld
                    clear hdr hEND hs1 hs2 hs6 hgA hgrow6 haA hnA hat6 hown'
                    have HSS := Lib.hid hss; clear hss
                    go_wp2_with fail
                    go_roundg (N - (k + 1))
                    case measure => rw [HI.out]; omega
                    case rel => exact ⟨k + 1, rgA, rcA, rfl, rfl, by omega, by rw [HST.out, HX.out]; exact HSTEP.out, HSS.out.grow⟩
                  · rw [if_pos (by rfl)]
                    go_simp
                    have haA : wA.grownBy ((World.alloc wA (.cells #[.bool false] 4)).drew) none := World.grownBy.trans (World.grownBy_alloc wA _ none) (⟨rfl, rfl, rfl, Nat.le_refl _, fun _ _ _ => rfl⟩ : (World.alloc wA (.cells #[.bool false] 4)).grownBy ((World.alloc wA (.cells #[.bool false] 4)).drew) none)
                    have hnA : ∀ j u, [Value.bool false][j]? = some u → ((World.alloc wA (.cells #[.bool false] 4)).drew).cell? ((⟨wA.heap.size, 0, none⟩ : Addr).add j) = some u := cell_one_new wA _ _
                    obtain ⟨WA, hWA⟩ : ∃ WA, (World.alloc wA (.cells #[.bool false] 4)).drew = WA := ⟨_, rfl⟩
                    rw [hWA] at haA hnA ⊢
                    clear hWA
                    have HBA := HBX.out.grown haA
                    have hgA := HSF.out.next haA
                    refine hK.out _ _ (HS.out _ hgA) (fun hHeld => ?_)
                    clear hK K
                    try simp only [Act.put, List.setIfInBounds_toArray, List.set_cons_zero, List.set_cons_succ]
                    refine wpAnyH_ready (rs := [0]) (by kernel_rfl) (by simp) ?_
                    refine (AllReadyH.cons (o := e2o25) rfl (fun K hK => ?_) AllReadyH.nil)
                    rw [if_pos (by rfl)]
                    have hrow := (HBA).c0
                    go_simp
                    clear hrow
                    refine hK.out _ _ (HS.out _ hgA) (fun hHeld => ?_)
                    clear hK K
                    try simp only [Act.put, List.setIfInBounds_toArray, List.set_cons_zero, List.set_cons_succ]
                    refine wpAnyH_ready (rs := [12]) (by kernel_rfl) (by simp) ?_
                    refine (AllReadyH.cons (o := e2o34) rfl (fun K hK => ?_) AllReadyH.nil)
                    refine ready_append_g 23 4 (.tmp 67) (.tmp 78) rfl rfl Tryd.underlying23 hi0 hz0 hz1 hz2 rfl (by decide) (by omega) W1.heap.size _ _ (boolCells kn) rfl HBA.own ⟨wA.heap.size, 0, none⟩ [.bool false] rfl rfl hnA (fun u hu => by simp at hu; subst hu; rfl) (by have := HKN.out.2; omega) (by have := HBA.low; omega) (fun v' w6 hown' hgrow6 hat6 => ?_)
                    obtain ⟨rgA, rcA, rfl⟩ := own_shape hown'
                    have hs6 := hgA.own hgrow6 (fun j hj => (HOB.out j hj).1) (fun e => by have := (HOB.out _ e.symm).2; omega)
                    obtain ⟨hs1, hs2⟩ := HBX.out.at_ haA hgrow6
                    have HSTEP := Lib.hid (HBX.out.step haA hgrow6 rfl hown' hat6)
                    refine hK.out _ _ (HS.out _ hs6) (fun hHeld => ?_)
                    clear hK K
                    try simp only [Act.put, List.setIfInBounds_toArray, List.set_cons_zero, List.set_cons_succ]
                    refine wpAnyH_ready (rs := [13]) (by kernel_rfl) (by simp) ?_
                    refine (AllReadyH.cons (o := e2o35) rfl (fun K hK => ?_) AllReadyH.nil)
                    rw [if_pos (by rfl)]
                    go_simp
                    have hss := hs6.own (grown_set w6 p 0 (.slice rgA (kn.length + 1) rcA)) (fun j e => by cases e; exact HKB.out.low.1) (fun e => by injection e with e; have := HKB.out.low.2; omega)
                    refine hK.out _ _ (HS.out _ hss) (fun hHeld => ?_)
                    clear hK K
                    try simp only [Act.put, List.setIfInBounds_toArray, List.set_cons_zero, List.set_cons_succ]
                    refine wpAnyH_done (by kernel_rfl) ?_ _
                    have hEND := hss
                    clear hHeld
                    clear hdr hEND hs1 hs2 hs6 hgA hgrow6 haA hnA hat6 hown'
                    have HSS := Lib.hid hss; clear hss
                    go_wp2_with fail
                    go_roundg (N - (k + 1))
                    case measure => rw [HI.out]; omega
                    case rel => exact ⟨k + 1, rgA, rcA, rfl, rfl, by omega, by rw [HST.out, HX.out]; exact HSTEP.out, HSS.out.grow⟩
            · have e2 := beqF hK2
              have HX := Lib.hid (show gateV vals kn g = true by unfold gateV; rw [if_neg hK1, if_neg hK2])
              clear hK1 hK2
              have kb0 := HBX.out.c0
              go_wp2_with (at_builtin; refine wpList_append_own_at _ rfl _ _ 23 rfl W1.heap.size 4 i0 (.bool false) 1 1 Tryd.underlying23 hi0 hz0 hz1 hz2 rfl (by decide) _ kn.length (boolCells kn) rfl (HBX.out.own.alloc _) ⟨wA.heap.size, 0, none⟩ 1 1 [.bool true] rfl rfl (cell_one_new _ _ _) (fun u hu => by simp at hu; subst hu; rfl) (by have := HKN.out.2; unfold maxLen; omega) (by have := HKN.out.2; omega) (by have := HBX.out.low; simp; omega) ?_)
              intro v' w6 hown' hgrow6 _ hat6
              have haA := World.grownBy_alloc wA (.cells #[.bool true] 4) none
              obtain ⟨rgA, rcA, rfl⟩ := own_shape hown'
              have hs6 := (HSF.out.next haA).own hgrow6 (fun j hj => (HOB.out j hj).1) (fun e => by have := (HOB.out _ e.symm).2; omega)
              obtain ⟨hs1, hs2⟩ := HBX.out.at_ haA hgrow6
              have HSTEP := Lib.hid (HBX.out.step haA hgrow6 rfl hown' (hat6.imp id (fun e => by rw [e]; simp)))
              have HSS := Lib.hid (hs6.own (grown_set w6 p 0 (.slice rgA (kn.length + 1) rcA)) (fun j e => by cases e; exact HKB.out.low.1) (fun e => by injection e with e; have := HKB.out.low.2; omega))
              clear hs6 hgrow6 haA hat6 hown' kb0
              go_wp2_with fail
              go_roundg (N - (k + 1))
              case measure => rw [HI.out]; omega
              case rel => exact ⟨k + 1, rgA, rcA, rfl, rfl, by omega, by rw [HST.out, HX.out]; exact HSTEP.out, HSS.out.grow⟩
        · have f1 : decide (k < N) = false := decide_eq_false hkN
          have hkE : k = N := by omega
          have HBX := Lib.hid (value_calls r W1.heap.size p ka kc kn wr HKB.out (by have := HKN.out.2; omega) hr)
          have HEE := Lib.hid (show evalC gs vals r = litV kn r by rw [HE.out, ← hkE, HKN.out.1])
          clear hkE
          go_wp2_with (go_at_call 43; refine HBX.out.mono ?_; rintro e w9 ⟨rfl, hw9⟩; rw [hw9]; clear hw9 w9)
          go_ret
          exact ⟨by rw [HEE.out]; rfl, World.grownBy.trans HG.out HGR.out⟩
end Go.Proofs.YthkjjiijjedipaaDoor
