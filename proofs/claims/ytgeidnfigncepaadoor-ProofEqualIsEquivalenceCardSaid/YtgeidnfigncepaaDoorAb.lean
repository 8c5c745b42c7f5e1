/- From a law's walk to its row: what all rows of the seat share. The table of powers of ten; arguments that came in. -/
import Derived.Test.YtgeidnfigncepaaDoorRows
import Derived.Test.YtgeidnfigncepaaDoorCards
import Derived.Test.YtgeidnfigncepaaDoorTie
import Derived.Test.YtgeidnfigncepaaDoorW
import Derived.ProofKit
import Derived.LaidMore
import Derived.OpenShut
import Derived.Stop.Joined
import Derived.SevenTiedAt
import Derived.Lib.LaidTab
import Derived.Deep.Slices
namespace Go.Proofs.YtgeidnfigncepaaDoor
open Go.ChangeShapes Go.WideShapes Go.ChangeAt Go.WideMaps Go.WideElems Go.RowKit Go.Deep
open Go.ChangeMaps (open_string shut_string)

theorem own : ownKnob Tryd.prog.godebug = none := by kernel_rfl
set_option maxRecDepth 100000 in
theorem door_met (os : Os) (args : Array Value) : laidMetH Tryd.prog [("math/bits.deBruijn32tab", Rows.laid_math_bits_deBruijn32tab), ("math/bits.deBruijn64tab", Rows.laid_math_bits_deBruijn64tab), ("internal/strconv.uint64pow10", Rows.laid_internal_strconv_uint64pow10)] ((World.doorLaid Tryd.prog 14 os).forCall (fun _ _ => 0) ⟨#[], args, []⟩).memory :=
  laidMetH_of_parts3 (fuel := 200) (laidMet_of_run' 200 (by kernel_rfl) (by kernel_rfl)) (by kernel_rfl) (by kernel_rfl)
theorem below_of {w w' : World} (h : w.grownBy w' none) : Below w.heap.size w w' := ⟨h.os, h.tape, h.output, h.size, fun k hk => h.block k hk (by simp)⟩
theorem laidOut : laidOutB Tryd.prog = true := by kernel_rfl

theorem gPow : Tryd.prog.globalNamed "internal/strconv.uint64pow10" = some 0 := by kernel_rfl
theorem tPow : (Tryd.prog.globals[0]?).map (·.type) = some 82 := by kernel_rfl
theorem dPow : (Rows.laid_internal_strconv_uint64pow10 : DataW Unit) = Lib.tabData .u64 Lib.pow10Tab := by kernel_rfl
theorem tab_of {W : World} (h : laidMetH Tryd.prog [("math/bits.deBruijn32tab", Rows.laid_math_bits_deBruijn32tab), ("math/bits.deBruijn64tab", Rows.laid_math_bits_deBruijn64tab), ("internal/strconv.uint64pow10", Rows.laid_internal_strconv_uint64pow10)] W) : Tab W := by
  rw [MakeChecks.laidMetH_plain _ _ _ (by kernel_rfl)] at h
  obtain ⟨ps, ⟨g0, t0, cs0, f0, p0, q0, _, _, _, _, ⟨g1, t1, cs1, f1, p1, q1, _, _, _, _, ⟨g2, t2, cs2, f2, p2, q2, hg2, ht2, hv2, hd2, _, _⟩, _⟩, _⟩, _⟩ := h
  obtain rfl := Option.some.inj (gPow.symm.trans hg2)
  obtain rfl := Option.some.inj (tPow.symm.trans ht2)
  unfold Tab Lib.TabIs
  rw [dPow] at hd2
  rw [hv2, ← Lib.cells_of_tab Tryd.underlying82 Tryd.underlying75 (by kernel_rfl) (by kernel_rfl) hd2]

/-- Arguments of these types read on as they read, where nothing that lay has turned. -/
theorem trodAll_below' {H : Type} {enc : TypeId × Value → H} {P : Program} (hl : laidOutB P = true) {W W' : World} (hb : Below W.heap.size W W') : ∀ {ts : List TypeId} {vs : List Value} {ds : List (DataW H)} {ps : List MemPlace},
    (ts.all fun t => P.readableRec t && decide (t < P.types.size)) = true → DataW.TrodAll enc P W 0 (fun _ => true) true ts vs ds ps → (∀ x ∈ ps, x.block < W.heap.size) →
    DataW.TrodAll enc P W' 0 (fun b => decide (b < W.heap.size)) true ts vs ds ps
  | [], _, _, _, _, h, _ => by
    obtain ⟨rfl, rfl, rfl⟩ := trodAll_nil h
    exact trodAll_mk0
  | t :: ts, vs, ds, ps, ht, h, hlt => by
    obtain ⟨v, vs', d, ds', p, q, rfl, rfl, rfl, hd, hrest⟩ := trodAll_cons h
    simp only [List.all_cons, Bool.and_eq_true, decide_eq_true_eq] at ht
    exact ⟨p, q, Below.trod hl ht.1.1 ht.1.2 hd hb (fun x hx => hlt x (by simp [hx])), trodAll_below' hl hb (by simpa using ht.2) hrest (fun x hx => hlt x (by simp [hx])), rfl⟩
theorem trodAll_below {H : Type} {enc : TypeId × Value → H} {W W' : World} (hb : Below W.heap.size W W') {ts : List TypeId} {vs : List Value} {ds : List (DataW H)} {ps : List MemPlace}
    (ht : (ts.all fun t => Tryd.prog.readableRec t && decide (t < Tryd.prog.types.size)) = true) (h : DataW.TrodAll enc Tryd.prog W 0 (fun _ => true) true ts vs ds ps) (hlt : ∀ x ∈ ps, x.block < W.heap.size) :
    DataW.TrodAll enc Tryd.prog W' 0 (fun b => decide (b < W.heap.size)) true ts vs ds ps := trodAll_below' laidOut hb ht h hlt
theorem open_u8 {H : Type} {enc : TypeId × Value → H} {W : World} {v : Value} {d : DataW H} {ps : List MemPlace} {base : Nat} (hv : Value.okWide Tryd.prog W .any base 5 v) (h : DataW.Trod enc Tryd.prog W 0 (fun _ => true) true 5 v d ps) :
    ∃ y : Nat, v = .int .u8 (y : Int) ∧ y < 256 := by
  obtain ⟨x, rfl, _, _, wx⟩ := open_int Tryd.underlying5 hv h
  have hw : 0 ≤ x ∧ x < 256 := by
    simp [Lit.wf, IntKind.min, IntKind.max, IntKind.bits, IntKind.signed] at wx
    omega
  exact ⟨x.toNat, by rw [Int.toNat_of_nonneg hw.1], by omega⟩
theorem open_u16 {H : Type} {enc : TypeId × Value → H} {W : World} {v : Value} {d : DataW H} {ps : List MemPlace} {base : Nat} (hv : Value.okWide Tryd.prog W .any base 22 v) (h : DataW.Trod enc Tryd.prog W 0 (fun _ => true) true 22 v d ps) :
    ∃ y : Nat, v = .int .u16 (y : Int) ∧ y < 65536 := by
  obtain ⟨x, rfl, _, _, wx⟩ := open_int Tryd.underlying22 hv h
  have hw : 0 ≤ x ∧ x < 65536 := by
    simp [Lit.wf, IntKind.min, IntKind.max, IntKind.bits, IntKind.signed] at wx
    omega
  exact ⟨x.toNat, by rw [Int.toNat_of_nonneg hw.1], by omega⟩

section
variable {H : Type} {enc : TypeId × Value → H} {W : World}
/-- A cell that reads as a slice of integers. -/
theorem ints_open {n : Nat} {v : Value} {x : DataW H × List MemPlace} (h : DataW.trod enc Tryd.prog W 0 (fun _ => true) true n 41 [v] = some x) :
    ∃ (zs : List Int) (ra : Option Addr) (rc : Nat), v = .slice ra zs.length rc ∧ Ints W ra rc zs ∧ (zs.length : Int) ≤ 9223372036854775807 := by
  rcases open_ints Tryd.underlying41 Tryd.underlying3 (by kernel_rfl) h with ⟨hcs, _⟩ | ⟨a, len, cap, zs, hcs, _, hl, hm, hz, _, hcell, _⟩
  · injection hcs with hcs _
    subst hcs
    exact ⟨[], none, 0, rfl, ints_nil W, by decide⟩
  · injection hcs with hcs _
    subst hcs
    have hzc : zs.length = cap := by simpa using hz
    have htl : (zs.take len).length = len := by simp; omega
    refine ⟨zs.take len, some a, cap, by rw [htl], ⟨by rw [htl]; exact hl, fun j z hj => ?_⟩, by rw [htl]; unfold maxLen at hm; omega⟩
    rw [List.getElem?_take] at hj
    split at hj
    · have hjz := (List.getElem?_eq_some_iff.1 hj).1
      obtain ⟨b, o, rfl, hc⟩ := ints_at hcell (by omega)
      refine ⟨b, o, rfl, ?_⟩
      have := hc j hjz
      rw [List.getD_eq_getElem?_getD, hj] at this
      exact this
    · cases hj
theorem choose_upto {α : Type} [Inhabited α] {P : Nat → α → Prop} : ∀ {m : Nat}, (∀ i, i < m → ∃ y, P i y) → ∃ f : Nat → α, ∀ i, i < m → P i (f i)
  | 0, _ => ⟨fun _ => default, fun i hi => absurd hi (Nat.not_lt_zero _)⟩
  | m + 1, h => by
    obtain ⟨f, hf⟩ := choose_upto (m := m) (fun i hi => h i (by omega))
    obtain ⟨y, hy⟩ := h m (by omega)
    refine ⟨fun i => if i = m then y else f i, fun i hi => ?_⟩
    by_cases e : i = m
    · subst e; simpa using hy
    · simpa [e] using hf i (by omega)
theorem add_off (b o j : Nat) : (⟨b, o, none⟩ : Addr).add j = ⟨b, o + j, none⟩ := by unfold Addr.add; split <;> simp_all
/-- Three cells that read as a step. -/
theorem step_open {n : Nat} {a : Addr} {cs : List Value} {x : DataW H × List MemPlace} (hc : W.cells? 0 a 3 = some cs) (h : DataW.trod enc Tryd.prog W 0 (fun _ => true) true n 43 cs = some x) :
    ∃ (s : St) (b o : Nat), a = ⟨b, o, none⟩ ∧ StepAt W b o s ∧ (s.2.1.length : Int) ≤ 9223372036854775807 := by
  obtain ⟨_, hlen, hat⟩ := World.cells?_some hc
  obtain ⟨xs, m, _, _, _, hxl, hf⟩ := DataW.trod_struct Tryd.underlying43 h
  match cs, hlen with
  | [c0, c1, c2], _ =>
    match xs, hxl with
    | [x0, x1, x2], _ =>
      have k3 : Tryd.prog.cellsOf 3 = 1 := by kernel_rfl
      have k41 : Tryd.prog.cellsOf 41 = 1 := by kernel_rfl
      have f0 : DataW.trod enc Tryd.prog W 0 (fun _ => true) true m 3 [c0] = some x0 := by
        have f : DataW.trod enc Tryd.prog W 0 (fun _ => true) true m 3 (([c0, c1, c2].drop 0).take (Tryd.prog.cellsOf 3)) = some x0 := hf 0 _ rfl
        rw [k3] at f; exact f
      have f1 : DataW.trod enc Tryd.prog W 0 (fun _ => true) true m 41 [c1] = some x1 := by
        have f : DataW.trod enc Tryd.prog W 0 (fun _ => true) true m 41 (([c0, c1, c2].drop 1).take (Tryd.prog.cellsOf 41)) = some x1 := hf 1 _ rfl
        rw [k41] at f; exact f
      have f2 : DataW.trod enc Tryd.prog W 0 (fun _ => true) true m 3 [c2] = some x2 := by
        have f : DataW.trod enc Tryd.prog W 0 (fun _ => true) true m 3 (([c0, c1, c2].drop 2).take (Tryd.prog.cellsOf 3)) = some x2 := hf 2 _ rfl
        rw [k3] at f; exact f
      obtain ⟨k, e0, _, _⟩ := DataW.trod_int Tryd.underlying3 f0
      obtain ⟨zs, ra, rc, e1, hi, hm⟩ := ints_open f1
      obtain ⟨s, e2, _, _⟩ := DataW.trod_int Tryd.underlying3 f2
      injection e0 with e0 _
      injection e2 with e2 _
      subst e0 e1 e2
      have a0 := hat 0 (by omega)
      have a1 := hat 1 (by omega)
      have a2 := hat 2 (by omega)
      obtain ⟨b, o, spot⟩ := a
      have hspot : spot = none := by simpa [Addr.add] using World.cell?_spot a0
      subst hspot
      rw [add_off] at a0 a1 a2
      exact ⟨(k, zs, s), b, o, rfl, ⟨by simpa using a0, ⟨ra, rc, by simpa using a1, hi⟩, by simpa using a2⟩, hm⟩
theorem open_steps {v : Value} {d : DataW H} {ps : List MemPlace} {base : Nat} (hv : Value.okWide Tryd.prog W .any base 23 v) (h : DataW.Trod enc Tryd.prog W 0 (fun _ => true) true 23 v d ps) :
    ∃ (l : List St) (a : Option Addr) (c : Nat), v = .slice a l.length c ∧ Arg W a c l.length l := by
  obtain ⟨ra, rn, rc, rfl⟩ := okWide_slice Tryd.underlying23 hv
  obtain ⟨fuel, hf⟩ := h
  rcases open_slice Tryd.underlying23 hf with ⟨hcs, _⟩ | ⟨a, len, cap, m, n, D, Pl, hcs, _, hl, hm, hmm, _, hi⟩
  · simp only [Value.cells, List.cons.injEq, Value.slice.injEq, and_true] at hcs
    obtain ⟨rfl, rfl, rfl⟩ := hcs
    exact ⟨[], none, 0, rfl, rfl, ⟨Nat.le_refl _, fun j x hj => by simp at hj⟩, by decide, fun x hx => by cases hx⟩
  · simp only [Value.cells, List.cons.injEq, Value.slice.injEq, and_true] at hcs
    obtain ⟨rfl, rfl, rfl⟩ := hcs
    simp only [if_true] at hmm
    subst hmm
    have k43 : Tryd.prog.cellsOf 43 = 3 := by kernel_rfl
    have each : ∀ i, i < rn → ∃ s : St, (∃ b o, a.add (i * 3) = ⟨b, o, none⟩ ∧ StepAt W b o s) ∧ (s.2.1.length : Int) ≤ 9223372036854775807 := by
      intro i hin
      obtain ⟨cs', hc, ht⟩ := hi i (by omega)
      rw [k43] at hc
      obtain ⟨s, b, o, e, hs, hm'⟩ := step_open hc ht
      exact ⟨s, ⟨b, o, e, hs⟩, hm'⟩
    obtain ⟨f, hf'⟩ := choose_upto each
    have hlen : ((List.range rn).map f).length = rn := by simp
    refine ⟨(List.range rn).map f, some a, m, by rw [hlen], rfl, ⟨by rw [hlen]; exact hl, fun j x hj => ?_⟩, by rw [hlen]; unfold maxLen at hm; omega, fun x hx => ?_⟩
    · rw [List.getElem?_map] at hj
      cases hr : (List.range rn)[j]? with
      | none => rw [hr] at hj; cases hj
      | some q =>
        have hjl := (List.getElem?_eq_some_iff.1 hr).1
        have hq : q = j := by
          have := (List.getElem?_eq_some_iff.1 hr).2
          simpa using this.symm
        subst hq
        rw [hr] at hj
        cases hj
        have hql : q < rn := by simpa using hjl
        obtain ⟨⟨b0, o0, e0, _⟩, _⟩ := hf' 0 (by omega)
        rw [Nat.zero_mul, show a.add 0 = a from rfl] at e0
        subst e0
        obtain ⟨⟨b, o, e, hs⟩, _⟩ := hf' q hql
        rw [add_off] at e
        simp only [Addr.mk.injEq, and_true] at e
        obtain ⟨rfl, rfl⟩ := e
        exact ⟨_, _, rfl, hs⟩
    · obtain ⟨i, hi', rfl⟩ := List.mem_map.1 hx
      exact (hf' i (List.mem_range.1 hi')).2
end
end Go.Proofs.YtgeidnfigncepaaDoor
