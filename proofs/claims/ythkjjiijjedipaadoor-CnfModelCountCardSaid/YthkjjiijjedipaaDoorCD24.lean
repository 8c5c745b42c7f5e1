/- Texts of the proof: Ab. -/
import Derived.Test.YthkjjiijjedipaaDoorRows
import Derived.Test.YthkjjiijjedipaaDoorCards
import Derived.Test.YthkjjiijjedipaaDoorTie
import Derived.Test.YthkjjiijjedipaaDoorCD14
import Derived.Test.YthkjjiijjedipaaDoorCD23
import Derived.Test.YthkjjiijjedipaaDoorCD04
import Derived.Test.YthkjjiijjedipaaDoorCD05
import Derived.Deep.Strs
import Derived.Lib.SmallJoins
import Derived.ProofKit
import Derived.LaidMore
import Derived.OpenShut
import Derived.Stop.Joined
import Derived.SevenTiedAt
import Derived.Lib.LaidTab
import Derived.Deep.Slices
namespace Go.Proofs.YthkjjiijjedipaaDoor
open Go.ChangeShapes Go.WideShapes Go.ChangeAt Go.WideMaps Go.WideElems Go.RowKit Go.Deep
open Go.ChangeMaps (open_string shut_string)

set_option maxRecDepth 100000
theorem own : ownKnob Tryd.prog.godebug = none := by kernel_rfl
set_option maxRecDepth 100000 in
theorem door_met (os : Os) (args : Array Value) : laidMetH Tryd.prog [("math/bits.deBruijn32tab", Rows.laid_math_bits_deBruijn32tab), ("math/bits.deBruijn64tab", Rows.laid_math_bits_deBruijn64tab), ("internal/strconv.uint64pow10", Rows.laid_internal_strconv_uint64pow10)] ((World.doorLaid Tryd.prog 14 os).forCall (fun _ _ => 0) ⟨#[], args, []⟩).memory :=
  laidMetH_of_parts3 (fuel := 200) (laidMet_of_run' 200 (by kernel_rfl) (by kernel_rfl)) (by kernel_rfl) (by kernel_rfl)
theorem below_of {w w' : World} (h : w.grownBy w' none) : Below w.heap.size w w' := ⟨h.os, h.tape, h.output, h.size, fun k hk => h.block k hk (by simp)⟩
theorem laidOut : laidOutB Tryd.prog = true := by kernel_rfl

theorem gPow : Tryd.prog.globalNamed "internal/strconv.uint64pow10" = some 0 := by kernel_rfl
theorem tPow : (Tryd.prog.globals[0]?).map (·.type) = some 119 := by kernel_rfl
theorem dPow : (Rows.laid_internal_strconv_uint64pow10 : DataW Unit) = Lib.tabData .u64 Lib.pow10Tab := by kernel_rfl
theorem tab_of {W : World} (h : laidMetH Tryd.prog [("math/bits.deBruijn32tab", Rows.laid_math_bits_deBruijn32tab), ("math/bits.deBruijn64tab", Rows.laid_math_bits_deBruijn64tab), ("internal/strconv.uint64pow10", Rows.laid_internal_strconv_uint64pow10)] W) : Tab W := by
  rw [MakeChecks.laidMetH_plain _ _ _ (by kernel_rfl)] at h
  obtain ⟨ps, ⟨g0, t0, cs0, f0, p0, q0, _, _, _, _, ⟨g1, t1, cs1, f1, p1, q1, _, _, _, _, ⟨g2, t2, cs2, f2, p2, q2, hg2, ht2, hv2, hd2, _, _⟩, _⟩, _⟩, _⟩ := h
  obtain rfl := Option.some.inj (gPow.symm.trans hg2)
  obtain rfl := Option.some.inj (tPow.symm.trans ht2)
  unfold Tab Lib.TabIs
  rw [dPow] at hd2
  rw [hv2, ← Lib.cells_of_tab Tryd.underlying119 Tryd.underlying107 (by kernel_rfl) (by kernel_rfl) hd2]

/-- Arguments of these types read on as they read, where nothing that lay has turned. -/
theorem trodAll_below' {H : Type} {enc : TypeId × Value → H} {P : Program} (hl : laidOutB P = true) {W W' : World} (hb : Below W.heap.size W W') : ∀ {ts : List TypeId} {vs : List Value} {ds : List (DataW H)} {ps : List MemPlace},
    (ts.all fun t => P.readableRec t && decide (t < P.types.size)) = true → DataW.TrodAll enc P W 0 (fun _ => true) true ts vs ds ps → (∀ x ∈ ps, x.block < W.heap.size) →
    DataW.TrodAll enc P W' 0 (fun b => decide (b < W.heap.size)) true ts vs ds ps
  | [], _, _, _, _, h, _ => by
    obtain ⟨rfl, rfl, rfl⟩ := trodAll_nil h
    exact trodAll_mk0
  | t :: ts, vs, ds, ps, ht, h, hlt => by
    obtain ⟨v, vs', d, ds', p, q, rfl, rfl, rfl, hd, hrest⟩ := trodAll_cons h
    simp only [List.all_cons, Bool.and_eq_true, decide_eq_true_eq] at ht
    exact ⟨p, q, Below.trod hl ht.1.1 ht.1.2 hd hb (fun x hx => hlt x (by simp [hx])), trodAll_below' hl hb (by simpa using ht.2) hrest (fun x hx => hlt x (by simp [hx])), rfl⟩
theorem trodAll_below {H : Type} {enc : TypeId × Value → H} {W W' : World} (hb : Below W.heap.size W W') {ts : List TypeId} {vs : List Value} {ds : List (DataW H)} {ps : List MemPlace}
    (ht : (ts.all fun t => Tryd.prog.readableRec t && decide (t < Tryd.prog.types.size)) = true) (h : DataW.TrodAll enc Tryd.prog W 0 (fun _ => true) true ts vs ds ps) (hlt : ∀ x ∈ ps, x.block < W.heap.size) :
    DataW.TrodAll enc Tryd.prog W' 0 (fun b => decide (b < W.heap.size)) true ts vs ds ps := trodAll_below' laidOut hb ht h hlt
theorem open_u8 {H : Type} {enc : TypeId × Value → H} {W : World} {v : Value} {d : DataW H} {ps : List MemPlace} {base : Nat} (hv : Value.okWide Tryd.prog W .any base 5 v) (h : DataW.Trod enc Tryd.prog W 0 (fun _ => true) true 5 v d ps) :
    ∃ y : Nat, v = .int .u8 (y : Int) ∧ y < 256 := by
  obtain ⟨x, rfl, _, _, wx⟩ := open_int Tryd.underlying5 hv h
  have hw : 0 ≤ x ∧ x < 256 := by
    simp [Lit.wf, IntKind.min, IntKind.max, IntKind.bits, IntKind.signed] at wx
    omega
  exact ⟨x.toNat, by rw [Int.toNat_of_nonneg hw.1], by omega⟩
section
variable {H : Type} {enc : TypeId × Value → H} {W : World}
theorem add_off (b o j : Nat) : (⟨b, o, none⟩ : Addr).add j = ⟨b, o + j, none⟩ := by unfold Addr.add; split <;> simp_all
/-- A cell that reads as a slice, whose elements are opened by each. -/
theorem slice_open {t e k : Nat} {α : Type} [Inhabited α] (P : α → Nat → Nat → Prop) (ht : Tryd.prog.underlying t = some (.slice e)) (hk : Tryd.prog.cellsOf e = k)
    (each : ∀ (n : Nat) (a : Addr) (cs : List Value) (x : DataW H × List MemPlace), W.cells? 0 a k = some cs → DataW.trod enc Tryd.prog W 0 (fun _ => true) true n e cs = some x → ∃ (y : α) (b o : Nat), a = ⟨b, o, none⟩ ∧ P y b o)
    {n : Nat} {v : Value} {x : DataW H × List MemPlace} (h : DataW.trod enc Tryd.prog W 0 (fun _ => true) true n t [v] = some x) :
    ∃ (l : List α) (a : Option Addr) (c : Nat), v = .slice a l.length c ∧ l.length ≤ c ∧ (l.length : Int) ≤ 9223372036854775807 ∧ ∀ (j : Nat) (y : α), l[j]? = some y → ∃ b o, a = some ⟨b, o, none⟩ ∧ P y b (o + j * k) := by
  rcases open_slice ht h with ⟨hcs, _⟩ | ⟨a, len, cap, m, n', D, Pl, hcs, _, hl, hm, hmm, _, hx⟩
  · injection hcs with hcs _
    subst hcs
    exact ⟨[], none, 0, rfl, Nat.le_refl _, by simp, fun j y hj => by simp at hj⟩
  · injection hcs with hcs _
    subst hcs
    simp only [if_true] at hmm
    subst hmm
    have h1 : ∀ i, i < len → ∃ y : α, ∃ b o, a.add (i * k) = ⟨b, o, none⟩ ∧ P y b o := by
      intro i hi
      obtain ⟨cs', hc, ht'⟩ := hx i (by omega)
      rw [hk] at hc
      exact each _ _ _ _ hc ht'
    obtain ⟨f, hf⟩ := choose_lt h1
    have hlen : ((List.range len).map f).length = len := by simp
    refine ⟨(List.range len).map f, some a, m, by rw [hlen], by rw [hlen]; exact hl, by rw [hlen]; unfold maxLen at hm; omega, fun j y hj => ?_⟩
    have hjl : j < len := by have := (List.getElem?_eq_some_iff.1 hj).1; rwa [hlen] at this
    rw [List.getElem?_map, List.getElem?_range hjl] at hj
    simp only [Option.map_some, Option.some.injEq] at hj
    subst hj
    obtain ⟨b0, o0, e0, _⟩ := hf 0 (by omega)
    rw [Nat.zero_mul, show a.add 0 = a from rfl] at e0
    subst e0
    obtain ⟨b, o, e, hp⟩ := hf j hjl
    rw [add_off] at e
    simp only [Addr.mk.injEq, and_true] at e
    obtain ⟨rfl, rfl⟩ := e
    exact ⟨b0, o0, rfl, hp⟩
theorem trod_u8 {n : Nat} {v : Value} {y : DataW H × List MemPlace} (h : DataW.trod enc Tryd.prog W 0 (fun _ => true) true n 5 [v] = some y) : ∃ z : Nat, v = .int .u8 (z : Int) ∧ z < 256 := by
  obtain ⟨z, e0, _, wx⟩ := DataW.trod_int Tryd.underlying5 h
  injection e0 with e0 _
  subst e0
  have hw : 0 ≤ z ∧ z < 256 := by
    simp [Lit.wf, IntKind.min, IntKind.max, IntKind.bits, IntKind.signed] at wx
    omega
  exact ⟨z.toNat, by rw [Int.toNat_of_nonneg hw.1], by omega⟩
/-- A cell of a structure's row, alone. -/
theorem one_of {t : TypeId} {n i : Nat} {cs : List Value} {v : Value} {y : DataW H × List MemPlace} (hk : Tryd.prog.cellsOf t = 1) (h : DataW.trod enc Tryd.prog W 0 (fun _ => true) true n t ((cs.drop i).take (Tryd.prog.cellsOf t)) = some y) (hc : (cs.drop i).take 1 = [v]) :
    DataW.trod enc Tryd.prog W 0 (fun _ => true) true n t [v] = some y := by
  rw [hk, hc] at h
  exact h
theorem addr_plain {a : Addr} {w : World} {v : Value} {j : Nat} (h : w.cell? (a.add j) = some v) (hj : j = 0) : ∃ b o, a = ⟨b, o, none⟩ := by
  subst hj
  obtain ⟨b, o, spot⟩ := a
  have hspot : spot = none := by simpa [Addr.add] using World.cell?_spot h
  subst hspot
  exact ⟨b, o, rfl⟩
/-- Three cells that read as a structure of three fields of one cell. -/
theorem three_at {t0 t1 t2 : TypeId} {n : Nat} {a : Addr} {cs : List Value} {k : TypeId} {f0 f1 f2 : Field} {x : DataW H × List MemPlace} (hu : Tryd.prog.underlying k = some (.struct #[f0, f1, f2])) (o0 : f0.offset = 0 ∧ f0.type = t0) (o1 : f1.offset = 1 ∧ f1.type = t1) (o2 : f2.offset = 2 ∧ f2.type = t2)
    (k0 : Tryd.prog.cellsOf t0 = 1) (k1 : Tryd.prog.cellsOf t1 = 1) (k2 : Tryd.prog.cellsOf t2 = 1) (hc : W.cells? 0 a 3 = some cs) (h : DataW.trod enc Tryd.prog W 0 (fun _ => true) true n k cs = some x) :
    ∃ (b o : Nat) (v0 v1 v2 : Value) (m : Nat) (y0 y1 y2 : DataW H × List MemPlace), a = ⟨b, o, none⟩ ∧ W.cell? ⟨b, o, none⟩ = some v0 ∧ W.cell? ⟨b, o + 1, none⟩ = some v1 ∧ W.cell? ⟨b, o + 2, none⟩ = some v2 ∧
      DataW.trod enc Tryd.prog W 0 (fun _ => true) true m t0 [v0] = some y0 ∧ DataW.trod enc Tryd.prog W 0 (fun _ => true) true m t1 [v1] = some y1 ∧ DataW.trod enc Tryd.prog W 0 (fun _ => true) true m t2 [v2] = some y2 := by
  obtain ⟨_, hlen, hat⟩ := World.cells?_some hc
  match cs, hlen with
  | [c0, c1, c2], _ =>
    have a0 := hat 0 (by omega)
    obtain ⟨b, o, rfl⟩ := addr_plain a0 rfl
    have a1 := hat 1 (by omega)
    have a2 := hat 2 (by omega)
    obtain ⟨xs, m, _, _, _, hl, hf⟩ := DataW.trod_struct hu h
    match xs, hl, hf with
    | [y0, y1, y2], _, hf =>
      have f0 := hf 0 _ rfl
      have f1 := hf 1 _ rfl
      have f2 := hf 2 _ rfl
      exact ⟨b, o, c0, c1, c2, m, y0, y1, y2, rfl, by simpa [Addr.add] using a0, by simpa [Addr.add] using a1, by simpa [Addr.add] using a2, by simpa [o0.1, o0.2, k0] using f0, by simpa [o1.1, o1.2, k1] using f1, by simpa [o2.1, o2.2, k2] using f2⟩
theorem c5 : Tryd.prog.cellsOf 5 = 1 := by kernel_rfl
theorem c3 : Tryd.prog.cellsOf 3 = 1 := by kernel_rfl
theorem stps_open {n : Nat} {v : Value} {x : DataW H × List MemPlace} (h : DataW.trod enc Tryd.prog W 0 (fun _ => true) true n 22 [v] = some x) :
    ∃ (l : List Stp) (a : Option Addr) (c : Nat), v = .slice a l.length c ∧ StpsW W a c l ∧ (∀ s ∈ l, StpOk s) ∧ (l.length : Int) ≤ 9223372036854775807 := by
  obtain ⟨l, a, c, e, hc, hm, hl⟩ := slice_open (α := Stp) (k := 3) (fun s b o => StpOk s ∧ StpAt W b o s) Tryd.underlying22 (by kernel_rfl) (fun n a cs x hc h => by
    obtain ⟨b, o, v0, v1, v2, m, y0, y1, y2, rfl, q0, q1, q2, h0, h1, h2⟩ := three_at (t0 := 5) (t1 := 5) (t2 := 5) Tryd.underlying56 ⟨rfl, rfl⟩ ⟨rfl, rfl⟩ ⟨rfl, rfl⟩ c5 c5 c5 hc h
    obtain ⟨z0, rfl, w0⟩ := trod_u8 h0
    obtain ⟨z1, rfl, w1⟩ := trod_u8 h1
    obtain ⟨z2, rfl, w2⟩ := trod_u8 h2
    exact ⟨(z0, z1, z2), b, o, rfl, ⟨w0, w1, w2⟩, ⟨q0, q1, q2⟩⟩) h
  refine ⟨l, a, c, e, ⟨hc, ?_⟩, fun s hs => ?_, hm⟩
  · cases l with
    | nil => exact .inl rfl
    | cons z l =>
      obtain ⟨b, o, rfl, _⟩ := hl 0 z rfl
      refine .inr ⟨b, o, rfl, fun j y hj => ?_⟩
      obtain ⟨b', o', e', _, hc'⟩ := hl j y hj
      cases e'
      exact hc'
  · obtain ⟨j, hj⟩ := List.mem_iff_getElem?.1 hs
    obtain ⟨_, _, _, h1, _⟩ := hl j s hj
    exact h1
theorem bools_open {n : Nat} {v : Value} {x : DataW H × List MemPlace} (h : DataW.trod enc Tryd.prog W 0 (fun _ => true) true n 23 [v] = some x) :
    ∃ (l : List Bool) (a : Option Addr) (c : Nat), v = .slice a l.length c ∧ BoolsW W a c l ∧ (l.length : Int) ≤ 9223372036854775807 := by
  obtain ⟨l, a, c, e, hc, hm, hl⟩ := slice_open (α := Bool) (k := 1) (fun z b o => W.cell? ⟨b, o, none⟩ = some (.bool z)) Tryd.underlying23 (by kernel_rfl) (fun n a cs x hc h => by
    obtain ⟨_, hlen, hat⟩ := World.cells?_some hc
    match cs, hlen with
    | [c0], _ =>
      obtain ⟨z, e0, _⟩ := DataW.trod_bool Tryd.underlying4 h
      injection e0 with e0 _
      subst e0
      have a0 := hat 0 (by omega)
      obtain ⟨b, o, rfl⟩ := addr_plain a0 rfl
      exact ⟨z, b, o, rfl, by simpa [Addr.add] using a0⟩) h
  refine ⟨l, a, c, e, ⟨hc, ?_⟩, hm⟩
  cases l with
  | nil => exact .inl rfl
  | cons z l =>
    obtain ⟨b, o, rfl, _⟩ := hl 0 z rfl
    refine .inr ⟨b, o, rfl, fun j y hj => ?_⟩
    obtain ⟨b', o', e', hc'⟩ := hl j y hj
    cases e'
    rw [Nat.mul_one] at hc'
    exact hc'
theorem open_stps {v : Value} {d : DataW H} {ps : List MemPlace} {base : Nat} (hv : Value.okWide Tryd.prog W .any base 22 v) (h : DataW.Trod enc Tryd.prog W 0 (fun _ => true) true 22 v d ps) :
    ∃ (l : List Stp) (a : Option Addr) (c : Nat), v = .slice a l.length c ∧ StpsW W a c l ∧ (∀ s ∈ l, StpOk s) ∧ (l.length : Int) ≤ 9223372036854775807 := by
  obtain ⟨ra, rn, rc, rfl⟩ := okWide_slice Tryd.underlying22 hv
  obtain ⟨fuel, hf⟩ := h
  exact stps_open hf
theorem open_bools {v : Value} {d : DataW H} {ps : List MemPlace} {base : Nat} (hv : Value.okWide Tryd.prog W .any base 23 v) (h : DataW.Trod enc Tryd.prog W 0 (fun _ => true) true 23 v d ps) :
    ∃ (l : List Bool) (a : Option Addr) (c : Nat), v = .slice a l.length c ∧ BoolsW W a c l ∧ (l.length : Int) ≤ 9223372036854775807 := by
  obtain ⟨ra, rn, rc, rfl⟩ := okWide_slice Tryd.underlying23 hv
  obtain ⟨fuel, hf⟩ := h
  exact bools_open hf
end
end Go.Proofs.YthkjjiijjedipaaDoor
