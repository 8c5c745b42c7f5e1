/- What comes in, opened. -/
import Derived.Test.YthagoihpppppkaaRows
import Derived.Test.YthagoihpppppkaaT1
import Derived.ProofKit
import Derived.OpenShut
import Derived.Stop.Joined
import Derived.SevenTiedAt
import Derived.Deep.Slices
import Derived.Deep.Strs
import Derived.ChangeSame
import Derived.Lib.SmallJoins
namespace Go.Proofs.Ythagoihpppppkaa
open Go.ChangeShapes Go.WideShapes Go.ChangeAt Go.WideMaps Go.WideElems Go.RowKit Go.Deep Go.Joins

theorem own : ownKnob Try.prog.godebug = none := by kernel_rfl
theorem below_of {w w' : World} (h : w.grownBy w' none) : Below w.heap.size w w' := ⟨h.os, h.tape, h.output, h.size, fun k hk => h.block k hk (by simp)⟩
theorem laidOut : laidOutB Try.prog = true := by kernel_rfl
/-- Arguments of these types read on as they read, where nothing that lay has turned. -/
theorem trodAll_below' {H : Type} {enc : TypeId × Value → H} {P : Program} (hl : laidOutB P = true) {W W' : World} (hb : Below W.heap.size W W') : ∀ {ts : List TypeId} {vs : List Value} {ds : List (DataW H)} {ps : List MemPlace},
    (ts.all fun t => P.readableRec t && decide (t < P.types.size)) = true → DataW.TrodAll enc P W 0 (fun _ => true) true ts vs ds ps → (∀ x ∈ ps, x.block < W.heap.size) →
    DataW.TrodAll enc P W' 0 (fun b => decide (b < W.heap.size)) true ts vs ds ps
  | [], _, _, _, _, h, _ => by
    obtain ⟨rfl, rfl, rfl⟩ := trodAll_nil h
    exact trodAll_mk0
  | t :: ts, vs, ds, ps, ht, h, hlt => by
    obtain ⟨v, vs', d, ds', p, q, rfl, rfl, rfl, hd, hrest⟩ := trodAll_cons h
    simp only [List.all_cons, Bool.and_eq_true, decide_eq_true_eq] at ht
    exact ⟨p, q, Below.trod hl ht.1.1 ht.1.2 hd hb (fun x hx => hlt x (by simp [hx])), trodAll_below' hl hb (by simpa using ht.2) hrest (fun x hx => hlt x (by simp [hx])), rfl⟩
theorem trodAll_below {H : Type} {enc : TypeId × Value → H} {W W' : World} (hb : Below W.heap.size W W') {ts : List TypeId} {vs : List Value} {ds : List (DataW H)} {ps : List MemPlace}
    (ht : (ts.all fun t => Try.prog.readableRec t && decide (t < Try.prog.types.size)) = true) (h : DataW.TrodAll enc Try.prog W 0 (fun _ => true) true ts vs ds ps) (hlt : ∀ x ∈ ps, x.block < W.heap.size) :
    DataW.TrodAll enc Try.prog W' 0 (fun b => decide (b < W.heap.size)) true ts vs ds ps := trodAll_below' laidOut hb ht h hlt

set_option maxRecDepth 100000
section
variable {H : Type} {enc : TypeId × Value → H} {W : World}
theorem add_off (b o j : Nat) : (⟨b, o, none⟩ : Addr).add j = ⟨b, o + j, none⟩ := by unfold Addr.add; split <;> simp_all
/-- A cell that reads as a slice, whose elements are opened by each. -/
theorem slice_open {t e k : Nat} {α : Type} [Inhabited α] (P : α → Nat → Nat → Prop) (ht : Try.prog.underlying t = some (.slice e)) (hk : Try.prog.cellsOf e = k)
    (each : ∀ (n : Nat) (a : Addr) (cs : List Value) (x : DataW H × List MemPlace), W.cells? 0 a k = some cs → DataW.trod enc Try.prog W 0 (fun _ => true) true n e cs = some x → ∃ (y : α) (b o : Nat), a = ⟨b, o, none⟩ ∧ P y b o)
    {n : Nat} {v : Value} {x : DataW H × List MemPlace} (h : DataW.trod enc Try.prog W 0 (fun _ => true) true n t [v] = some x) :
    ∃ (l : List α) (a : Option Addr) (c : Nat), v = .slice a l.length c ∧ l.length ≤ c ∧ (l.length : Int) ≤ 9223372036854775807 ∧ ∀ (j : Nat) (y : α), l[j]? = some y → ∃ b o, a = some ⟨b, o, none⟩ ∧ P y b (o + j * k) := by
  rcases open_slice ht h with ⟨hcs, _⟩ | ⟨a, len, cap, m, n', D, Pl, hcs, _, hl, hm, hmm, _, hx⟩
  · injection hcs with hcs _
    subst hcs
    exact ⟨[], none, 0, rfl, Nat.le_refl _, by simp, fun j y hj => by simp at hj⟩
  · injection hcs with hcs _
    subst hcs
    simp only [if_true] at hmm
    subst hmm
    have h1 : ∀ i, i < len → ∃ y : α, ∃ b o, a.add (i * k) = ⟨b, o, none⟩ ∧ P y b o := by
      intro i hi
      obtain ⟨cs', hc, ht'⟩ := hx i (by omega)
      rw [hk] at hc
      exact each _ _ _ _ hc ht'
    obtain ⟨f, hf⟩ := choose_lt h1
    have hlen : ((List.range len).map f).length = len := by simp
    refine ⟨(List.range len).map f, some a, m, by rw [hlen], by rw [hlen]; exact hl, by rw [hlen]; unfold maxLen at hm; omega, fun j y hj => ?_⟩
    have hjl : j < len := by have := (List.getElem?_eq_some_iff.1 hj).1; rwa [hlen] at this
    rw [List.getElem?_map, List.getElem?_range hjl] at hj
    simp only [Option.map_some, Option.some.injEq] at hj
    subst hj
    obtain ⟨b0, o0, e0, _⟩ := hf 0 (by omega)
    rw [Nat.zero_mul, show a.add 0 = a from rfl] at e0
    subst e0
    obtain ⟨b, o, e, hp⟩ := hf j hjl
    rw [add_off] at e
    simp only [Addr.mk.injEq, and_true] at e
    obtain ⟨rfl, rfl⟩ := e
    exact ⟨b0, o0, rfl, hp⟩
theorem trod_u8 {n : Nat} {v : Value} {y : DataW H × List MemPlace} (h : DataW.trod enc Try.prog W 0 (fun _ => true) true n 5 [v] = some y) : ∃ z : Nat, v = .int .u8 (z : Int) ∧ z < 256 := by
  obtain ⟨z, e0, _, wx⟩ := DataW.trod_int Try.underlying5 h
  injection e0 with e0 _
  subst e0
  have hw : 0 ≤ z ∧ z < 256 := by
    simp [Lit.wf, IntKind.min, IntKind.max, IntKind.bits, IntKind.signed] at wx
    omega
  exact ⟨z.toNat, by rw [Int.toNat_of_nonneg hw.1], by omega⟩
/-- A cell of a structure's row, alone. -/
theorem one_of {t : TypeId} {n i : Nat} {cs : List Value} {v : Value} {y : DataW H × List MemPlace} (hk : Try.prog.cellsOf t = 1) (h : DataW.trod enc Try.prog W 0 (fun _ => true) true n t ((cs.drop i).take (Try.prog.cellsOf t)) = some y) (hc : (cs.drop i).take 1 = [v]) :
    DataW.trod enc Try.prog W 0 (fun _ => true) true n t [v] = some y := by
  rw [hk, hc] at h
  exact h
theorem addr_plain {a : Addr} {w : World} {v : Value} {j : Nat} (h : w.cell? (a.add j) = some v) (hj : j = 0) : ∃ b o, a = ⟨b, o, none⟩ := by
  subst hj
  obtain ⟨b, o, spot⟩ := a
  have hspot : spot = none := by simpa [Addr.add] using World.cell?_spot h
  subst hspot
  exact ⟨b, o, rfl⟩
/-- Three cells that read as a structure of three fields of one cell. -/
theorem three_at {t0 t1 t2 : TypeId} {n : Nat} {a : Addr} {cs : List Value} {k : TypeId} {f0 f1 f2 : Field} {x : DataW H × List MemPlace} (hu : Try.prog.underlying k = some (.struct #[f0, f1, f2])) (o0 : f0.offset = 0 ∧ f0.type = t0) (o1 : f1.offset = 1 ∧ f1.type = t1) (o2 : f2.offset = 2 ∧ f2.type = t2)
    (k0 : Try.prog.cellsOf t0 = 1) (k1 : Try.prog.cellsOf t1 = 1) (k2 : Try.prog.cellsOf t2 = 1) (hc : W.cells? 0 a 3 = some cs) (h : DataW.trod enc Try.prog W 0 (fun _ => true) true n k cs = some x) :
    ∃ (b o : Nat) (v0 v1 v2 : Value) (m : Nat) (y0 y1 y2 : DataW H × List MemPlace), a = ⟨b, o, none⟩ ∧ W.cell? ⟨b, o, none⟩ = some v0 ∧ W.cell? ⟨b, o + 1, none⟩ = some v1 ∧ W.cell? ⟨b, o + 2, none⟩ = some v2 ∧
      DataW.trod enc Try.prog W 0 (fun _ => true) true m t0 [v0] = some y0 ∧ DataW.trod enc Try.prog W 0 (fun _ => true) true m t1 [v1] = some y1 ∧ DataW.trod enc Try.prog W 0 (fun _ => true) true m t2 [v2] = some y2 := by
  obtain ⟨_, hlen, hat⟩ := World.cells?_some hc
  match cs, hlen with
  | [c0, c1, c2], _ =>
    have a0 := hat 0 (by omega)
    obtain ⟨b, o, rfl⟩ := addr_plain a0 rfl
    have a1 := hat 1 (by omega)
    have a2 := hat 2 (by omega)
    obtain ⟨xs, m, _, _, _, hl, hf⟩ := DataW.trod_struct hu h
    match xs, hl, hf with
    | [y0, y1, y2], _, hf =>
      have f0 := hf 0 _ rfl
      have f1 := hf 1 _ rfl
      have f2 := hf 2 _ rfl
      exact ⟨b, o, c0, c1, c2, m, y0, y1, y2, rfl, by simpa [Addr.add] using a0, by simpa [Addr.add] using a1, by simpa [Addr.add] using a2, by simpa [o0.1, o0.2, k0] using f0, by simpa [o1.1, o1.2, k1] using f1, by simpa [o2.1, o2.2, k2] using f2⟩
theorem c5 : Try.prog.cellsOf 5 = 1 := by kernel_rfl
theorem c3 : Try.prog.cellsOf 3 = 1 := by kernel_rfl
theorem stps_open {n : Nat} {v : Value} {x : DataW H × List MemPlace} (h : DataW.trod enc Try.prog W 0 (fun _ => true) true n 22 [v] = some x) :
    ∃ (l : List Stp) (a : Option Addr) (c : Nat), v = .slice a l.length c ∧ StpsW W a c l ∧ (∀ s ∈ l, StpOk s) ∧ (l.length : Int) ≤ 9223372036854775807 := by
  obtain ⟨l, a, c, e, hc, hm, hl⟩ := slice_open (α := Stp) (k := 3) (fun s b o => StpOk s ∧ StpAt W b o s) Try.underlying22 (by kernel_rfl) (fun n a cs x hc h => by
    obtain ⟨b, o, v0, v1, v2, m, y0, y1, y2, rfl, q0, q1, q2, h0, h1, h2⟩ := three_at (t0 := 5) (t1 := 5) (t2 := 5) Try.underlying76 ⟨rfl, rfl⟩ ⟨rfl, rfl⟩ ⟨rfl, rfl⟩ c5 c5 c5 hc h
    obtain ⟨z0, rfl, w0⟩ := trod_u8 h0
    obtain ⟨z1, rfl, w1⟩ := trod_u8 h1
    obtain ⟨z2, rfl, w2⟩ := trod_u8 h2
    exact ⟨(z0, z1, z2), b, o, rfl, ⟨w0, w1, w2⟩, ⟨q0, q1, q2⟩⟩) h
  refine ⟨l, a, c, e, ⟨hc, ?_⟩, fun s hs => ?_, hm⟩
  · cases l with
    | nil => exact .inl rfl
    | cons z l =>
      obtain ⟨b, o, rfl, _⟩ := hl 0 z rfl
      refine .inr ⟨b, o, rfl, fun j y hj => ?_⟩
      obtain ⟨b', o', e', _, hc'⟩ := hl j y hj
      cases e'
      exact hc'
  · obtain ⟨j, hj⟩ := List.mem_iff_getElem?.1 hs
    obtain ⟨_, _, _, h1, _⟩ := hl j s hj
    exact h1
theorem bools_open {n : Nat} {v : Value} {x : DataW H × List MemPlace} (h : DataW.trod enc Try.prog W 0 (fun _ => true) true n 24 [v] = some x) :
    ∃ (l : List Bool) (a : Option Addr) (c : Nat), v = .slice a l.length c ∧ BoolsW W a c l ∧ (l.length : Int) ≤ 9223372036854775807 := by
  obtain ⟨l, a, c, e, hc, hm, hl⟩ := slice_open (α := Bool) (k := 1) (fun z b o => W.cell? ⟨b, o, none⟩ = some (.bool z)) Try.underlying24 (by kernel_rfl) (fun n a cs x hc h => by
    obtain ⟨_, hlen, hat⟩ := World.cells?_some hc
    match cs, hlen with
    | [c0], _ =>
      obtain ⟨z, e0, _⟩ := DataW.trod_bool Try.underlying4 h
      injection e0 with e0 _
      subst e0
      have a0 := hat 0 (by omega)
      obtain ⟨b, o, rfl⟩ := addr_plain a0 rfl
      exact ⟨z, b, o, rfl, by simpa [Addr.add] using a0⟩) h
  refine ⟨l, a, c, e, ⟨hc, ?_⟩, hm⟩
  cases l with
  | nil => exact .inl rfl
  | cons z l =>
    obtain ⟨b, o, rfl, _⟩ := hl 0 z rfl
    refine .inr ⟨b, o, rfl, fun j y hj => ?_⟩
    obtain ⟨b', o', e', hc'⟩ := hl j y hj
    cases e'
    rw [Nat.mul_one] at hc'
    exact hc'
theorem open_u8 {v : Value} {d : DataW H} {ps : List MemPlace} {base : Nat} (hv : Value.okWide Try.prog W .any base 5 v) (h : DataW.Trod enc Try.prog W 0 (fun _ => true) true 5 v d ps) : ∃ z : Nat, v = .int .u8 (z : Int) ∧ z < 256 := by
  obtain ⟨x, rfl, _, _, wx⟩ := open_int Try.underlying5 hv h
  have hw : 0 ≤ x ∧ x < 256 := by
    simp [Lit.wf, IntKind.min, IntKind.max, IntKind.bits, IntKind.signed] at wx
    omega
  exact ⟨x.toNat, by rw [Int.toNat_of_nonneg hw.1], by omega⟩
theorem open_i64 {v : Value} {d : DataW H} {ps : List MemPlace} {base : Nat} (hv : Value.okWide Try.prog W .any base 3 v) (h : DataW.Trod enc Try.prog W 0 (fun _ => true) true 3 v d ps) : ∃ z : Int, v = .int .i64 z ∧ -9223372036854775808 ≤ z ∧ z ≤ 9223372036854775807 := by
  obtain ⟨x, rfl, _, _, wx⟩ := open_int Try.underlying3 hv h
  refine ⟨x, rfl, ?_⟩
  simp [Lit.wf, IntKind.min, IntKind.max, IntKind.bits, IntKind.signed] at wx
  omega
theorem u8s_open {n : Nat} {v : Value} {x : DataW H × List MemPlace} (h : DataW.trod enc Try.prog W 0 (fun _ => true) true n 23 [v] = some x) :
    ∃ (zs : List Nat) (ra : Option Addr) (rc : Nat), v = .slice ra zs.length rc ∧ U8sW W ra rc zs ∧ (∀ z ∈ zs, z < 256) ∧ (zs.length : Int) ≤ 9223372036854775807 := by
  obtain ⟨l, a, c, e, hc, hm, hl⟩ := slice_open (α := Nat) (k := 1) (fun z b o => z < 256 ∧ W.cell? ⟨b, o, none⟩ = some (.int .u8 (z : Int))) Try.underlying23 (by kernel_rfl) (fun n a cs x hc h => by
    obtain ⟨_, hlen, hat⟩ := World.cells?_some hc
    match cs, hlen with
    | [c0], _ =>
      obtain ⟨z, e0, _, wx⟩ := DataW.trod_int Try.underlying5 h
      injection e0 with e0 _
      subst e0
      have hw : 0 ≤ z ∧ z < 256 := by
        simp [Lit.wf, IntKind.min, IntKind.max, IntKind.bits, IntKind.signed] at wx
        omega
      have a0 := hat 0 (by omega)
      obtain ⟨b, o, spot⟩ := a
      have hspot : spot = none := by simpa [Addr.add] using World.cell?_spot a0
      subst hspot
      exact ⟨z.toNat, b, o, rfl, by omega, by rw [Int.toNat_of_nonneg hw.1]; simpa [Addr.add] using a0⟩) h
  refine ⟨l, a, c, e, ⟨hc, ?_⟩, fun z hz => ?_, hm⟩
  · cases l with
    | nil => exact .inl rfl
    | cons z l =>
      obtain ⟨b, o, rfl, _⟩ := hl 0 z rfl
      refine .inr ⟨b, o, rfl, fun j y hj => ?_⟩
      obtain ⟨b', o', e', h1, hc'⟩ := hl j y hj
      cases e'
      rw [Nat.mul_one] at hc'
      exact hc'
  · obtain ⟨j, hj⟩ := List.mem_iff_getElem?.1 hz
    obtain ⟨_, _, _, h1, _⟩ := hl j z hj
    exact h1
theorem array5 {α : Type} {cs : Array α} (h : cs.size = 5) : ∃ c0 c1 c2 c3 c4, cs = #[c0, c1, c2, c3, c4] := by
  obtain ⟨l⟩ := cs
  match l, h with
  | [c0, c1, c2, c3, c4], _ => exact ⟨c0, c1, c2, c3, c4, rfl⟩
theorem trod_i8 {n : Nat} {v : Value} {y : DataW H × List MemPlace} (h : DataW.trod enc Try.prog W 0 (fun _ => true) true n 25 [v] = some y) : ∃ z : Int, v = .int .i8 z ∧ -128 ≤ z ∧ z ≤ 127 := by
  obtain ⟨z, e0, _, wx⟩ := DataW.trod_int Try.underlying25 h
  injection e0 with e0 _
  subst e0
  refine ⟨z, rfl, ?_⟩
  simp [Lit.wf, IntKind.min, IntKind.max, IntKind.bits, IntKind.signed] at wx
  omega
/-- The argument of a law. -/
theorem open_raw {v : Value} {d : DataW H} {ps : List MemPlace} {base : Nat} (hv : Value.okWide Try.prog W .any base 27 v) (h : DataW.Trod enc Try.prog W 0 (fun _ => true) true 27 v d ps) :
    ∃ (l : List Stp) (A B : List Nat) (vals : List Bool) (y : Int) (sa : Option Addr) (sc : Nat) (aa : Option Addr) (ac : Nat) (ba : Option Addr) (bc : Nat) (va : Option Addr) (vc : Nat), v = .agg #[.slice sa l.length sc, .slice aa A.length ac, .slice ba B.length bc, .slice va vals.length vc, .int .i8 y] ∧ RawIn W l A B vals y sa sc aa ac ba bc va vc := by
  obtain ⟨cs, rfl, hsz⟩ := okWide_struct Try.underlying27 hv
  have k27 : Try.prog.cellsOf 27 = 5 := by kernel_rfl
  have k22 : Try.prog.cellsOf 22 = 1 := by kernel_rfl
  have k23 : Try.prog.cellsOf 23 = 1 := by kernel_rfl
  have k24 : Try.prog.cellsOf 24 = 1 := by kernel_rfl
  have k25 : Try.prog.cellsOf 25 = 1 := by kernel_rfl
  obtain ⟨c0, c1, c2, c3, c4, rfl⟩ := array5 (hsz.trans k27)
  obtain ⟨fuel, hf0⟩ := h
  obtain ⟨xs, n, _, _, _, hlen, hf⟩ := DataW.trod_struct Try.underlying27 hf0
  match xs, hlen, hf with
  | [y0, y1, y2, y3, y4], _, hf =>
    have f0 := hf 0 _ rfl
    have f1 := hf 1 _ rfl
    have f2 := hf 2 _ rfl
    have f3 := hf 3 _ rfl
    have f4 := hf 4 _ rfl
    obtain ⟨l, sa, sc, rfl, hs, ho, _⟩ := stps_open (one_of (v := c0) k22 f0 rfl)
    obtain ⟨A, aa, ac, rfl, hA, hA2, _⟩ := u8s_open (one_of (v := c1) k23 f1 rfl)
    obtain ⟨B, ba, bc, rfl, hB, hB2, _⟩ := u8s_open (one_of (v := c2) k23 f2 rfl)
    obtain ⟨vals, va, vc, rfl, hV, _⟩ := bools_open (one_of (v := c3) k24 f3 rfl)
    obtain ⟨y, rfl, hy⟩ := trod_i8 (one_of (v := c4) k25 f4 rfl)
    exact ⟨l, A, B, vals, y, sa, sc, aa, ac, ba, bc, va, vc, rfl, hs, hA, hB, hV, ho, hA2, hB2, hy⟩
theorem open_i8 {v : Value} {d : DataW H} {ps : List MemPlace} {base : Nat} (hv : Value.okWide Try.prog W .any base 25 v) (h : DataW.Trod enc Try.prog W 0 (fun _ => true) true 25 v d ps) : ∃ z : Int, v = .int .i8 z ∧ -128 ≤ z ∧ z ≤ 127 := by
  obtain ⟨x, rfl, _, _, wx⟩ := open_int Try.underlying25 hv h
  refine ⟨x, rfl, ?_⟩
  simp [Lit.wf, IntKind.min, IntKind.max, IntKind.bits, IntKind.signed] at wx
  omega
end
end Go.Proofs.Ythagoihpppppkaa
