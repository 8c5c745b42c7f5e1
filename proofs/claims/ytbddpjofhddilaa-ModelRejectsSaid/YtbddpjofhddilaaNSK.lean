/- From a law's walk to its row: what all rows of the seat share; arguments that came in. -/
import Derived.Test.YtbddpjofhddilaaRows
import Derived.Test.YtbddpjofhddilaaNSA
import Derived.ProofKit
import Derived.OpenShut
import Derived.Stop.Joined
import Derived.SevenTiedAt
import Derived.Deep.Slices
import Derived.Deep.Strs
import Derived.ChangeSame
import Derived.Lib.SmallJoins
namespace Go.Proofs.Ytbddpjofhddilaa
open Go.ChangeShapes Go.WideShapes Go.ChangeAt Go.WideMaps Go.WideElems Go.RowKit Go.Deep Go.Joins

theorem own : ownKnob Try.prog.godebug = none := by kernel_rfl
theorem below_of {w w' : World} (h : w.grownBy w' none) : Below w.heap.size w w' := ⟨h.os, h.tape, h.output, h.size, fun k hk => h.block k hk (by simp)⟩
theorem laidOut : laidOutB Try.prog = true := by kernel_rfl
/-- Arguments of these types read on as they read, where nothing that lay has turned. -/
theorem trodAll_below' {H : Type} {enc : TypeId × Value → H} {P : Program} (hl : laidOutB P = true) {W W' : World} (hb : Below W.heap.size W W') : ∀ {ts : List TypeId} {vs : List Value} {ds : List (DataW H)} {ps : List MemPlace},
    (ts.all fun t => P.readableRec t && decide (t < P.types.size)) = true → DataW.TrodAll enc P W 0 (fun _ => true) true ts vs ds ps → (∀ x ∈ ps, x.block < W.heap.size) →
    DataW.TrodAll enc P W' 0 (fun b => decide (b < W.heap.size)) true ts vs ds ps
  | [], _, _, _, _, h, _ => by
    obtain ⟨rfl, rfl, rfl⟩ := trodAll_nil h
    exact trodAll_mk0
  | t :: ts, vs, ds, ps, ht, h, hlt => by
    obtain ⟨v, vs', d, ds', p, q, rfl, rfl, rfl, hd, hrest⟩ := trodAll_cons h
    simp only [List.all_cons, Bool.and_eq_true, decide_eq_true_eq] at ht
    exact ⟨p, q, Below.trod hl ht.1.1 ht.1.2 hd hb (fun x hx => hlt x (by simp [hx])), trodAll_below' hl hb (by simpa using ht.2) hrest (fun x hx => hlt x (by simp [hx])), rfl⟩
theorem trodAll_below {H : Type} {enc : TypeId × Value → H} {W W' : World} (hb : Below W.heap.size W W') {ts : List TypeId} {vs : List Value} {ds : List (DataW H)} {ps : List MemPlace}
    (ht : (ts.all fun t => Try.prog.readableRec t && decide (t < Try.prog.types.size)) = true) (h : DataW.TrodAll enc Try.prog W 0 (fun _ => true) true ts vs ds ps) (hlt : ∀ x ∈ ps, x.block < W.heap.size) :
    DataW.TrodAll enc Try.prog W' 0 (fun b => decide (b < W.heap.size)) true ts vs ds ps := trodAll_below' laidOut hb ht h hlt

set_option maxRecDepth 100000
section
variable {H : Type} {enc : TypeId × Value → H} {W : World}
theorem add_off (b o j : Nat) : (⟨b, o, none⟩ : Addr).add j = ⟨b, o + j, none⟩ := by unfold Addr.add; split <;> simp_all
/-- A cell that reads as a slice, whose elements are opened by each. -/
theorem slice_open {t e k : Nat} {α : Type} [Inhabited α] (P : α → Nat → Nat → Prop) (ht : Try.prog.underlying t = some (.slice e)) (hk : Try.prog.cellsOf e = k)
    (each : ∀ (n : Nat) (a : Addr) (cs : List Value) (x : DataW H × List MemPlace), W.cells? 0 a k = some cs → DataW.trod enc Try.prog W 0 (fun _ => true) true n e cs = some x → ∃ (y : α) (b o : Nat), a = ⟨b, o, none⟩ ∧ P y b o)
    {n : Nat} {v : Value} {x : DataW H × List MemPlace} (h : DataW.trod enc Try.prog W 0 (fun _ => true) true n t [v] = some x) :
    ∃ (l : List α) (a : Option Addr) (c : Nat), v = .slice a l.length c ∧ l.length ≤ c ∧ (l.length : Int) ≤ 9223372036854775807 ∧ ∀ (j : Nat) (y : α), l[j]? = some y → ∃ b o, a = some ⟨b, o, none⟩ ∧ P y b (o + j * k) := by
  rcases open_slice ht h with ⟨hcs, _⟩ | ⟨a, len, cap, m, n', D, Pl, hcs, _, hl, hm, hmm, _, hx⟩
  · injection hcs with hcs _
    subst hcs
    exact ⟨[], none, 0, rfl, Nat.le_refl _, by simp, fun j y hj => by simp at hj⟩
  · injection hcs with hcs _
    subst hcs
    simp only [if_true] at hmm
    subst hmm
    have h1 : ∀ i, i < len → ∃ y : α, ∃ b o, a.add (i * k) = ⟨b, o, none⟩ ∧ P y b o := by
      intro i hi
      obtain ⟨cs', hc, ht'⟩ := hx i (by omega)
      rw [hk] at hc
      exact each _ _ _ _ hc ht'
    obtain ⟨f, hf⟩ := choose_lt h1
    have hlen : ((List.range len).map f).length = len := by simp
    refine ⟨(List.range len).map f, some a, m, by rw [hlen], by rw [hlen]; exact hl, by rw [hlen]; unfold maxLen at hm; omega, fun j y hj => ?_⟩
    have hjl : j < len := by have := (List.getElem?_eq_some_iff.1 hj).1; rwa [hlen] at this
    rw [List.getElem?_map, List.getElem?_range hjl] at hj
    simp only [Option.map_some, Option.some.injEq] at hj
    subst hj
    obtain ⟨b0, o0, e0, _⟩ := hf 0 (by omega)
    rw [Nat.zero_mul, show a.add 0 = a from rfl] at e0
    subst e0
    obtain ⟨b, o, e, hp⟩ := hf j hjl
    rw [add_off] at e
    simp only [Addr.mk.injEq, and_true] at e
    obtain ⟨rfl, rfl⟩ := e
    exact ⟨b0, o0, rfl, hp⟩
theorem intsW_open {n : Nat} {v : Value} {x : DataW H × List MemPlace} (h : DataW.trod enc Try.prog W 0 (fun _ => true) true n 28 [v] = some x) :
    ∃ (zs : List Int) (ra : Option Addr) (rc : Nat), v = .slice ra zs.length rc ∧ IntsW W ra rc zs ∧ (zs.length : Int) ≤ 9223372036854775807 := by
  obtain ⟨l, a, c, e, hc, hm, hl⟩ := slice_open (α := Int) (k := 1) (fun z b o => W.cell? ⟨b, o, none⟩ = some (.int .i64 z)) Try.underlying28 (by kernel_rfl) (fun n a cs x hc h => by
    obtain ⟨_, hlen, hat⟩ := World.cells?_some hc
    match cs, hlen with
    | [c0], _ =>
      obtain ⟨z, e0, _, _⟩ := DataW.trod_int Try.underlying3 h
      injection e0 with e0 _
      subst e0
      have a0 := hat 0 (by omega)
      obtain ⟨b, o, spot⟩ := a
      have hspot : spot = none := by simpa [Addr.add] using World.cell?_spot a0
      subst hspot
      exact ⟨z, b, o, rfl, by simpa [Addr.add] using a0⟩) h
  refine ⟨l, a, c, e, ⟨hc, ?_⟩, hm⟩
  cases l with
  | nil => exact .inl rfl
  | cons z l =>
    obtain ⟨b, o, rfl, _⟩ := hl 0 z rfl
    refine .inr ⟨b, o, rfl, fun j y hj => ?_⟩
    obtain ⟨b', o', e', hc'⟩ := hl j y hj
    cases e'
    rw [Nat.mul_one] at hc'
    exact hc'
theorem rels_open {n : Nat} {v : Value} {x : DataW H × List MemPlace} (h : DataW.trod enc Try.prog W 0 (fun _ => true) true n 40 [v] = some x) :
    ∃ (l : List Rl) (a : Option Addr) (c : Nat), v = .slice a l.length c ∧ Rels W a c l := by
  obtain ⟨l, a, c, e, hc, _, hl⟩ := slice_open (α := Rl) (k := 2) (fun r b o => RelAt W b o r) Try.underlying40 (by kernel_rfl) (fun n a cs x hc h => by
    obtain ⟨_, hlen, hat⟩ := World.cells?_some hc
    obtain ⟨xs, m, _, _, _, hxl, hf⟩ := DataW.trod_struct Try.underlying53 h
    match cs, hlen with
    | [c0, c1], _ =>
      match xs, hxl with
      | [x0, x1], _ =>
        have k3 : Try.prog.cellsOf 3 = 1 := by kernel_rfl
        have k28 : Try.prog.cellsOf 28 = 1 := by kernel_rfl
        have f0 : DataW.trod enc Try.prog W 0 (fun _ => true) true m 3 [c0] = some x0 := by
          have f : DataW.trod enc Try.prog W 0 (fun _ => true) true m 3 (([c0, c1].drop 0).take (Try.prog.cellsOf 3)) = some x0 := hf 0 _ rfl
          rw [k3] at f; exact f
        have f1 : DataW.trod enc Try.prog W 0 (fun _ => true) true m 28 [c1] = some x1 := by
          have f : DataW.trod enc Try.prog W 0 (fun _ => true) true m 28 (([c0, c1].drop 1).take (Try.prog.cellsOf 28)) = some x1 := hf 1 _ rfl
          rw [k28] at f; exact f
        obtain ⟨k, e0, _, _⟩ := DataW.trod_int Try.underlying3 f0
        obtain ⟨zs, ra, rc, e1, hi, _⟩ := intsW_open f1
        injection e0 with e0 _
        subst e0 e1
        have a0 := hat 0 (by omega)
        have a1 := hat 1 (by omega)
        obtain ⟨b, o, spot⟩ := a
        have hspot : spot = none := by simpa [Addr.add] using World.cell?_spot a0
        subst hspot
        rw [add_off] at a0 a1
        exact ⟨(k, zs), b, o, rfl, by simpa using a0, ra, rc, by simpa using a1, hi⟩) h
  exact ⟨l, a, c, e, hc, hl⟩
theorem sts_open {n : Nat} {v : Value} {x : DataW H × List MemPlace} (h : DataW.trod enc Try.prog W 0 (fun _ => true) true n 31 [v] = some x) :
    ∃ (L : List (List Rl)) (a : Option Addr) (c : Nat), v = .slice a L.length c ∧ Sts W a c L := by
  obtain ⟨l, a, c, e, hc, _, hl⟩ := slice_open (α := List Rl) (k := 1) (fun l b o => ∃ a' c', W.cell? ⟨b, o, none⟩ = some (.slice a' l.length c') ∧ Rels W a' c' l) Try.underlying31 (by kernel_rfl) (fun n a cs x hc h => by
    obtain ⟨_, hlen, hat⟩ := World.cells?_some hc
    match cs, hlen with
    | [c0], _ =>
      obtain ⟨l, ra, rc, rfl, hr⟩ := rels_open h
      have a0 := hat 0 (by omega)
      obtain ⟨b, o, spot⟩ := a
      have hspot : spot = none := by simpa [Addr.add] using World.cell?_spot a0
      subst hspot
      exact ⟨l, b, o, rfl, ra, rc, by simpa [Addr.add] using a0, hr⟩) h
  refine ⟨l, a, c, e, hc, fun j y hj => ?_⟩
  obtain ⟨b, o, e', h'⟩ := hl j y hj
  rw [Nat.mul_one] at h'
  exact ⟨b, o, e', h'⟩
theorem block_in {a : Addr} {len cap : Nat} {base : Nat} (hok : Cell.okWide Try.prog W .any base 28 (.slice (some a) len cap)) : a.spot = none ∧ a.block < W.heap.size := by
  have h : len ≤ cap ∧ (cap : Int) ≤ IntKind.i64.max ∧ W.has Try.prog .any base a 3 cap := by
    simpa [Cell.okWide, Cell.ok, Try.underlying28] using hok
  obtain ⟨_, _, _, hs, row, cells, hsh, _⟩ := h
  refine ⟨hs, ?_⟩
  unfold World.shape? at hsh
  split at hsh
  · rename_i he; exact (Array.getElem?_eq_some_iff.1 he).1
  · cases hsh
theorem ints_open {n : Nat} {v : Value} {base : Nat} {x : DataW H × List MemPlace} (h : DataW.trod enc Try.prog W 0 (fun _ => true) true n 28 [v] = some x) (hok : Cell.okWide Try.prog W .any base 28 v) :
    ∃ (zs : List Int) (ra : Option Addr) (rc : Nat), v = .slice ra zs.length rc ∧ Ints W ra rc zs ∧ (zs.length : Int) ≤ 9223372036854775807 := by
  obtain ⟨zs, ra, rc, rfl, hi, hm⟩ := intsW_open h
  refine ⟨zs, ra, rc, rfl, ?_, hm⟩
  cases ra with
  | none =>
    rcases open_slice Try.underlying28 h with ⟨hcs, _⟩ | ⟨a, len, cap, m, n', D, Pl, hcs, _⟩
    · injection hcs with hcs _
      injection hcs with _ h1 h2
      have hz := List.eq_nil_of_length_eq_zero h1
      subst hz h2
      exact ⟨Nat.le_refl _, .inl ⟨rfl, rfl, rfl⟩⟩
    · injection hcs with hcs _
      injection hcs with h0 _ _
      cases h0
  | some a =>
    obtain ⟨hs, hb⟩ := block_in hok
    obtain ⟨b, o, spot⟩ := a
    obtain rfl : spot = none := hs
    refine ⟨hi.1, .inr ⟨b, o, rfl, hb, fun j z hj => ?_⟩⟩
    obtain ⟨b', o', e, hc⟩ := hi.at hj
    cases e
    exact hc
/-- A model that came in. -/
theorem open_model {v : Value} {d : DataW H} {ps : List MemPlace} {base : Nat} (hv : Value.okWide Try.prog W .any base 33 v) (h : DataW.Trod enc Try.prog W 0 (fun _ => true) true 33 v d ps) :
    ∃ (us : List Int) (sa : Option Addr) (sc : Nat) (st : Int) (L : List (List Rl)) (ta : Option Addr) (tc : Nat) (lp : Int), v = .agg #[.slice sa us.length sc, .int .i64 st, .slice ta L.length tc, .int .i64 lp] ∧ Ints W sa sc us ∧ Sts W ta tc L ∧ (us.length : Int) ≤ 9223372036854775807 := by
  obtain ⟨cs, rfl, hsz⟩ := okWide_struct Try.underlying33 hv
  have k33 : Try.prog.cellsOf 33 = 4 := by kernel_rfl
  have k30 : Try.prog.cellsOf 30 = 2 := by kernel_rfl
  have k31 : Try.prog.cellsOf 31 = 1 := by kernel_rfl
  have k28 : Try.prog.cellsOf 28 = 1 := by kernel_rfl
  have k3 : Try.prog.cellsOf 3 = 1 := by kernel_rfl
  obtain ⟨c0, c1, c2, c3, rfl⟩ := array4 (hsz.trans k33)
  obtain ⟨fuel, hf0⟩ := h
  obtain ⟨x0, x1, x2, m, _, _, f0, f1, f2⟩ := trod_struct3 Try.underlying33 hf0
  have g0 : DataW.trod enc Try.prog W 0 (fun _ => true) true m 30 [c0, c1] = some x0 := by
    have f : DataW.trod enc Try.prog W 0 (fun _ => true) true m 30 (([c0, c1, c2, c3].drop 0).take (Try.prog.cellsOf 30)) = some x0 := f0
    rw [k30] at f; exact f
  have g1 : DataW.trod enc Try.prog W 0 (fun _ => true) true m 31 [c2] = some x1 := by
    have f : DataW.trod enc Try.prog W 0 (fun _ => true) true m 31 (([c0, c1, c2, c3].drop 2).take (Try.prog.cellsOf 31)) = some x1 := f1
    rw [k31] at f; exact f
  have g2 : DataW.trod enc Try.prog W 0 (fun _ => true) true m 3 [c3] = some x2 := by
    have f : DataW.trod enc Try.prog W 0 (fun _ => true) true m 3 (([c0, c1, c2, c3].drop 3).take (Try.prog.cellsOf 3)) = some x2 := f2
    rw [k3] at f; exact f
  obtain ⟨y0, y1, m', _, _, q0, q1⟩ := trod_struct2 Try.underlying30 g0
  have e0 : DataW.trod enc Try.prog W 0 (fun _ => true) true m' 28 [c0] = some y0 := by
    have f : DataW.trod enc Try.prog W 0 (fun _ => true) true m' 28 (([c0, c1].drop 0).take (Try.prog.cellsOf 28)) = some y0 := q0
    rw [k28] at f; exact f
  have e1 : DataW.trod enc Try.prog W 0 (fun _ => true) true m' 3 [c1] = some y1 := by
    have f : DataW.trod enc Try.prog W 0 (fun _ => true) true m' 3 (([c0, c1].drop 1).take (Try.prog.cellsOf 3)) = some y1 := q1
    rw [k3] at f; exact f
  unfold Value.okWide at hv
  rw [Try.underlying33] at hv
  obtain ⟨cs, hcs, _, ts, hts, _, hrow⟩ := hv
  injection hcs with hcs
  subst hcs
  have hc : Try.prog.cellTypes Try.prog.depth 33 = some [28, 3, 31, 3] := by kernel_rfl
  rw [hc] at hts
  injection hts with hts
  subst hts
  obtain ⟨u, hu, hok⟩ := hrow 0 c0 rfl
  have hu28 : u = 28 := by simpa using hu.symm
  subst hu28
  obtain ⟨us, sa, sc, rfl, hi, hm⟩ := ints_open e0 hok
  obtain ⟨st, d1, _, _⟩ := DataW.trod_int Try.underlying3 e1
  injection d1 with d1 _
  obtain ⟨L, ta, tc, rfl, hs⟩ := sts_open g1
  obtain ⟨lp, d2, _, _⟩ := DataW.trod_int Try.underlying3 g2
  injection d2 with d2 _
  subst d1 d2
  exact ⟨us, sa, sc, st, L, ta, tc, lp, rfl, hi, hs, hm⟩
/-- Fields that came in. -/
theorem fields_open {n : Nat} {v : Value} {x : DataW H × List MemPlace} (h : DataW.trod enc Try.prog W 0 (fun _ => true) true n 23 [v] = some x) :
    ∃ (l : List Fd) (a : Option Addr) (c : Nat), v = .slice a l.length c ∧ Fields W a c l := by
  obtain ⟨l, a, c, e, hc, _, hl⟩ := slice_open (α := Fd) (k := 3) (fun f b o => FieldAt W b o f) Try.underlying23 (by kernel_rfl) (fun n a cs x hc h => by
    obtain ⟨_, hlen, hat⟩ := World.cells?_some hc
    obtain ⟨x0, x1, x2, m, _, _, f0, f1, f2⟩ := trod_struct3 Try.underlying51 h
    match cs, hlen with
    | [c0, c1, c2], _ =>
      have k9 : Try.prog.cellsOf 9 = 1 := by kernel_rfl
      have k28 : Try.prog.cellsOf 28 = 1 := by kernel_rfl
      have k4 : Try.prog.cellsOf 4 = 1 := by kernel_rfl
      have g0 : DataW.trod enc Try.prog W 0 (fun _ => true) true m 9 [c0] = some x0 := by
        have f : DataW.trod enc Try.prog W 0 (fun _ => true) true m 9 (([c0, c1, c2].drop 0).take (Try.prog.cellsOf 9)) = some x0 := f0
        rw [k9] at f; exact f
      have g1 : DataW.trod enc Try.prog W 0 (fun _ => true) true m 28 [c1] = some x1 := by
        have f : DataW.trod enc Try.prog W 0 (fun _ => true) true m 28 (([c0, c1, c2].drop 1).take (Try.prog.cellsOf 28)) = some x1 := f1
        rw [k28] at f; exact f
      have g2 : DataW.trod enc Try.prog W 0 (fun _ => true) true m 4 [c2] = some x2 := by
        have f : DataW.trod enc Try.prog W 0 (fun _ => true) true m 4 (([c0, c1, c2].drop 2).take (Try.prog.cellsOf 4)) = some x2 := f2
        rw [k4] at f; exact f
      obtain ⟨s, d0, _, _⟩ := DataW.trod_string Try.underlying9 g0
      injection d0 with d0 _
      obtain ⟨ss, ra, rc, rfl, hi, _⟩ := intsW_open g1
      obtain ⟨y, d2, _, _⟩ := DataW.trod_bool Try.underlying4 g2
      injection d2 with d2 _
      subst d0 d2
      have a0 := hat 0 (by omega)
      have a1 := hat 1 (by omega)
      have a2 := hat 2 (by omega)
      obtain ⟨b, o, spot⟩ := a
      have hspot : spot = none := by simpa [Addr.add] using World.cell?_spot a0
      subst hspot
      rw [add_off] at a0 a1 a2
      exact ⟨(s, ss, y), b, o, rfl, by simpa using a0, ⟨ra, rc, by simpa using a1, hi⟩, by simpa using a2⟩) h
  exact ⟨l, a, c, e, hc, hl⟩
theorem slice_shape {t e : TypeId} {n : Nat} {v : Value} {x : DataW H × List MemPlace} (ht : Try.prog.underlying t = some (.slice e)) (h : DataW.trod enc Try.prog W 0 (fun _ => true) true n t [v] = some x) : ∃ a len cap, v = .slice a len cap := by
  rcases DataW.trod_slice ht h with ⟨h1, _⟩ | ⟨a, len, cap, _, _, _, _, h1, _⟩
  · injection h1 with h1 _; exact ⟨_, _, _, h1⟩
  · injection h1 with h1 _; exact ⟨_, _, _, h1⟩
/-- A specification that came in. -/
theorem open_spec {v : Value} {d : DataW H} {ps : List MemPlace} {base : Nat} (hv : Value.okWide Try.prog W .any base 27 v) (h : DataW.Trod enc Try.prog W 0 (fun _ => true) true 27 v d ps) :
    ∃ (s1 : Option Addr) (ns c1 : Nat) (F : List Fd) (fa : Option Addr) (fc : Nat) (a3 : Option Addr) (n3 c3 : Nat) (a4 : Option Addr) (n4 c4 : Nat), v = .agg #[.slice s1 ns c1, .slice fa F.length fc, .slice a3 n3 c3, .slice a4 n4 c4] ∧ Fields W fa fc F := by
  obtain ⟨v0, v1, v2, v3, y0, y1, y2, y3, n, rfl, _, _, h0, h1, h2, h3⟩ := open_agg4 Try.underlying27 (by kernel_rfl) (by kernel_rfl) hv h
  obtain ⟨s1, ns, c1, rfl⟩ := slice_shape Try.underlying22 h0
  obtain ⟨F, fa, fc, rfl, hF⟩ := fields_open h1
  obtain ⟨a3, n3, c3, rfl⟩ := slice_shape Try.underlying24 h2
  obtain ⟨a4, n4, c4, rfl⟩ := slice_shape Try.underlying25 h3
  exact ⟨s1, ns, c1, F, fa, fc, a3, n3, c3, a4, n4, c4, rfl, hF⟩
theorem open_u8 {v : Value} {d : DataW H} {ps : List MemPlace} {base : Nat} (hv : Value.okWide Try.prog W .any base 5 v) (h : DataW.Trod enc Try.prog W 0 (fun _ => true) true 5 v d ps) :
    ∃ y : Nat, v = .int .u8 (y : Int) ∧ y < 256 := by
  obtain ⟨x, rfl, _, _, wx⟩ := open_int Try.underlying5 hv h
  have hw : 0 ≤ x ∧ x < 256 := by
    simp [Lit.wf, IntKind.min, IntKind.max, IntKind.bits, IntKind.signed] at wx
    omega
  exact ⟨x.toNat, by rw [Int.toNat_of_nonneg hw.1], by omega⟩
theorem open_u32 {v : Value} {d : DataW H} {ps : List MemPlace} {base : Nat} (hv : Value.okWide Try.prog W .any base 44 v) (h : DataW.Trod enc Try.prog W 0 (fun _ => true) true 44 v d ps) :
    ∃ y : Nat, v = .int .u32 (y : Int) ∧ y < 4294967296 := by
  obtain ⟨x, rfl, _, _, wx⟩ := open_int Try.underlying44 hv h
  have hw : 0 ≤ x ∧ x < 4294967296 := by
    simp [Lit.wf, IntKind.min, IntKind.max, IntKind.bits, IntKind.signed] at wx
    omega
  exact ⟨x.toNat, by rw [Int.toNat_of_nonneg hw.1], by omega⟩
theorem open_i64 {v : Value} {d : DataW H} {ps : List MemPlace} {base : Nat} (hv : Value.okWide Try.prog W .any base 3 v) (h : DataW.Trod enc Try.prog W 0 (fun _ => true) true 3 v d ps) : ∃ y : Int, v = .int .i64 y ∧ -9223372036854775808 ≤ y ∧ y ≤ 9223372036854775807 := by
  obtain ⟨x, rfl, _, _, wx⟩ := open_int Try.underlying3 hv h
  refine ⟨x, rfl, ?_⟩
  simp [Lit.wf, IntKind.min, IntKind.max, IntKind.bits, IntKind.signed] at wx
  omega
end
end Go.Proofs.Ytbddpjofhddilaa
