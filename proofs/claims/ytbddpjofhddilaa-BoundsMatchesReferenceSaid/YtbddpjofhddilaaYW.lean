/- What the rows and the walk of the reference share: the setting, what came in. -/
import Derived.Test.YtbddpjofhddilaaRows
import Derived.Test.YtbddpjofhddilaaN03
import Derived.Test.YtbddpjofhddilaaN09
import Derived.Test.YtbddpjofhddilaaN10
import Derived.Test.YtbddpjofhddilaaN11
import Derived.Test.YtbddpjofhddilaaN12
import Derived.Test.YtbddpjofhddilaaN20
import Derived.ProofKit
import Derived.OpenShut
import Derived.Stop.Joined
import Derived.SevenTiedAt
import Derived.Deep.Slices
import Derived.Deep.Strs
import Derived.ChangeSame
import Derived.Lib.SmallJoins
namespace Go.Proofs.Ytbddpjofhddilaa
open Go.RowKit

/-- A default bound: no tuple below, an increasing row above. -/
def DefOk (DB : List Bd) : Prop := ∀ d ∈ DB, d.1 = (d.2.1, []) ∧ Up d.2.2 ∧ d.2.2.length ≤ 125
theorem zip_at {A B : List Bd} {j : Nat} {m : Bd} (h : (List.zipWith meetX A B)[j]? = some m) : ∃ x y, A[j]? = some x ∧ B[j]? = some y ∧ m = meetX x y := by
  rw [List.getElem?_zipWith] at h
  cases hx : A[j]? with
  | none => rw [hx] at h; simp at h
  | some x =>
    cases hy : B[j]? with
    | none => rw [hx, hy] at h; simp at h
    | some y =>
      rw [hx, hy] at h
      cases h
      exact ⟨x, y, rfl, rfl, rfl⟩
theorem fullL_len {zs : List Nat} (hz : ∀ z ∈ zs, z ≤ 5) {ss : List Int} (hs : ss.length ≤ 3) : (fullL zs ss).length ≤ 125 := by
  unfold fullL
  split
  · rw [List.length_map]
    have h3 := digs_length hz (ss.map Int.toNat) 0
    have h4 : 5 ^ (ss.map Int.toNat).length ≤ 5 ^ 3 := Nat.pow_le_pow_right (by omega) (by rw [List.length_map]; exact hs)
    omega
  · simp
theorem fits_setup {ns : Nat} {F : List Fd} {zs : List Int} {st : Int} (h : fitsS ns F zs st = true) :
    (∀ z ∈ zs, 0 ≤ z) ∧ (∀ z ∈ zs.map Int.toNat, z ≤ 5) ∧ (zs.map Int.toNat).length ≤ 4 ∧ F.length ≤ 6 ∧ (∀ f ∈ F, f.2.1 ≠ [] ∧ f.2.1.length ≤ 3) ∧ (∀ f ∈ F, fits (zs.map Int.toNat).length f.2.1 = true) ∧ sum (zs.map Int.toNat) ≤ 12 ∧ zs.length ≤ 4 := by
  obtain ⟨⟨_, _, h3, h4⟩, hf, hv⟩ := fitsS_iff.1 h
  rw [validI_sized, Bool.and_eq_true, decide_eq_true_eq] at hv
  obtain ⟨hk, hs⟩ := hv
  simp only [sizedR, Bool.and_eq_true, decide_eq_true_eq] at hs
  have hz : ∀ z ∈ zs, 1 ≤ z ∧ z ≤ 5 := fun z hz => sized_at hs.1.2 hz
  refine ⟨fun z h => by have := hz z h; omega, fun z h => ?_, by rw [List.length_map]; exact h4, h3, fun f h => ?_, fun f h => ?_, hs.2, h4⟩
  · obtain ⟨y, hy, rfl⟩ := List.mem_map.1 h
    have := hz y hy
    omega
  · have h1 := (fieldOk_iff.1 (hf f h)).1
    exact ⟨fun e => by rw [e] at h1; simp at h1, h1.2⟩
  · have h1 := fieldOk_iff.1 (hf f h)
    simp only [fits, decide_eq_true_eq, List.length_map]
    exact ⟨by omega, h1.1.2, fun s hs => by have := h1.2 s hs; omega⟩
theorem defOk {zs : List Nat} {F : List Fd} (hz : ∀ z ∈ zs, z ≤ 5) (hf : ∀ f ∈ F, f.2.1.length ≤ 3) : DefOk (F.map (defX zs)) := fun d hd => by
  obtain ⟨f, hff, rfl⟩ := List.mem_map.1 hd
  refine ⟨rfl, ?_, fullL_len hz (hf f hff)⟩
  show Up (fullL zs f.2.1)
  unfold fullL
  split
  · exact List.pairwise_map.2 ((digs_sorted _ _).imp fun h => by simpa using h)
  · exact List.Pairwise.nil
theorem equalG {w : World} {a a' : Option Addr} {c c' n : Nat} {A B : List Bd} {Q : Bool} (hA : Bds w a c A) (hB : Bds w a' c' B) (hn : A.length = n) (hn' : B.length = n) (hl : n ≤ 6) (h1 : ∀ x ∈ A, x.1.2.length ≤ 125 ∧ x.2.2.length ≤ 125) (h2 : ∀ x ∈ B, x.1.2.length ≤ 125 ∧ x.2.2.length ≤ 125) (hQ : decide (A = B) = Q) :
    Calls Try.prog 42 #[.slice a n c, .slice a' n c'] w fun e w' => e = .returned (.bool Q) ∧ w.grownBy w' none := by
  have h := bEqual_calls A B a a' c c' w hA hB ⟨by omega, fun x hx => by have := h1 x hx; omega⟩ ⟨by omega, fun x hx => by have := h2 x hx; omega⟩
  rw [hn, hn', hQ] at h
  exact h
/-- The boxes of a law's specification and scope. -/
structure Bx9 (g : Nat) (p0 p1 p2 p3 q0 q1 : Value) (U : World) : Prop where
  c0 : U.cell? ⟨g, 0, none⟩ = some p0
  c1 : U.cell? ⟨g, 1, none⟩ = some p1
  c2 : U.cell? ⟨g, 2, none⟩ = some p2
  c3 : U.cell? ⟨g, 3, none⟩ = some p3
  d0 : U.cell? ⟨g + 1, 0, none⟩ = some q0
  d1 : U.cell? ⟨g + 1, 1, none⟩ = some q1
theorem Bx9.grown {g : Nat} {p0 p1 p2 p3 q0 q1 : Value} {U U' : World} (h : Bx9 g p0 p1 p2 p3 q0 q1 U) (hg : U.grownBy U' none) : Bx9 g p0 p1 p2 p3 q0 q1 U' :=
  ⟨hg.cell h.c0 (by simp), hg.cell h.c1 (by simp), hg.cell h.c2 (by simp), hg.cell h.c3 (by simp), hg.cell h.d0 (by simp), hg.cell h.d1 (by simp)⟩
theorem Bx9.new (w : World) (p0 p1 p2 p3 q0 q1 : Value) : Bx9 w.heap.size p0 p1 p2 p3 q0 q1 ((w.alloc (.cells #[p0, p1, p2, p3] 27)).alloc (.cells #[q0, q1] 30)) ∧ w.grownBy ((w.alloc (.cells #[p0, p1, p2, p3] 27)).alloc (.cells #[q0, q1] 30)) none :=
  ⟨⟨by go_simp, by go_simp, by go_simp, by go_simp, by go_simp, by go_simp⟩, (World.grownBy_alloc _ _ none).trans (World.grownBy_alloc _ _ none)⟩
theorem rising_up {hi : Int} : ∀ {l : List Int} {lo : Int}, Up l → (∀ z ∈ l, lo < z ∧ z < hi) → rising hi lo l = true
  | [], _, _, _ => rfl
  | z :: l, lo, h, hb => by
    have h1 := hb z (by simp)
    have hp := List.pairwise_cons.1 h
    simp only [rising, Bool.and_eq_true, decide_eq_true_eq]
    exact ⟨h1, rising_up hp.2 (fun y hy => ⟨hp.1 y hy, (hb y (by simp [hy])).2⟩)⟩

open Go.ChangeShapes Go.WideShapes Go.ChangeAt Go.WideMaps Go.WideElems Go.RowKit Go.Deep Go.Joins

theorem own : ownKnob Try.prog.godebug = none := by kernel_rfl
theorem below_of {w w' : World} (h : w.grownBy w' none) : Below w.heap.size w w' := ⟨h.os, h.tape, h.output, h.size, fun k hk => h.block k hk (by simp)⟩
theorem laidOut : laidOutB Try.prog = true := by kernel_rfl
/-- Arguments of these types read on as they read, where nothing that lay has turned. -/
theorem trodAll_below' {H : Type} {enc : TypeId × Value → H} {P : Program} (hl : laidOutB P = true) {W W' : World} (hb : Below W.heap.size W W') : ∀ {ts : List TypeId} {vs : List Value} {ds : List (DataW H)} {ps : List MemPlace},
    (ts.all fun t => P.readableRec t && decide (t < P.types.size)) = true → DataW.TrodAll enc P W 0 (fun _ => true) true ts vs ds ps → (∀ x ∈ ps, x.block < W.heap.size) →
    DataW.TrodAll enc P W' 0 (fun b => decide (b < W.heap.size)) true ts vs ds ps
  | [], _, _, _, _, h, _ => by
    obtain ⟨rfl, rfl, rfl⟩ := trodAll_nil h
    exact trodAll_mk0
  | t :: ts, vs, ds, ps, ht, h, hlt => by
    obtain ⟨v, vs', d, ds', p, q, rfl, rfl, rfl, hd, hrest⟩ := trodAll_cons h
    simp only [List.all_cons, Bool.and_eq_true, decide_eq_true_eq] at ht
    exact ⟨p, q, Below.trod hl ht.1.1 ht.1.2 hd hb (fun x hx => hlt x (by simp [hx])), trodAll_below' hl hb (by simpa using ht.2) hrest (fun x hx => hlt x (by simp [hx])), rfl⟩
theorem trodAll_below {H : Type} {enc : TypeId × Value → H} {W W' : World} (hb : Below W.heap.size W W') {ts : List TypeId} {vs : List Value} {ds : List (DataW H)} {ps : List MemPlace}
    (ht : (ts.all fun t => Try.prog.readableRec t && decide (t < Try.prog.types.size)) = true) (h : DataW.TrodAll enc Try.prog W 0 (fun _ => true) true ts vs ds ps) (hlt : ∀ x ∈ ps, x.block < W.heap.size) :
    DataW.TrodAll enc Try.prog W' 0 (fun b => decide (b < W.heap.size)) true ts vs ds ps := trodAll_below' laidOut hb ht h hlt

set_option maxRecDepth 100000
section
variable {H : Type} {enc : TypeId × Value → H} {W : World}
theorem add_off (b o j : Nat) : (⟨b, o, none⟩ : Addr).add j = ⟨b, o + j, none⟩ := by unfold Addr.add; split <;> simp_all
/-- A cell that reads as a slice, whose elements are opened by each. -/
theorem slice_open {t e k : Nat} {α : Type} [Inhabited α] (P : α → Nat → Nat → Prop) (ht : Try.prog.underlying t = some (.slice e)) (hk : Try.prog.cellsOf e = k)
    (each : ∀ (n : Nat) (a : Addr) (cs : List Value) (x : DataW H × List MemPlace), W.cells? 0 a k = some cs → DataW.trod enc Try.prog W 0 (fun _ => true) true n e cs = some x → ∃ (y : α) (b o : Nat), a = ⟨b, o, none⟩ ∧ P y b o)
    {n : Nat} {v : Value} {x : DataW H × List MemPlace} (h : DataW.trod enc Try.prog W 0 (fun _ => true) true n t [v] = some x) :
    ∃ (l : List α) (a : Option Addr) (c : Nat), v = .slice a l.length c ∧ l.length ≤ c ∧ (l.length : Int) ≤ 9223372036854775807 ∧ ∀ (j : Nat) (y : α), l[j]? = some y → ∃ b o, a = some ⟨b, o, none⟩ ∧ P y b (o + j * k) := by
  rcases open_slice ht h with ⟨hcs, _⟩ | ⟨a, len, cap, m, n', D, Pl, hcs, _, hl, hm, hmm, _, hx⟩
  · injection hcs with hcs _
    subst hcs
    exact ⟨[], none, 0, rfl, Nat.le_refl _, by simp, fun j y hj => by simp at hj⟩
  · injection hcs with hcs _
    subst hcs
    simp only [if_true] at hmm
    subst hmm
    have h1 : ∀ i, i < len → ∃ y : α, ∃ b o, a.add (i * k) = ⟨b, o, none⟩ ∧ P y b o := by
      intro i hi
      obtain ⟨cs', hc, ht'⟩ := hx i (by omega)
      rw [hk] at hc
      exact each _ _ _ _ hc ht'
    obtain ⟨f, hf⟩ := choose_lt h1
    have hlen : ((List.range len).map f).length = len := by simp
    refine ⟨(List.range len).map f, some a, m, by rw [hlen], by rw [hlen]; exact hl, by rw [hlen]; unfold maxLen at hm; omega, fun j y hj => ?_⟩
    have hjl : j < len := by have := (List.getElem?_eq_some_iff.1 hj).1; rwa [hlen] at this
    rw [List.getElem?_map, List.getElem?_range hjl] at hj
    simp only [Option.map_some, Option.some.injEq] at hj
    subst hj
    obtain ⟨b0, o0, e0, _⟩ := hf 0 (by omega)
    rw [Nat.zero_mul, show a.add 0 = a from rfl] at e0
    subst e0
    obtain ⟨b, o, e, hp⟩ := hf j hjl
    rw [add_off] at e
    simp only [Addr.mk.injEq, and_true] at e
    obtain ⟨rfl, rfl⟩ := e
    exact ⟨b0, o0, rfl, hp⟩
theorem intsW_open {n : Nat} {v : Value} {x : DataW H × List MemPlace} (h : DataW.trod enc Try.prog W 0 (fun _ => true) true n 28 [v] = some x) :
    ∃ (zs : List Int) (ra : Option Addr) (rc : Nat), v = .slice ra zs.length rc ∧ IntsW W ra rc zs ∧ (zs.length : Int) ≤ 9223372036854775807 := by
  obtain ⟨l, a, c, e, hc, hm, hl⟩ := slice_open (α := Int) (k := 1) (fun z b o => W.cell? ⟨b, o, none⟩ = some (.int .i64 z)) Try.underlying28 (by kernel_rfl) (fun n a cs x hc h => by
    obtain ⟨_, hlen, hat⟩ := World.cells?_some hc
    match cs, hlen with
    | [c0], _ =>
      obtain ⟨z, e0, _, _⟩ := DataW.trod_int Try.underlying3 h
      injection e0 with e0 _
      subst e0
      have a0 := hat 0 (by omega)
      obtain ⟨b, o, spot⟩ := a
      have hspot : spot = none := by simpa [Addr.add] using World.cell?_spot a0
      subst hspot
      exact ⟨z, b, o, rfl, by simpa [Addr.add] using a0⟩) h
  refine ⟨l, a, c, e, ⟨hc, ?_⟩, hm⟩
  cases l with
  | nil => exact .inl rfl
  | cons z l =>
    obtain ⟨b, o, rfl, _⟩ := hl 0 z rfl
    refine .inr ⟨b, o, rfl, fun j y hj => ?_⟩
    obtain ⟨b', o', e', hc'⟩ := hl j y hj
    cases e'
    rw [Nat.mul_one] at hc'
    exact hc'
theorem block_in {a : Addr} {len cap : Nat} {base : Nat} (hok : Cell.okWide Try.prog W .any base 28 (.slice (some a) len cap)) : a.spot = none ∧ a.block < W.heap.size := by
  have h : len ≤ cap ∧ (cap : Int) ≤ IntKind.i64.max ∧ W.has Try.prog .any base a 3 cap := by
    simpa [Cell.okWide, Cell.ok, Try.underlying28] using hok
  obtain ⟨_, _, _, hs, row, cells, hsh, _⟩ := h
  refine ⟨hs, ?_⟩
  unfold World.shape? at hsh
  split at hsh
  · rename_i he; exact (Array.getElem?_eq_some_iff.1 he).1
  · cases hsh
theorem ints_open {n : Nat} {v : Value} {base : Nat} {x : DataW H × List MemPlace} (h : DataW.trod enc Try.prog W 0 (fun _ => true) true n 28 [v] = some x) (hok : Cell.okWide Try.prog W .any base 28 v) :
    ∃ (zs : List Int) (ra : Option Addr) (rc : Nat), v = .slice ra zs.length rc ∧ Ints W ra rc zs ∧ (zs.length : Int) ≤ 9223372036854775807 := by
  obtain ⟨zs, ra, rc, rfl, hi, hm⟩ := intsW_open h
  refine ⟨zs, ra, rc, rfl, ?_, hm⟩
  cases ra with
  | none =>
    rcases open_slice Try.underlying28 h with ⟨hcs, _⟩ | ⟨a, len, cap, m, n', D, Pl, hcs, _⟩
    · injection hcs with hcs _
      injection hcs with _ h1 h2
      have hz := List.eq_nil_of_length_eq_zero h1
      subst hz h2
      exact ⟨Nat.le_refl _, .inl ⟨rfl, rfl, rfl⟩⟩
    · injection hcs with hcs _
      injection hcs with h0 _ _
      cases h0
  | some a =>
    obtain ⟨hs, hb⟩ := block_in hok
    obtain ⟨b, o, spot⟩ := a
    obtain rfl : spot = none := hs
    refine ⟨hi.1, .inr ⟨b, o, rfl, hb, fun j z hj => ?_⟩⟩
    obtain ⟨b', o', e, hc⟩ := hi.at hj
    cases e
    exact hc
/-- Fields that came in. -/
theorem fields_open9 {n : Nat} {v : Value} {x : DataW H × List MemPlace} (h : DataW.trod enc Try.prog W 0 (fun _ => true) true n 23 [v] = some x) :
    ∃ (l : List Fd) (a : Option Addr) (c : Nat), v = .slice a l.length c ∧ Fields W a c l ∧ (l.length : Int) ≤ 9223372036854775807 := by
  obtain ⟨l, a, c, e, hc, hm, hl⟩ := slice_open (α := Fd) (k := 3) (fun f b o => FieldAt W b o f) Try.underlying23 (by kernel_rfl) (fun n a cs x hc h => by
    obtain ⟨_, hlen, hat⟩ := World.cells?_some hc
    obtain ⟨x0, x1, x2, m, _, _, f0, f1, f2⟩ := trod_struct3 Try.underlying51 h
    match cs, hlen with
    | [c0, c1, c2], _ =>
      have k9 : Try.prog.cellsOf 9 = 1 := by kernel_rfl
      have k28 : Try.prog.cellsOf 28 = 1 := by kernel_rfl
      have k4 : Try.prog.cellsOf 4 = 1 := by kernel_rfl
      have g0 : DataW.trod enc Try.prog W 0 (fun _ => true) true m 9 [c0] = some x0 := by
        have f : DataW.trod enc Try.prog W 0 (fun _ => true) true m 9 (([c0, c1, c2].drop 0).take (Try.prog.cellsOf 9)) = some x0 := f0
        rw [k9] at f; exact f
      have g1 : DataW.trod enc Try.prog W 0 (fun _ => true) true m 28 [c1] = some x1 := by
        have f : DataW.trod enc Try.prog W 0 (fun _ => true) true m 28 (([c0, c1, c2].drop 1).take (Try.prog.cellsOf 28)) = some x1 := f1
        rw [k28] at f; exact f
      have g2 : DataW.trod enc Try.prog W 0 (fun _ => true) true m 4 [c2] = some x2 := by
        have f : DataW.trod enc Try.prog W 0 (fun _ => true) true m 4 (([c0, c1, c2].drop 2).take (Try.prog.cellsOf 4)) = some x2 := f2
        rw [k4] at f; exact f
      obtain ⟨s, d0, _, _⟩ := DataW.trod_string Try.underlying9 g0
      injection d0 with d0 _
      obtain ⟨ss, ra, rc, rfl, hi, _⟩ := intsW_open g1
      obtain ⟨y, d2, _, _⟩ := DataW.trod_bool Try.underlying4 g2
      injection d2 with d2 _
      subst d0 d2
      have a0 := hat 0 (by omega)
      have a1 := hat 1 (by omega)
      have a2 := hat 2 (by omega)
      obtain ⟨b, o, spot⟩ := a
      have hspot : spot = none := by simpa [Addr.add] using World.cell?_spot a0
      subst hspot
      rw [add_off] at a0 a1 a2
      exact ⟨(s, ss, y), b, o, rfl, by simpa using a0, ⟨ra, rc, by simpa using a1, hi⟩, by simpa using a2⟩) h
  exact ⟨l, a, c, e, ⟨hc, hl⟩, hm⟩
theorem slice_shape {t e : TypeId} {n : Nat} {v : Value} {x : DataW H × List MemPlace} (ht : Try.prog.underlying t = some (.slice e)) (h : DataW.trod enc Try.prog W 0 (fun _ => true) true n t [v] = some x) : ∃ a len cap, v = .slice a len cap := by
  rcases DataW.trod_slice ht h with ⟨h1, _⟩ | ⟨a, len, cap, _, _, _, _, h1, _⟩
  · injection h1 with h1 _; exact ⟨_, _, _, h1⟩
  · injection h1 with h1 _; exact ⟨_, _, _, h1⟩
/-- A specification that came in. -/
theorem open_spec9 {v : Value} {d : DataW H} {ps : List MemPlace} {base : Nat} (hv : Value.okWide Try.prog W .any base 27 v) (h : DataW.Trod enc Try.prog W 0 (fun _ => true) true 27 v d ps) :
    ∃ (s1 : Option Addr) (ns c1 : Nat) (F : List Fd) (fa : Option Addr) (fc : Nat) (a3 : Option Addr) (n3 c3 : Nat) (a4 : Option Addr) (n4 c4 : Nat), v = .agg #[.slice s1 ns c1, .slice fa F.length fc, .slice a3 n3 c3, .slice a4 n4 c4] ∧ Fields W fa fc F ∧ (F.length : Int) ≤ 9223372036854775807 := by
  obtain ⟨v0, v1, v2, v3, y0, y1, y2, y3, n, rfl, _, _, h0, h1, h2, h3⟩ := open_agg4 Try.underlying27 (by kernel_rfl) (by kernel_rfl) hv h
  obtain ⟨s1, ns, c1, rfl⟩ := slice_shape Try.underlying22 h0
  obtain ⟨F, fa, fc, rfl, hF, hm⟩ := fields_open9 h1
  obtain ⟨a3, n3, c3, rfl⟩ := slice_shape Try.underlying24 h2
  obtain ⟨a4, n4, c4, rfl⟩ := slice_shape Try.underlying25 h3
  exact ⟨s1, ns, c1, F, fa, fc, a3, n3, c3, a4, n4, c4, rfl, hF, hm⟩
/-- A scope that came in. -/
theorem open_scope9 {v : Value} {d : DataW H} {ps : List MemPlace} {base : Nat} (hv : Value.okWide Try.prog W .any base 30 v) (h : DataW.Trod enc Try.prog W 0 (fun _ => true) true 30 v d ps) :
    ∃ (us : List Int) (sa : Option Addr) (sc : Nat) (st : Int), v = .agg #[.slice sa us.length sc, .int .i64 st] ∧ Ints W sa sc us ∧ (us.length : Int) ≤ 9223372036854775807 := by
  obtain ⟨cs, rfl, hsz⟩ := okWide_struct Try.underlying30 hv
  have k30 : Try.prog.cellsOf 30 = 2 := by kernel_rfl
  have k28 : Try.prog.cellsOf 28 = 1 := by kernel_rfl
  have k3 : Try.prog.cellsOf 3 = 1 := by kernel_rfl
  obtain ⟨c0, c1, rfl⟩ := array2 (hsz.trans k30)
  obtain ⟨fuel, hf0⟩ := h
  obtain ⟨y0, y1, m', _, _, q0, q1⟩ := trod_struct2 Try.underlying30 hf0
  have e0 : DataW.trod enc Try.prog W 0 (fun _ => true) true m' 28 [c0] = some y0 := by
    have f : DataW.trod enc Try.prog W 0 (fun _ => true) true m' 28 (([c0, c1].drop 0).take (Try.prog.cellsOf 28)) = some y0 := q0
    rw [k28] at f; exact f
  have e1 : DataW.trod enc Try.prog W 0 (fun _ => true) true m' 3 [c1] = some y1 := by
    have f : DataW.trod enc Try.prog W 0 (fun _ => true) true m' 3 (([c0, c1].drop 1).take (Try.prog.cellsOf 3)) = some y1 := q1
    rw [k3] at f; exact f
  unfold Value.okWide at hv
  rw [Try.underlying30] at hv
  obtain ⟨cs, hcs, _, ts, hts, _, hrow⟩ := hv
  injection hcs with hcs
  subst hcs
  have hc : Try.prog.cellTypes Try.prog.depth 30 = some [28, 3] := by kernel_rfl
  rw [hc] at hts
  injection hts with hts
  subst hts
  obtain ⟨u, hu, hok⟩ := hrow 0 c0 rfl
  have hu28 : u = 28 := by simpa using hu.symm
  subst hu28
  obtain ⟨us, sa, sc, rfl, hi, hm⟩ := ints_open e0 hok
  obtain ⟨st, d1, _, _⟩ := DataW.trod_int Try.underlying3 e1
  injection d1 with d1 _
  subst d1
  exact ⟨us, sa, sc, st, rfl, hi, hm⟩
theorem open_slice1 {t e : TypeId} {v : Value} {d : DataW H} {ps : List MemPlace} {base : Nat} (ht : Try.prog.underlying t = some (.slice e)) (hv : Value.okWide Try.prog W .any base t v) (h : DataW.Trod enc Try.prog W 0 (fun _ => true) true t v d ps) : ∃ n x, DataW.trod enc Try.prog W 0 (fun _ => true) true n t [v] = some x := by
  obtain ⟨a, len, cap, rfl⟩ := okWide_slice ht hv
  obtain ⟨fuel, hf⟩ := h
  exact ⟨_, _, hf⟩
end

theorem trodAll_five9 {H : Type} {enc : TypeId × Value → H} {P : Program} {w : World} {base : Nat} {spare : Nat → Bool} {held : Bool} {t0 t1 t2 t3 t4 : TypeId} {args : Array Value} {ds : List (DataW H)} {ps : List MemPlace} (h : DataW.TrodAll enc P w base spare held [t0, t1, t2, t3, t4] args.toList ds ps) :
    ∃ v0 v1 v2 v3 v4 d0 d1 d2 d3 d4 p0 p1 p2 p3 p4, args = #[v0, v1, v2, v3, v4] ∧ ds = [d0, d1, d2, d3, d4] ∧ ps = p0 ++ p1 ++ p2 ++ p3 ++ p4 ∧ DataW.Trod enc P w base spare held t0 v0 d0 p0 ∧ DataW.Trod enc P w base spare held t1 v1 d1 p1 ∧ DataW.Trod enc P w base spare held t2 v2 d2 p2 ∧ DataW.Trod enc P w base spare held t3 v3 d3 p3 ∧ DataW.Trod enc P w base spare held t4 v4 d4 p4 := by
  obtain ⟨v0, r0, d0, e0, p0, q0, hargs, rfl, rfl, h0, k0⟩ := trodAll_cons h
  obtain ⟨v1, r1, d1, e1, p1, q1, rfl, rfl, rfl, h1, k1⟩ := trodAll_cons k0
  obtain ⟨v2, r2, d2, e2, p2, q2, rfl, rfl, rfl, h2, k2⟩ := trodAll_cons k1
  obtain ⟨v3, r3, d3, e3, p3, q3, rfl, rfl, rfl, h3, k3⟩ := trodAll_cons k2
  obtain ⟨v4, r4, d4, e4, p4, q4, rfl, rfl, rfl, h4, k4⟩ := trodAll_cons k3
  obtain ⟨rfl, rfl, rfl⟩ := trodAll_nil k4
  exact ⟨v0, v1, v2, v3, v4, d0, d1, d2, d3, d4, p0, p1, p2, p3, p4, by cases args; simp_all, rfl, by simp, h0, h1, h2, h3, h4⟩
theorem trodAll_six9 {H : Type} {enc : TypeId × Value → H} {P : Program} {w : World} {base : Nat} {spare : Nat → Bool} {held : Bool} {t0 t1 t2 t3 t4 t5 : TypeId} {args : Array Value} {ds : List (DataW H)} {ps : List MemPlace} (h : DataW.TrodAll enc P w base spare held [t0, t1, t2, t3, t4, t5] args.toList ds ps) :
    ∃ v0 v1 v2 v3 v4 v5 d0 d1 d2 d3 d4 d5 p0 p1 p2 p3 p4 p5, args = #[v0, v1, v2, v3, v4, v5] ∧ ds = [d0, d1, d2, d3, d4, d5] ∧ ps = p0 ++ p1 ++ p2 ++ p3 ++ p4 ++ p5 ∧ DataW.Trod enc P w base spare held t0 v0 d0 p0 ∧ DataW.Trod enc P w base spare held t1 v1 d1 p1 ∧ DataW.Trod enc P w base spare held t2 v2 d2 p2 ∧ DataW.Trod enc P w base spare held t3 v3 d3 p3 ∧ DataW.Trod enc P w base spare held t4 v4 d4 p4 ∧ DataW.Trod enc P w base spare held t5 v5 d5 p5 := by
  obtain ⟨v0, r0, d0, e0, p0, q0, hargs, rfl, rfl, h0, k0⟩ := trodAll_cons h
  obtain ⟨v1, r1, d1, e1, p1, q1, rfl, rfl, rfl, h1, k1⟩ := trodAll_cons k0
  obtain ⟨v2, r2, d2, e2, p2, q2, rfl, rfl, rfl, h2, k2⟩ := trodAll_cons k1
  obtain ⟨v3, r3, d3, e3, p3, q3, rfl, rfl, rfl, h3, k3⟩ := trodAll_cons k2
  obtain ⟨v4, r4, d4, e4, p4, q4, rfl, rfl, rfl, h4, k4⟩ := trodAll_cons k3
  obtain ⟨v5, r5, d5, e5, p5, q5, rfl, rfl, rfl, h5, k5⟩ := trodAll_cons k4
  obtain ⟨rfl, rfl, rfl⟩ := trodAll_nil k5
  exact ⟨v0, v1, v2, v3, v4, v5, d0, d1, d2, d3, d4, d5, p0, p1, p2, p3, p4, p5, by cases args; simp_all, rfl, by simp, h0, h1, h2, h3, h4, h5⟩
end Go.Proofs.Ytbddpjofhddilaa
