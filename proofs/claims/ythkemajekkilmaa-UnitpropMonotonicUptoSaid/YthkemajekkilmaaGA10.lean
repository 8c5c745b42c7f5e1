/- Stage 20, joined: R1, D0, U0, U1, T4. -/
import Derived.Test.YthkemajekkilmaaRows
import Derived.ProofKit
import Derived.OpenShut
import Derived.Stop.Joined
import Derived.SevenTiedAt
import Derived.Deep.Slices
import Derived.Deep.Strs
import Derived.ChangeSame
import Derived.Lib.SmallJoins
import Derived.Test.YthkemajekkilmaaGA00
import Derived.Laws.OwnMore
import Derived.Test.YthkemajekkilmaaGA09
import Derived.Test.YthkemajekkilmaaGA08
/- What comes in, opened. -/
namespace Go.Proofs.Ythkemajekkilmaa
open Go.ChangeShapes Go.WideShapes Go.ChangeAt Go.WideMaps Go.WideElems Go.RowKit Go.Deep Go.Joins

theorem own : ownKnob Try.prog.godebug = none := by kernel_rfl
theorem below_of {w w' : World} (h : w.grownBy w' none) : Below w.heap.size w w' := ⟨h.os, h.tape, h.output, h.size, fun k hk => h.block k hk (by simp)⟩
theorem laidOut : laidOutB Try.prog = true := by kernel_rfl
/-- Arguments of these types read on as they read, where nothing that lay has turned. -/
theorem trodAll_below' {H : Type} {enc : TypeId × Value → H} {P : Program} (hl : laidOutB P = true) {W W' : World} (hb : Below W.heap.size W W') : ∀ {ts : List TypeId} {vs : List Value} {ds : List (DataW H)} {ps : List MemPlace},
    (ts.all fun t => P.readableRec t && decide (t < P.types.size)) = true → DataW.TrodAll enc P W 0 (fun _ => true) true ts vs ds ps → (∀ x ∈ ps, x.block < W.heap.size) →
    DataW.TrodAll enc P W' 0 (fun b => decide (b < W.heap.size)) true ts vs ds ps
  | [], _, _, _, _, h, _ => by
    obtain ⟨rfl, rfl, rfl⟩ := trodAll_nil h
    exact trodAll_mk0
  | t :: ts, vs, ds, ps, ht, h, hlt => by
    obtain ⟨v, vs', d, ds', p, q, rfl, rfl, rfl, hd, hrest⟩ := trodAll_cons h
    simp only [List.all_cons, Bool.and_eq_true, decide_eq_true_eq] at ht
    exact ⟨p, q, Below.trod hl ht.1.1 ht.1.2 hd hb (fun x hx => hlt x (by simp [hx])), trodAll_below' hl hb (by simpa using ht.2) hrest (fun x hx => hlt x (by simp [hx])), rfl⟩
theorem trodAll_below {H : Type} {enc : TypeId × Value → H} {W W' : World} (hb : Below W.heap.size W W') {ts : List TypeId} {vs : List Value} {ds : List (DataW H)} {ps : List MemPlace}
    (ht : (ts.all fun t => Try.prog.readableRec t && decide (t < Try.prog.types.size)) = true) (h : DataW.TrodAll enc Try.prog W 0 (fun _ => true) true ts vs ds ps) (hlt : ∀ x ∈ ps, x.block < W.heap.size) :
    DataW.TrodAll enc Try.prog W' 0 (fun b => decide (b < W.heap.size)) true ts vs ds ps := trodAll_below' laidOut hb ht h hlt

theorem trodAll_five20 {H : Type} {enc : TypeId × Value → H} {P : Program} {w : World} {base : Nat} {spare : Nat → Bool} {held : Bool} {t0 t1 t2 t3 t4 : TypeId} {args : Array Value} {ds : List (DataW H)} {ps : List MemPlace} (h : DataW.TrodAll enc P w base spare held [t0, t1, t2, t3, t4] args.toList ds ps) :
    ∃ v0 v1 v2 v3 v4 d0 d1 d2 d3 d4 p0 p1 p2 p3 p4, args = #[v0, v1, v2, v3, v4] ∧ ds = [d0, d1, d2, d3, d4] ∧ ps = p0 ++ p1 ++ p2 ++ p3 ++ p4 ∧ DataW.Trod enc P w base spare held t0 v0 d0 p0 ∧ DataW.Trod enc P w base spare held t1 v1 d1 p1 ∧ DataW.Trod enc P w base spare held t2 v2 d2 p2 ∧ DataW.Trod enc P w base spare held t3 v3 d3 p3 ∧ DataW.Trod enc P w base spare held t4 v4 d4 p4 := by
  obtain ⟨v0, r0, d0, e0, p0, q0, hargs, rfl, rfl, h0, k0⟩ := trodAll_cons h
  obtain ⟨v1, r1, d1, e1, p1, q1, rfl, rfl, rfl, h1, k1⟩ := trodAll_cons k0
  obtain ⟨v2, r2, d2, e2, p2, q2, rfl, rfl, rfl, h2, k2⟩ := trodAll_cons k1
  obtain ⟨v3, r3, d3, e3, p3, q3, rfl, rfl, rfl, h3, k3⟩ := trodAll_cons k2
  obtain ⟨v4, r4, d4, e4, p4, q4, rfl, rfl, rfl, h4, k4⟩ := trodAll_cons k3
  obtain ⟨rfl, rfl, rfl⟩ := trodAll_nil k4
  exact ⟨v0, v1, v2, v3, v4, d0, d1, d2, d3, d4, p0, p1, p2, p3, p4, by cases args; simp_all, rfl, by simp, h0, h1, h2, h3, h4⟩
set_option maxRecDepth 100000
section
variable {H : Type} {enc : TypeId × Value → H} {W : World}
theorem add_off (b o j : Nat) : (⟨b, o, none⟩ : Addr).add j = ⟨b, o + j, none⟩ := by unfold Addr.add; split <;> simp_all
/-- A cell that reads as a slice, whose elements are opened by each. -/
theorem slice_open {t e k : Nat} {α : Type} [Inhabited α] (P : α → Nat → Nat → Prop) (ht : Try.prog.underlying t = some (.slice e)) (hk : Try.prog.cellsOf e = k)
    (each : ∀ (n : Nat) (a : Addr) (cs : List Value) (x : DataW H × List MemPlace), W.cells? 0 a k = some cs → DataW.trod enc Try.prog W 0 (fun _ => true) true n e cs = some x → ∃ (y : α) (b o : Nat), a = ⟨b, o, none⟩ ∧ P y b o)
    {n : Nat} {v : Value} {x : DataW H × List MemPlace} (h : DataW.trod enc Try.prog W 0 (fun _ => true) true n t [v] = some x) :
    ∃ (l : List α) (a : Option Addr) (c : Nat), v = .slice a l.length c ∧ l.length ≤ c ∧ (l.length : Int) ≤ 9223372036854775807 ∧ ∀ (j : Nat) (y : α), l[j]? = some y → ∃ b o, a = some ⟨b, o, none⟩ ∧ P y b (o + j * k) := by
  rcases open_slice ht h with ⟨hcs, _⟩ | ⟨a, len, cap, m, n', D, Pl, hcs, _, hl, hm, hmm, _, hx⟩
  · injection hcs with hcs _
    subst hcs
    exact ⟨[], none, 0, rfl, Nat.le_refl _, by simp, fun j y hj => by simp at hj⟩
  · injection hcs with hcs _
    subst hcs
    simp only [if_true] at hmm
    subst hmm
    have h1 : ∀ i, i < len → ∃ y : α, ∃ b o, a.add (i * k) = ⟨b, o, none⟩ ∧ P y b o := by
      intro i hi
      obtain ⟨cs', hc, ht'⟩ := hx i (by omega)
      rw [hk] at hc
      exact each _ _ _ _ hc ht'
    obtain ⟨f, hf⟩ := choose_lt h1
    have hlen : ((List.range len).map f).length = len := by simp
    refine ⟨(List.range len).map f, some a, m, by rw [hlen], by rw [hlen]; exact hl, by rw [hlen]; unfold maxLen at hm; omega, fun j y hj => ?_⟩
    have hjl : j < len := by have := (List.getElem?_eq_some_iff.1 hj).1; rwa [hlen] at this
    rw [List.getElem?_map, List.getElem?_range hjl] at hj
    simp only [Option.map_some, Option.some.injEq] at hj
    subst hj
    obtain ⟨b0, o0, e0, _⟩ := hf 0 (by omega)
    rw [Nat.zero_mul, show a.add 0 = a from rfl] at e0
    subst e0
    obtain ⟨b, o, e, hp⟩ := hf j hjl
    rw [add_off] at e
    simp only [Addr.mk.injEq, and_true] at e
    obtain ⟨rfl, rfl⟩ := e
    exact ⟨b0, o0, rfl, hp⟩
theorem trod_u8 {n : Nat} {v : Value} {y : DataW H × List MemPlace} (h : DataW.trod enc Try.prog W 0 (fun _ => true) true n 5 [v] = some y) : ∃ z : Nat, v = .int .u8 (z : Int) ∧ z < 256 := by
  obtain ⟨z, e0, _, wx⟩ := DataW.trod_int Try.underlying5 h
  injection e0 with e0 _
  subst e0
  have hw : 0 ≤ z ∧ z < 256 := by
    simp [Lit.wf, IntKind.min, IntKind.max, IntKind.bits, IntKind.signed] at wx
    omega
  exact ⟨z.toNat, by rw [Int.toNat_of_nonneg hw.1], by omega⟩
/-- A cell of a structure's row, alone. -/
theorem one_of {t : TypeId} {n i : Nat} {cs : List Value} {v : Value} {y : DataW H × List MemPlace} (hk : Try.prog.cellsOf t = 1) (h : DataW.trod enc Try.prog W 0 (fun _ => true) true n t ((cs.drop i).take (Try.prog.cellsOf t)) = some y) (hc : (cs.drop i).take 1 = [v]) :
    DataW.trod enc Try.prog W 0 (fun _ => true) true n t [v] = some y := by
  rw [hk, hc] at h
  exact h
theorem addr_plain {a : Addr} {w : World} {v : Value} {j : Nat} (h : w.cell? (a.add j) = some v) (hj : j = 0) : ∃ b o, a = ⟨b, o, none⟩ := by
  subst hj
  obtain ⟨b, o, spot⟩ := a
  have hspot : spot = none := by simpa [Addr.add] using World.cell?_spot h
  subst hspot
  exact ⟨b, o, rfl⟩
theorem open_u8 {v : Value} {d : DataW H} {ps : List MemPlace} {base : Nat} (hv : Value.okWide Try.prog W .any base 5 v) (h : DataW.Trod enc Try.prog W 0 (fun _ => true) true 5 v d ps) : ∃ z : Nat, v = .int .u8 (z : Int) ∧ z < 256 := by
  obtain ⟨x, rfl, _, _, wx⟩ := open_int Try.underlying5 hv h
  have hw : 0 ≤ x ∧ x < 256 := by
    simp [Lit.wf, IntKind.min, IntKind.max, IntKind.bits, IntKind.signed] at wx
    omega
  exact ⟨x.toNat, by rw [Int.toNat_of_nonneg hw.1], by omega⟩
theorem ints_open {n : Nat} {v : Value} {x : DataW H × List MemPlace} (h : DataW.trod enc Try.prog W 0 (fun _ => true) true n 25 [v] = some x) :
    ∃ (l : List Int) (a : Option Addr) (c : Nat), v = .slice a l.length c ∧ IntsW W a c l ∧ (l.length : Int) ≤ 9223372036854775807 := by
  obtain ⟨l, a, c, e, hc, hm, hl⟩ := slice_open (α := Int) (k := 1) (fun z b o => W.cell? ⟨b, o, none⟩ = some (.int .i64 z)) Try.underlying25 (by kernel_rfl) (fun n a cs x hc h => by
    obtain ⟨_, hlen, hat⟩ := World.cells?_some hc
    match cs, hlen with
    | [c0], _ =>
      obtain ⟨z, e0, _, _⟩ := DataW.trod_int Try.underlying3 h
      injection e0 with e0 _
      subst e0
      have a0 := hat 0 (by omega)
      obtain ⟨b, o, rfl⟩ := addr_plain a0 rfl
      exact ⟨z, b, o, rfl, by simpa [Addr.add] using a0⟩) h
  refine ⟨l, a, c, e, ⟨hc, ?_⟩, hm⟩
  cases l with
  | nil => exact .inl rfl
  | cons z l =>
    obtain ⟨b, o, rfl, _⟩ := hl 0 z rfl
    refine .inr ⟨b, o, rfl, fun j y hj => ?_⟩
    obtain ⟨b', o', e', hc'⟩ := hl j y hj
    cases e'
    rw [Nat.mul_one] at hc'
    exact hc'
theorem cls_open {n : Nat} {v : Value} {x : DataW H × List MemPlace} (h : DataW.trod enc Try.prog W 0 (fun _ => true) true n 22 [v] = some x) :
    ∃ (l : List (List Int)) (a : Option Addr) (c : Nat), v = .slice a l.length c ∧ ClsW W a c l ∧ (l.length : Int) ≤ 9223372036854775807 ∧ ∀ z ∈ l, (z.length : Int) ≤ 9223372036854775807 := by
  obtain ⟨l, a, c, e, hc, hm, hl⟩ := slice_open (α := List Int) (k := 1) (fun z b o => (∃ a' c', W.cell? ⟨b, o, none⟩ = some (.slice a' z.length c') ∧ IntsW W a' c' z) ∧ (z.length : Int) ≤ 9223372036854775807) Try.underlying22 (by kernel_rfl) (fun n a cs x hc h => by
    obtain ⟨_, hlen, hat⟩ := World.cells?_some hc
    match cs, hlen with
    | [c0], _ =>
      obtain ⟨z, a', c', rfl, hz, hzl⟩ := ints_open h
      have a0 := hat 0 (by omega)
      obtain ⟨b, o, rfl⟩ := addr_plain a0 rfl
      exact ⟨z, b, o, rfl, ⟨a', c', by simpa [Addr.add] using a0, hz⟩, hzl⟩) h
  refine ⟨l, a, c, e, ⟨hc, ?_⟩, hm, fun z hz => ?_⟩
  · cases l with
    | nil => exact .inl rfl
    | cons z l =>
      obtain ⟨b, o, rfl, _⟩ := hl 0 z rfl
      refine .inr ⟨b, o, rfl, fun j y hj => ?_⟩
      obtain ⟨b', o', e', hc', _⟩ := hl j y hj
      cases e'
      rw [Nat.mul_one] at hc'
      exact hc'
  · obtain ⟨i, hi⟩ := List.mem_iff_getElem?.1 hz
    obtain ⟨_, _, _, _, h2⟩ := hl i z hi
    exact h2
theorem open_cnf {v : Value} {d : DataW H} {ps : List MemPlace} {base : Nat} (hv : Value.okWide Try.prog W .any base 24 v) (h : DataW.Trod enc Try.prog W 0 (fun _ => true) true 24 v d ps) :
    ∃ (x : Int) (l : List (List Int)) (a : Option Addr) (c : Nat), v = .agg #[.int .i64 x, .slice a l.length c] ∧ ClsW W a c l ∧ (l.length : Int) ≤ 9223372036854775807 ∧ ∀ z ∈ l, (z.length : Int) ≤ 9223372036854775807 := by
  obtain ⟨cs, rfl, hsz⟩ := okWide_struct Try.underlying24 hv
  have k24 : Try.prog.cellsOf 24 = 2 := by kernel_rfl
  have k3 : Try.prog.cellsOf 3 = 1 := by kernel_rfl
  have k22 : Try.prog.cellsOf 22 = 1 := by kernel_rfl
  obtain ⟨c0, c1, rfl⟩ : ∃ c0 c1, cs = #[c0, c1] := by
    obtain ⟨l⟩ := cs
    have hsz2 := hsz.trans k24
    match l, hsz2 with
    | [c0, c1], _ => exact ⟨c0, c1, rfl⟩
  obtain ⟨fuel, hf0⟩ := h
  obtain ⟨xs, n, _, _, _, hlen, hf⟩ := DataW.trod_struct Try.underlying24 hf0
  match xs, hlen, hf with
  | [y0, y1], _, hf =>
    have f0 := hf 0 _ rfl
    have f1 := hf 1 _ rfl
    obtain ⟨z, e0, _, _⟩ := DataW.trod_int Try.underlying3 (one_of (v := c0) k3 f0 rfl)
    injection e0 with e0 _
    subst e0
    obtain ⟨l, a, c, rfl, h1, h2, h3⟩ := cls_open (one_of (v := c1) k22 f1 rfl)
    exact ⟨z, l, a, c, rfl, h1, h2, h3⟩
theorem open_ints {v : Value} {d : DataW H} {ps : List MemPlace} {base : Nat} (hv : Value.okWide Try.prog W .any base 25 v) (h : DataW.Trod enc Try.prog W 0 (fun _ => true) true 25 v d ps) :
    ∃ (l : List Int) (a : Option Addr) (c : Nat), v = .slice a l.length c ∧ IntsW W a c l ∧ (l.length : Int) ≤ 9223372036854775807 := by
  obtain ⟨ra, rn, rc, rfl⟩ := okWide_slice Try.underlying25 hv
  obtain ⟨fuel, hf0⟩ := h
  exact ints_open hf0
theorem open_cls {v : Value} {d : DataW H} {ps : List MemPlace} {base : Nat} (hv : Value.okWide Try.prog W .any base 22 v) (h : DataW.Trod enc Try.prog W 0 (fun _ => true) true 22 v d ps) :
    ∃ (l : List (List Int)) (a : Option Addr) (c : Nat), v = .slice a l.length c ∧ ClsW W a c l ∧ (l.length : Int) ≤ 9223372036854775807 ∧ ∀ z ∈ l, (z.length : Int) ≤ 9223372036854775807 := by
  obtain ⟨ra, rn, rc, rfl⟩ := okWide_slice Try.underlying22 hv
  obtain ⟨fuel, hf0⟩ := h
  exact cls_open hf0
end
end Go.Proofs.Ythkemajekkilmaa
/- What the laws share. -/
namespace Go.Proofs.Ythkemajekkilmaa
open Go.RowKit
theorem small_true {V : Int} {C : List (List Int)} (h : smallB V C = true) : ∃ v : Nat, V = (v : Int) ∧ v ≤ 8 ∧ C.length ≤ 40 ∧ (∀ c ∈ C, c.length ≤ 12) ∧ Ran v C := by
  unfold smallB validB at h
  simp only [Bool.and_eq_true, decide_eq_true_eq, List.all_eq_true] at h
  obtain ⟨⟨⟨h1, h2⟩, h3⟩, h4, h5⟩ := h
  refine ⟨V.toNat, by omega, by omega, h2, h3, fun c hc => inR_of (List.all_eq_true.2 fun x hx => ?_)⟩
  rw [Int.toNat_of_nonneg h4]
  exact h5 c hc x hx
theorem fits_true {v : Nat} {A : List Int} (h : fitsB (v : Int) A = true) : A.length ≤ 12 ∧ ∀ x ∈ A, InR v x := by
  unfold fitsB at h
  simp only [Bool.and_eq_true, decide_eq_true_eq] at h
  exact ⟨h.1, inR_of h.2⟩
/-- An append of a row of integers. -/
theorem wpList_appI {ops : Array Oper} {rest : List Oper} {o : Oper} {a : Act} {Q : Exit → Act → World → Prop} {w : World} (hgd : o.guard = none) (s x : Operand) (ho : o.op = .call { callee := .builtin .append, args := #[s, x], argTypes := #[25, 25] })
    (B : Nat) (sa : Option Addr) (sc n : Nat) (xs ys : List Int) (xa : Option Addr) (xc m : Nat) (hs : a.eval s = .slice sa n sc) (hx : a.eval x = .slice xa m xc)
    (hown : w.ownsRow B 3 1 (.slice sa n sc) n (intCells xs)) (hy : IntsW w xa xc ys) (hm : ys.length = m) (hnm : n + m ≤ 100000) (hB : B ≤ w.heap.size) (zs : List Int) (hzs : xs ++ ys = zs) (nm : Nat) (hsum : n + m = nm)
    (h : ∀ ra rc w', w'.ownsRow B 3 1 (.slice ra nm rc) nm (intCells zs) → w.grownBy w' (Value.slice sa n sc).ownBlock → wpList Try.prog ops Q rest (a.put o.dst (.slice ra nm rc)) w') :
    wpList Try.prog ops Q (o :: rest) a w := by
  subst hzs hsum
  obtain ⟨i0, hi0, hz0, hz1, hz2⟩ := info_parts info3
  cases xa with
  | none =>
    have hy0 : ys = [] := by
      rcases hy.2 with h1 | ⟨b, o, h1, _⟩
      · exact h1
      · cases h1
    subst hy0
    subst hm
    refine wpList_plain hgd fun K hK => ?_
    have hrun : (Builtin.append_ #[25, 25] o.type #[.slice sa n sc, .slice none 0 xc]).run Try.prog w = .ok (.slice sa n sc) w := by
      rcases hown.2 with ⟨h1, rfl⟩ | ⟨g, cap, cur, h1, _, _, hnc, _⟩
      · injection h1 with e1 _ e3
        subst e1 e3
        simp [Builtin.append_, run_underlying Try.underlying25, sizeOf, typeInfo, hi0, Builtin.lenOf, Builtin.firstCells]
      · injection h1 with e1 _ e3
        subst e1 e3
        simp [Builtin.append_, run_underlying Try.underlying25, sizeOf, typeInfo, hi0, Builtin.lenOf, Builtin.firstCells, hnc, storeCells]
    unfold Oper.wp
    simp [execOp, ho, resolve, invoke, builtin, hs, hx, hrun, Result.andThen]
    refine hK _ _ ?_
    have := h sa sc w (by simpa using hown) ⟨rfl, rfl, rfl, Nat.le_refl _, fun _ _ _ => rfl⟩
    simpa using this
  | some ad =>
    refine wpList_append_own_at w hgd s x 25 ho B 3 i0 (.int .i64 0) 1 8 Try.underlying25 hi0 hz0 hz1 hz2 rfl (by decide) _ n (intCells xs) hs hown ad m xc (intCells ys) hx (by simp [intCells, hm]) (fun j u hj => ?_) (fun u hu => ?_) (by unfold maxLen; omega) (by omega) hB ?_
    · rcases hy.2 with h1 | ⟨b, o', h1, h2⟩
      · subst h1; simp [intCells] at hj
      · injection h1 with h1
        subst h1
        rw [add_off]
        unfold intCells at hj
        rw [List.getElem?_map] at hj
        cases hz : ys[j]? with
        | none => rw [hz] at hj; cases hj
        | some z =>
          rw [hz] at hj
          injection hj with hj
          rw [← hj]
          exact h2 j z hz
    · obtain ⟨z, _, rfl⟩ := List.mem_map.1 hu
      rfl
    · intro v' w' hown' hg' _ _
      obtain ⟨ra, rc, rfl⟩ := own_shape hown'
      exact h ra rc w' (by rw [intCells, List.map_append]; exact hown') hg'
/-- An empty row that is made. -/
theorem own_empty (w : World) : (w.alloc (.cells #[] 3)).ownsRow w.heap.size 3 1 (.slice (some ⟨w.heap.size, 0, none⟩) 0 0) 0 (intCells []) := World.ownsRow_lit w #[] 0 (Nat.le_refl _) (by unfold maxLen; omega) rfl
theorem own_ints {w : World} {B : Nat} {a : Option Addr} {c n : Nat} {l : List Int} (h : w.ownsRow B 3 1 (.slice a n c) n (intCells l)) : l.length = n ∧ IntsW w a c l := by
  have hl : l.length = n := by have := h.1; simpa [intCells] using this
  refine ⟨hl, irow_ints (B := B) ?_⟩
  unfold IRow
  rw [hl]
  exact h
theorem all_inRb {v : Nat} {A : List Int} (h : ∀ x ∈ A, InR v x) : A.all (inRb (v : Int)) = true := by
  rw [List.all_eq_true]
  intro x hx
  obtain ⟨a0, a1, a2⟩ := h x hx
  unfold inRb
  simp only [Bool.and_eq_true, Bool.not_eq_true', beq_eq_false_iff_ne, decide_eq_true_eq]
  exact ⟨⟨a0, a1⟩, a2⟩
/-- What an assignment lays is read. -/
theorem bw_own {w : World} {B : Nat} {a : Option Addr} {c n : Nat} {vs : List Bool} (h : w.ownsRow B 4 1 (.slice a n c) n (blC vs)) : vs.length = n ∧ BW w a c vs := by
  have hl : vs.length = n := by have := h.1; simpa [blC] using this
  refine ⟨hl, ?_⟩
  rcases h.2 with ⟨h1, h2⟩ | ⟨g, cap, cur, h1, _, hc, hn, _, hs, ht⟩
  · injection h1 with e1 _ e3
    have hv : vs = [] := List.eq_nil_of_length_eq_zero (by omega)
    subst hv
    exact ⟨by simp, .inl rfl⟩
  · injection h1 with e1 _ e3
    subst e1 e3
    refine ⟨by omega, .inr ⟨g, 0, rfl, fun j z hj => ?_⟩⟩
    have hjl := (List.getElem?_eq_some_iff.1 hj).1
    have h3 : (blC vs)[j]? = some (.bool z) := by simp [blC, hj]
    rw [← ht, List.getElem?_take] at h3
    rw [if_pos (by omega)] at h3
    unfold World.cell?
    rw [Nat.zero_add, hc]
    simpa using h3
theorem asg_len (V : Nat) (m : Int) : (asgP V m).length = V := by unfold asgP; rw [List.length_map, List.length_range]
theorem held_two {w a b : World} {x y : Addr} {u v : Value} (hg : a.grownBy b none) (h0 : w.grownBy a none) (h1 : a.cell? x = some u) (h2 : a.cell? y = some v) : w.grownBy b none ∧ b.cell? x = some u ∧ b.cell? y = some v :=
  ⟨World.grownBy.trans h0 hg, hg.cell h1 (by simp), hg.cell h2 (by simp)⟩
end Go.Proofs.Ythkemajekkilmaa
/- A row of rows that is made. -/
namespace Go.Proofs.Ythkemajekkilmaa
open Go.RowKit
theorem info25 : (Try.prog.info? 25).map (fun i => (i.zero, i.size, i.bytes)) = some (some (.slice none 0 0), 1, 24) := by kernel_rfl
/-- The clauses in another order, each backwards. -/
def turnP (C : List (List Int)) (y : Nat) : List (List Int) := (List.range C.length).map fun i => (C.getD ((i + y) % C.length) []).reverse
theorem turn_len (C : List (List Int)) (y : Nat) : (turnP C y).length = C.length := by unfold turnP; rw [List.length_map, List.length_range]
theorem turn_at {C : List (List Int)} (y : Nat) {i : Nat} (h : i < C.length) : (turnP C y)[i]? = some (C.getD ((i + y) % C.length) []).reverse := by
  unfold turnP; rw [List.getElem?_map, List.getElem?_range h]; rfl
theorem getD_mem {C : List (List Int)} {j : Nat} (h : j < C.length) : C.getD j [] ∈ C := by
  rw [List.getD_eq_getElem?_getD, List.getElem?_eq_getElem h]
  exact List.getElem_mem h
theorem turn_from (C : List (List Int)) (y : Nat) : ∀ d ∈ turnP C y, ∃ c ∈ C, ∀ x, x ∈ d ↔ x ∈ c := by
  intro d hd
  obtain ⟨i, hi⟩ := List.mem_iff_getElem?.1 hd
  have hl := (List.getElem?_eq_some_iff.1 hi).1
  rw [turn_len] at hl
  rw [turn_at y hl] at hi
  injection hi with hi
  subst hi
  exact ⟨_, getD_mem (Nat.mod_lt _ (by omega)), fun x => List.mem_reverse⟩
theorem turn_onto (C : List (List Int)) (y : Nat) : ∀ c ∈ C, ∃ d ∈ turnP C y, ∀ x, x ∈ c ↔ x ∈ d := by
  intro c hc
  obtain ⟨j, hj⟩ := List.mem_iff_getElem?.1 hc
  have hl := (List.getElem?_eq_some_iff.1 hj).1
  have hn : 0 < C.length := by omega
  have hi : (j + (C.length - y % C.length)) % C.length < C.length := Nat.mod_lt _ hn
  have he : ((j + (C.length - y % C.length)) % C.length + y) % C.length = j := by
    have h1 : y % C.length < C.length := Nat.mod_lt _ hn
    have h2 : j + (C.length - y % C.length) + y = j + C.length * (1 + y / C.length) := by
      have := Nat.div_add_mod y C.length
      rw [Nat.mul_add, Nat.mul_one]
      omega
    rw [Nat.add_mod, Nat.mod_mod, ← Nat.add_mod, h2, Nat.add_mul_mod_self_left]
    exact Nat.mod_eq_of_lt hl
  have h3 := turn_at (C := C) y hi
  rw [he] at h3
  refine ⟨_, List.mem_of_getElem? h3, fun x => ?_⟩
  rw [List.mem_reverse, List.getD_eq_getElem?_getD, hj]
  rfl
theorem turn_ran {V : Nat} {C : List (List Int)} (hR : Ran V C) (y : Nat) : Ran V (turnP C y) := fun d hd x hx => by
  obtain ⟨c, hc, h⟩ := turn_from C y d hd
  exact hR c hc x ((h x).1 hx)
theorem turn_short {C : List (List Int)} {m : Nat} (h : ∀ c ∈ C, c.length ≤ m) (y : Nat) : ∀ d ∈ turnP C y, d.length ≤ m := by
  intro d hd
  obtain ⟨i, hi⟩ := List.mem_iff_getElem?.1 hd
  have hl := (List.getElem?_eq_some_iff.1 hi).1
  rw [turn_len] at hl
  rw [turn_at y hl] at hi
  injection hi with hi
  subst hi
  rw [List.length_reverse]
  exact h _ (getD_mem (Nat.mod_lt _ (by omega)))
theorem take_snocG {α : Type} {L : List α} {k : Nat} {z : α} (hz : L[k]? = some z) : L.take (k + 1) = L.take k ++ [z] := by
  obtain ⟨hlt, e⟩ := List.getElem?_eq_some_iff.1 hz
  rw [List.take_succ_eq_append_getElem hlt, e]
theorem rev_step {z : List Int} {i l : Nat} {x : Int} (hl : z.length = l) (hx : z[i]? = some x) : z.reverse.take (l - i) = z.reverse.take (l - (i + 1)) ++ [x] := by
  have hi := (List.getElem?_eq_some_iff.1 hx).1
  have h1 : z.reverse[l - (i + 1)]? = some x := by
    rw [List.getElem?_reverse (by omega), hl, show l - 1 - (l - (i + 1)) = i from by omega, hx]
  have h2 := take_snocG h1
  rw [show l - (i + 1) + 1 = l - i from by omega] at h2
  exact h2
/-- A row of rows, all of them made. -/
def OC (B : Nat) (w : World) (a : Option Addr) (c n : Nat) (zs : List (List Int)) : Prop :=
  zs.length = n ∧ ∃ vs : List Value, w.ownsRow B 25 1 (.slice a n c) n vs ∧ ∀ (i : Nat) (z : List Int), zs[i]? = some z → ∃ a' c', vs[i]? = some (.slice a' z.length c') ∧ w.ownsRow B 3 1 (.slice a' z.length c') z.length (intCells z)
theorem own_kinds {w : World} {B B' n n' s s' : Nat} {e e' : TypeId} {v v' : Value} {xs xs' : List Value} (h : w.ownsRow B e s v n xs) (h' : w.ownsRow B' e' s' v' n' xs') (hne : e ≠ e') : v.ownBlock = none ∨ v.ownBlock ≠ v'.ownBlock := by
  rcases h.2 with ⟨rfl, _⟩ | ⟨g, cap, cur, rfl, _, hc, _⟩
  · exact .inl rfl
  · right
    rcases h'.2 with ⟨rfl, _⟩ | ⟨g', cap', cur', rfl, _, hc', _⟩
    · intro e; cases e
    · intro e1
      have : g = g' := by injection e1
      subst this
      rw [hc] at hc'
      injection hc' with hc'
      injection hc' with _ h1 _
      exact hne h1
theorem OC.nil (B : Nat) (w : World) : OC B w none 0 0 [] := ⟨rfl, [], ⟨rfl, .inl ⟨rfl, rfl⟩⟩, fun i z hz => by simp at hz⟩
theorem OC.grown {B : Nat} {w w' : World} {a : Option Addr} {c n : Nat} {zs : List (List Int)} {r : Option Nat} (h : OC B w a c n zs) (hg : w.grownBy w' r) (hr : ∀ b, r = some b → b < B) : OC B w' a c n zs := by
  have hk : ∀ {e : TypeId} {s m : Nat} {v : Value} {xs : List Value}, w.ownsRow B e s v m xs → v.ownBlock = none ∨ v.ownBlock ≠ r := fun {e s m v xs} ho => by
    cases r with
    | none => cases hv : v.ownBlock <;> simp
    | some b => exact own_ne ho (hr b rfl)
  obtain ⟨h1, vs, h2, h3⟩ := h
  refine ⟨h1, vs, h2.kept hg (hk h2), fun i z hz => ?_⟩
  obtain ⟨a', c', h4, h5⟩ := h3 i z hz
  exact ⟨a', c', h4, h5.kept hg (hk h5)⟩
theorem OC.cls {B : Nat} {w : World} {a : Option Addr} {c n : Nat} {zs : List (List Int)} (h : OC B w a c n zs) : ClsW w a c zs := by
  obtain ⟨h1, vs, h2, h3⟩ := h
  rcases h2.2 with ⟨_, h0⟩ | ⟨g, cap, cur, e, _, _, hn, _⟩
  · exact ⟨by omega, .inl (List.eq_nil_of_length_eq_zero (by omega))⟩
  · injection e with e1 _ e3
    subst e1 e3
    refine ⟨by omega, .inr ⟨g, 0, rfl, fun j z hz => ?_⟩⟩
    obtain ⟨a', c', h4, h5⟩ := h3 j z hz
    have hj := (List.getElem?_eq_some_iff.1 hz).1
    refine ⟨a', c', ?_, (own_ints h5).2⟩
    rw [Nat.zero_add, World.ownsRow.cellAt h2 j (by omega), h4]
theorem OC.push {B : Nat} {w w' : World} {a : Option Addr} {c n : Nat} {zs : List (List Int)} (h : OC B w a c n zs) {z : List Int} {a' : Option Addr} {c' : Nat} (hz : w.ownsRow B 3 1 (.slice a' z.length c') z.length (intCells z)) {ra : Option Addr} {rc : Nat}
    {vs : List Value} (h2 : w.ownsRow B 25 1 (.slice a n c) n vs) (hv : ∀ (i : Nat) (z : List Int), zs[i]? = some z → ∃ a' c', vs[i]? = some (.slice a' z.length c') ∧ w.ownsRow B 3 1 (.slice a' z.length c') z.length (intCells z))
    (hown : w'.ownsRow B 25 1 (.slice ra (n + 1) rc) (n + 1) (vs ++ [.slice a' z.length c'])) (hg : w.grownBy w' (Value.slice a n c).ownBlock) : OC B w' ra rc (n + 1) (zs ++ [z]) := by
  have hvl : vs.length = n := by have := h2.1; omega
  refine ⟨by rw [List.length_append, h.1]; rfl, _, hown, fun i y hy => ?_⟩
  rw [List.getElem?_append] at hy
  split at hy
  · rename_i hlt
    obtain ⟨a1, c1, h4, h5⟩ := hv i y hy
    exact ⟨a1, c1, by rw [List.getElem?_append_left (by have := h.1; omega)]; exact h4, h5.kept hg (own_kinds h5 h2 (by decide))⟩
  · rename_i hge
    have hi : i - zs.length = 0 := by
      have := (List.getElem?_eq_some_iff.1 hy).1
      simp at this
      omega
    rw [hi] at hy
    simp at hy
    subst hy
    exact ⟨a', c', by rw [List.getElem?_append_right (by have := h.1; omega), show i - vs.length = 0 from by have := h.1; omega]; rfl, hz.kept hg (own_kinds hz h2 (by decide))⟩
end Go.Proofs.Ythkemajekkilmaa
/- The formula in another order. -/
namespace Go.Proofs.Ythkemajekkilmaa
open Go.RowKit
structure TS (W1 : World) (V : Int) (sb rb B : Nat) (T : List (List Int)) (w : World) (k : Nat) (a : Option Addr) (c : Nat) : Prop where
  g : W1.grownBy w none
  s0 : w.cell? ⟨sb, 0, none⟩ = some (.int .i64 V)
  s1 : w.cell? ⟨sb, 1, none⟩ = some (.slice a k c)
  sf : ∀ o, w.frozen? ⟨sb, o, none⟩ = false
  r0 : w.cell? ⟨rb, 0, none⟩ = some (.int .i64 0)
  r1 : w.cell? ⟨rb, 1, none⟩ = some (.slice none 0 0)
  rf : ∀ o, w.frozen? ⟨rb, o, none⟩ = false
  oc : OC B w a c k (T.take k)
  hB : B ≤ w.heap.size
  lt : W1.heap.size ≤ rb ∧ rb < sb ∧ sb < B
theorem TS.grown {W1 : World} {V : Int} {sb rb B : Nat} {T : List (List Int)} {w w' : World} {k : Nat} {a : Option Addr} {c : Nat} (h : TS W1 V sb rb B T w k a c) (hg : w.grownBy w' none) : TS W1 V sb rb B T w' k a c :=
  ⟨World.grownBy.trans h.g hg, hg.cell h.s0 (by simp), hg.cell h.s1 (by simp), fun o => (grown_frozen hg (lies_lt h.s0) o).trans (h.sf o), hg.cell h.r0 (by simp), hg.cell h.r1 (by simp), fun o => (grown_frozen hg (lies_lt h.r0) o).trans (h.rf o), h.oc.grown hg (fun b e => by cases e), Nat.le_trans h.hB hg.size, h.lt⟩
theorem TS.push {W1 : World} {V : Int} {sb rb B : Nat} {T : List (List Int)} {w w1 : World} {k : Nat} {a : Option Addr} {c : Nat} (h : TS W1 V sb rb B T w k a c) {z : List Int} (hT : T[k]? = some z) {a' : Option Addr} {c' : Nat} (hz : w.ownsRow B 3 1 (.slice a' z.length c') z.length (intCells z)) {ra : Option Addr} {rc : Nat}
    {vs : List Value} (h2 : w.ownsRow B 25 1 (.slice a k c) k vs) (hv : ∀ (i : Nat) (z : List Int), (T.take k)[i]? = some z → ∃ a' c', vs[i]? = some (.slice a' z.length c') ∧ w.ownsRow B 3 1 (.slice a' z.length c') z.length (intCells z))
    (hown : w1.ownsRow B 25 1 (.slice ra (k + 1) rc) (k + 1) (vs ++ [.slice a' z.length c'])) (hg : w.grownBy w1 (Value.slice a k c).ownBlock) : TS W1 V sb rb B T (w1.setCell ⟨sb, 1, none⟩ (.slice ra (k + 1) rc)) (k + 1) ra rc := by
  obtain ⟨l1, l2, l3⟩ := h.lt
  have hb : ∀ b, b < B → some b ≠ (Value.slice a k c).ownBlock := fun b hb e => by
    have := own_low h2 b e.symm
    omega
  have hgs := grown_set w1 sb 1 (.slice ra (k + 1) rc)
  have e0 := hg.cell h.s0 (hb sb l3)
  have hblk : ∀ o, w1.frozen? ⟨sb, o, none⟩ = false := fun o => (World.frozen?_of_block (a := ⟨sb, o, none⟩) (hg.block sb (lies_lt h.s0) (hb sb l3))).trans (h.sf o)
  have hblr : ∀ o, w1.frozen? ⟨rb, o, none⟩ = false := fun o => (World.frozen?_of_block (a := ⟨rb, o, none⟩) (hg.block rb (lies_lt h.r0) (hb rb (by omega)))).trans (h.rf o)
  have hoc := (h.oc.push hz h2 hv hown hg).grown hgs (fun b e => by cases e; exact l3)
  refine ⟨grown_own (grown_own h.g hg (fun b e => by have := own_low h2 b e; omega)) hgs (fun b e => by cases e; omega), ?_, World.cell?_setCell_same _ _ _ (hg.cell h.s1 (hb sb l3)), fun o => by rw [World.frozen?_setCell]; exact hblk o, hgs.cell (hg.cell h.r0 (hb rb (by omega))) (by simp; omega), hgs.cell (hg.cell h.r1 (hb rb (by omega))) (by simp; omega), fun o => by rw [World.frozen?_setCell]; exact hblr o, ?_, Nat.le_trans h.hB (Nat.le_trans hg.size hgs.size), h.lt⟩
  · rw [World.cell?_setCell_other]
    · exact e0
    · intro e; cases e
  · rw [take_snocG hT]; exact hoc
theorem frozen_new (w : World) (cs : Array Value) (e : TypeId) (o : Nat) : (w.alloc (.cells cs e)).frozen? ⟨w.heap.size, o, none⟩ = false := by go_simp
theorem set_same2 (w : World) (a b : Value) (e : TypeId) : (w.alloc (.cells #[a, b] e)).setCell ⟨w.heap.size, 1, none⟩ b = w.alloc (.cells #[a, b] e) := by go_simp
set_option maxHeartbeats 16000000 in
set_option maxRecDepth 100000 in
theorem turned_calls (V : Nat) (C : List (List Int)) (ca : Option Addr) (cc : Nat) (y : Nat) (w : World) (h : ClsW w ca cc C) (hC : C.length ≤ 1000) (hL : ∀ c ∈ C, c.length ≤ 100) (hy : y < 256) :
    Calls Try.prog 29 #[.agg #[.int .i64 (V : Int), .slice ca C.length cc], .int .u8 (y : Int)] w fun e w' => ∃ a c, e = .returned (.agg #[.int .i64 (V : Int), .slice a C.length c]) ∧ ClsW w' a c (turnP C y) ∧ w.grownBy w' none := by
  obtain ⟨n, hn⟩ : ∃ n, C.length = n := ⟨_, rfl⟩
  obtain ⟨W1, hW1⟩ : ∃ z, w.alloc (.cells #[.int .i64 (V : Int), .slice ca n cc] 24) = z := ⟨_, rfl⟩
  obtain ⟨q0, q1, hg1⟩ := box_at w _ _ hW1
  obtain ⟨bf, hbf⟩ : ∃ z, w.heap.size = z := ⟨_, rfl⟩
  rw [hbf] at q0 q1
  have HC := Lib.hid (And.intro (h.grown hg1) (And.intro hn hL))
  have HQ1 := Lib.hid q1
  have HG1 := Lib.hid hg1
  rw [hn] at hC ⊢
  obtain ⟨T, hT⟩ : ∃ T, turnP C y = T := ⟨_, rfl⟩
  have HTT := Lib.hid hT
  rw [hT]
  clear hT
  clear h hL hn hg1
  obtain ⟨W2, hW2⟩ : ∃ z, W1.alloc (.cells #[.int .i64 0, .slice none 0 0] 24) = z := ⟨_, rfl⟩
  obtain ⟨W3, hW3⟩ : ∃ z, W2.alloc (.cells #[.int .i64 (V : Int), .slice none 0 0] 24) = z := ⟨_, rfl⟩
  obtain ⟨r0, r1, hg2⟩ := box_at W1 _ _ hW2
  obtain ⟨s0, s1, hg3⟩ := box_at W2 _ _ hW3
  have rf : ∀ o, W2.frozen? ⟨W1.heap.size, o, none⟩ = false := fun o => by rw [← hW2]; exact frozen_new _ _ _ o
  have sf : ∀ o, W3.frozen? ⟨W2.heap.size, o, none⟩ = false := fun o => by rw [← hW3]; exact frozen_new _ _ _ o
  have hs2 : W2.heap.size = W1.heap.size + 1 := by rw [← hW2]; simp
  have hs3 : W3.heap.size = W2.heap.size + 1 := by rw [← hW3]; simp
  have hq2 := lies_lt q0
  have hss := set_same2 W2 (.int .i64 (V : Int)) (.slice none 0 0) 24
  rw [hW3] at hss
  obtain ⟨rb, hrb⟩ : ∃ z, W1.heap.size = z := ⟨_, rfl⟩
  obtain ⟨sb, hsb⟩ : ∃ z, W2.heap.size = z := ⟨_, rfl⟩
  obtain ⟨B, hB⟩ : ∃ z, W3.heap.size = z := ⟨_, rfl⟩
  have HRB := Lib.hid hrb
  rw [hrb] at r0 r1 rf hs2 hq2
  rw [hsb] at s0 s1 sf hs2 hs3 hss
  rw [hB] at hs3
  have hq2' : bf < rb := hq2
  have hr0 := hg3.cell r0 (by simp)
  have hr1 := hg3.cell r1 (by simp)
  have HS := Lib.hid (And.intro (hg3.cell (hg2.cell q0 (by simp)) (by simp)) (And.intro (hg3.cell (hg2.cell q1 (by simp)) (by simp)) (And.intro s0 (And.intro s1 sf))))
  have HR := Lib.hid (And.intro hr0 (And.intro hr1 (fun o => (grown_frozen hg3 (b := rb) (by omega) o).trans (rf o))))
  have HG3 := Lib.hid (And.intro (World.grownBy.trans hg2 hg3) hB)
  have HLT := Lib.hid (show bf < rb ∧ rb < sb ∧ sb < B from ⟨hq2', by omega, by omega⟩)
  replace q0 := hg2.cell q0 (by simp)
  replace q1 := hg2.cell q1 (by simp)
  clear hr0 hr1 hg2 hg3 hs2 hs3 hq2 hq2' rf sf hB s0 s1 r0 r1
  go_enter Try.func29, Try.ntmps29
  have p1 := HS.out.2.1
  have p2 := HS.out.2.2.2.1
  have p3 := HS.out.2.2.2.2 1
  go_wp2_with fail
  clear hW1 hW2 hW3 hrb hsb hbf q0 q1 p1 p2 p3 hss
  have hTS0 : TS W1 (V : Int) sb rb B T W3 0 none 0 := ⟨HG3.out.1, HS.out.2.2.1, HS.out.2.2.2.1, HS.out.2.2.2.2, HR.out.1, HR.out.2.1, HR.out.2.2, by rw [List.take_zero]; exact OC.nil _ _, by rw [HG3.out.2]; exact Nat.le_refl _, ⟨by rw [← HRB.out]; exact Nat.le_refl _, HLT.out.2⟩⟩
  have HT0 := Lib.hid hTS0
  clear hTS0
  go_loopg [7, 8, 9, 10] n (fun gk s7 _s8 _s9 _s10 wr => ∃ (k : Nat) (a : Option Addr) (c : Nat), s7 = .int .i64 (k : Int) ∧ gk = n - k ∧ k ≤ n ∧ TS W1 (V : Int) sb rb B T wr k a c)
  case atStart => exact ⟨0, none, 0, rfl, rfl, by omega, HT0.out⟩
  case round =>
    obtain ⟨k, a, c, rfl, hgk, hk, hts⟩ := hrel
    have HI := Lib.hid (And.intro hgk hts)
    clear hgk hts
    by_cases hkn : k < n
    · have f1 : decide ((k : Int) < (n : Int)) = true := decide_eq_true (by omega)
      have f1' : decide (k < n) = true := decide_eq_true hkn
      have k1 : IntKind.i64.wrap ((k : Int) + 1) = (k : Int) + 1 := IntWalk.i64_in _ (by omega)
      have k2 : IntKind.i64.wrap ((k : Int) + (y : Int)) = (k : Int) + (y : Int) := IntWalk.i64_in _ (by omega)
      obtain ⟨r, hr⟩ : ∃ r, (k + y) % n = r := ⟨_, rfl⟩
      have hrn : r < n := by rw [← hr]; exact Nat.mod_lt _ (by omega)
      have k3 : ((k : Int) + (y : Int)).tmod (n : Int) = (r : Int) := by
        rw [← hr, Int.tmod_eq_emod_of_nonneg (by omega)]; simp
      have k4 : ((n : Int) = 0) = False := by simp; omega
      obtain ⟨z, hz⟩ : ∃ z, C[r]? = some z := ⟨_, List.getElem?_eq_getElem (by rw [HC.out.2.1]; exact hrn)⟩
      have hTk : T[k]? = some z.reverse := by
        rw [← HTT.out, turn_at y (by rw [HC.out.2.1]; exact hkn), HC.out.2.1, hr, List.getD_eq_getElem?_getD, hz]; rfl
      obtain ⟨b, o, a', c', rfl, hcell, hints⟩ := (HC.out.1.grown HI.out.2.g).at hz
      have c1 := HI.out.2.g.cell HQ1.out (by simp)
      have n0 : (0 : Int) ≤ (r : Int) := by omega
      have n1 : (r : Int) < (n : Int) := by omega
      obtain ⟨l, hl⟩ : ∃ l, z.length = l := ⟨_, rfl⟩
      have hl100 : l ≤ 100 := by rw [← hl]; exact HC.out.2.2 z (List.mem_of_getElem? hz)
      rw [hl] at hcell
      have HZ := Lib.hid (And.intro hints (And.intro hl hTk))
      clear hz hTk hints hl hr
      go_wp2_with fail
      go_quiet (fail)
      have k5 : IntKind.i64.wrap ((l : Int) - 1) = (l : Int) - 1 := IntWalk.i64_in _ (by omega)
      clear hcell c1 k2 k3 k4 n0 n1
      have HST := Lib.hid (HI.out.2.grown (grown_drewN wr nq none))
      have HZ2 := Lib.hid (HZ.out.1.grown (grown_drewN wr nq none))
      obtain ⟨ws, hws⟩ : ∃ z, wr.drewN nq = z := ⟨_, rfl⟩
      rw [hws] at HST HZ2 ⊢
      clear hws
      go_wp2_with fail
      go_loopg [9, 10] l (fun gk s9 s10 w' => ∃ (q : Nat) (da : Option Addr) (dc : Nat), s9 = .slice da (l - q) dc ∧ s10 = .int .i64 ((q : Int) - 1) ∧ gk = q ∧ q ≤ l ∧ ws.grownBy w' none ∧ w'.ownsRow ws.heap.size 3 1 (.slice da (l - q) dc) (l - q) (intCells (z.reverse.take (l - q))))
      case atStart => exact ⟨l, none, 0, by rw [Nat.sub_self], rfl, rfl, Nat.le_refl _, grown_refl _ _, by rw [Nat.sub_self]; exact ⟨rfl, .inl ⟨rfl, rfl⟩⟩⟩
      case round =>
        obtain ⟨q, da, dc, rfl, rfl, hgk, hq, hg, hown⟩ := hrel
        obtain ⟨i0, hi0, hz0, hz1, hz2⟩ := info_parts info3
        cases q with
        | succ i =>
          obtain ⟨x, hx⟩ : ∃ x, z[i]? = some x := ⟨_, List.getElem?_eq_getElem (by rw [HZ.out.2.1]; omega)⟩
          have hst := rev_step HZ.out.2.1 hx
          obtain ⟨b1, o1, hb1, hc1⟩ := (HZ2.out.grown hg).at hx
          subst hb1
          have e0 : (((i + 1 : Nat) : Int) - 1) = (i : Int) := by omega
          have e1 : decide ((0 : Int) ≤ (i : Int)) = true := decide_eq_true (by omega)
          have e2 : (0 : Int) ≤ (i : Int) := by omega
          have e3 : (i : Int) < (l : Int) := by omega
          have e4 : IntKind.i64.wrap ((i : Int) - 1) = (i : Int) - 1 := IntWalk.i64_in _ (by omega)
          rw [e0]
          have HJ := Lib.hid (And.intro hgk (And.intro hg (And.intro hown hst)))
          obtain ⟨p, hp⟩ : ∃ p, l - (i + 1) = p := ⟨_, rfl⟩
          have hp1 : p + 1 = l - i := by omega
          rw [hp] at HJ ⊢
          obtain ⟨L, hL⟩ : ∃ L, z.reverse.take p = L := ⟨_, rfl⟩
          rw [hL] at HJ
          have HP1 := Lib.hid (And.intro hp1 hL)
          have hsz : ws.heap.size ≤ wr.heap.size := hg.size
          have hp100 : p ≤ 100 := by omega
          clear hgk hg hown hst hx e0 hp1 hL hp
          go_wp2_with (at_builtin; refine wpList_append_own_at _ rfl _ _ 25 rfl ws.heap.size 3 i0 (.int .i64 0) 1 8 Try.underlying25 hi0 hz0 hz1 hz2 rfl (by decide) _ p (intCells L) rfl (HJ.out.2.2.1.alloc _) ⟨wr.heap.size, 0, none⟩ 1 1 [.int .i64 x] rfl rfl (cell_one_new _ _ _) (fun u hu => by simp at hu; subst hu; rfl) (by unfold maxLen; omega) (by omega) (by simp; omega) ?_)
          intro v' w7 hown' hgrow7 _ _
          obtain ⟨ra, rc, rfl⟩ := own_shape hown'
          have HN := Lib.hid (And.intro (grown_own HJ.out.2.1 ((World.grownBy_alloc wr _ _).trans hgrow7) (own_low HJ.out.2.2.1)) hown')
          clear hown' hgrow7 hc1
          go_wp2_with fail
          go_roundg i
          case measure => rw [HJ.out.1]; omega
          case rel => exact ⟨i, ra, rc, by rw [← HP1.out.1], rfl, rfl, by omega, HN.out.1, by rw [HJ.out.2.2.2, ← HP1.out.1, intCells, List.map_append]; exact HN.out.2⟩
        | zero =>
          have e1 : decide ((0 : Int) ≤ ((0 : Nat) : Int) - 1) = false := rfl
          rw [Nat.sub_zero] at hown ⊢
          have hzr : z.reverse.take l = z.reverse := by rw [← HZ.out.2.1, ← List.length_reverse, List.take_length]
          rw [hzr] at hown
          have HD := Lib.hid (And.intro (HST.out.grown hg) hown)
          clear hzr hown hg hgk hi0 hz0 hz1 hz2
          obtain ⟨i1, hi1, hy0, hy1, hy2⟩ := info_parts info25
          have hlr : z.reverse.length = l := by rw [List.length_reverse]; exact HZ.out.2.1
          have hdo : wr.ownsRow B 3 1 (.slice da z.reverse.length dc) z.reverse.length (intCells z.reverse) := by rw [hlr]; exact own_lower HD.out.2 HST.out.hB
          obtain ⟨hTl, vs, hvs, hvz⟩ := HD.out.1.oc
          have HVS := Lib.hid (And.intro hdo (And.intro hvs (And.intro hvz hlr)))
          have s1 := HD.out.1.s1
          have hk1000 : k ≤ 1000 := by omega
          have hszB : B ≤ wr.heap.size := HD.out.1.hB
          clear hdo hTl hvs hvz hlr
          go_wp2_with (at_builtin; refine wpList_append_own_at _ rfl _ _ 22 rfl B 25 i1 (.slice none 0 0) 1 24 Try.underlying22 hi1 hy0 hy1 hy2 rfl (by decide) _ k vs rfl (HVS.out.2.1.alloc _) ⟨wr.heap.size, 0, none⟩ 1 1 [.slice da l dc] rfl rfl (cell_one_new _ _ _) (fun u hu => by simp at hu; subst hu; rfl) (by unfold maxLen; omega) (by omega) (by simp; omega) ?_)
          intro v' w7 hown' hgrow7 _ _
          obtain ⟨ra, rc, rfl⟩ := own_shape hown'
          have hg7 : wr.grownBy w7 (Value.slice a k c).ownBlock := (World.grownBy_alloc wr _ _).trans hgrow7
          have hne : some sb ≠ (Value.slice a k c).ownBlock := fun e => by
            have h1 := own_low HVS.out.2.1 sb e.symm
            have h2 := HD.out.1.lt.2.2
            omega
          have t1 := hg7.cell s1 hne
          have t2 : w7.frozen? ⟨sb, 1, none⟩ = false := (World.frozen?_of_block (a := ⟨sb, 1, none⟩) (hg7.block sb (lies_lt s1) hne)).trans (HD.out.1.sf 1)
          have HTP := Lib.hid (HD.out.1.push HZ.out.2.2 HVS.out.1 HVS.out.2.1 HVS.out.2.2.1 (by rw [HVS.out.2.2.2]; exact hown') hg7)
          clear hown' hgrow7 hg7 hne s1 hi1 hy0 hy1 hy2
          go_wp2_with fail
          clear t1 t2
          go_roundg (n - (k + 1))
          case measure => rw [HI.out.1]; omega
          case rel => exact ⟨k + 1, ra, rc, rfl, rfl, by omega, HTP.out⟩
    · have hke : k = n := by omega
      subst hke
      have f1 : decide (k < k) = false := by simp
      have s0 := HI.out.2.s0
      have s1 := HI.out.2.s1
      have r0 := HI.out.2.r0
      have r1 := HI.out.2.r1
      have rf0 := HI.out.2.rf 0
      have rf1 := HI.out.2.rf 1
      go_wp2_with fail
      obtain ⟨WZ, hWZ⟩ : ∃ z, (wr.setCell ⟨rb, 0, none⟩ (.int .i64 (V : Int))).setCell ⟨rb, 1, none⟩ (.slice a k c) = z := ⟨_, rfl⟩
      have z0 : WZ.cell? ⟨rb, 0, none⟩ = some (.int .i64 (V : Int)) := by
        rw [← hWZ, World.cell?_setCell_other _ _ _ _ (by intro e; cases e)]
        exact World.cell?_setCell_same _ _ _ r0
      have z1 : WZ.cell? ⟨rb, 1, none⟩ = some (.slice a k c) := by
        rw [← hWZ]
        refine World.cell?_setCell_same _ _ _ (show (wr.setCell ⟨rb, 0, none⟩ (.int .i64 (V : Int))).cell? ⟨rb, 1, none⟩ = some (.slice none 0 0) from ?_)
        rw [World.cell?_setCell_other _ _ _ _ (by intro e; cases e)]
        exact r1
      have hgz : wr.grownBy WZ (some rb) := by rw [← hWZ]; exact World.grownBy.trans (grown_set _ _ _ _) (grown_set _ _ _ _)
      rw [hWZ]
      have HGZ := Lib.hid hgz
      clear hWZ hgz s0 s1 r0 r1 rf0 rf1
      refine bodyPost_ret (v := .agg #[.int .i64 (V : Int), .slice a k c]) ?res rfl ?_
      case res => simp [results, Try.results29, go_sem, z0, z1]
      refine ⟨a, c, rfl, ?_, ?_⟩
      · have h1 := (HI.out.2.oc.grown HGZ.out (fun b e => by cases e; have := HI.out.2.lt; omega)).cls
        rw [List.take_of_length_le (by rw [← HTT.out, turn_len, HC.out.2.1]; exact Nat.le_refl _)] at h1
        exact h1
      · exact World.grownBy.trans HG1.out (grown_own HI.out.2.g HGZ.out (fun b e => by cases e; exact HI.out.2.lt.1))
end Go.Proofs.Ythkemajekkilmaa
/- The laws, plainly: what Horn asks. -/
namespace Go.Proofs.Ythkemajekkilmaa
/-- The assignment that holds true what is implied, and nothing else. -/
def vsH (V : Nat) (l : List Int) : List Bool := (List.range V).map fun i : Nat => decide ((i : Int) + 1 ∈ l)
theorem vsH_at {V : Nat} {l : List Int} {n : Nat} (h : n < V) : (vsH V l).getD n false = decide ((n : Int) + 1 ∈ l) := by
  unfold vsH
  rw [List.getD_eq_getElem?_getD, List.getElem?_map, List.getElem?_range h]
  rfl
theorem litT_H {V : Nat} {l : List Int} {x : Int} (hx : InR V x) : litT (vsH V l) x = if 0 < x then decide (x ∈ l) else !decide (-x ∈ l) := by
  obtain ⟨h0, h1, h2⟩ := hx
  unfold litT
  by_cases hp : 0 < x
  · rw [if_pos hp, if_pos hp, vsH_at (by omega), show (((x - 1).toNat : Nat) : Int) + 1 = x from by omega]
  · rw [if_neg hp, if_neg hp, vsH_at (by omega), show (((-x - 1).toNat : Nat) : Int) + 1 = -x from by omega]
theorem horn_model {V : Nat} {C : List (List Int)} (hR : Ran V C) (hh : hornB C = true) (h : cfP V C [] = -1) : (C.all fun c => c.any (litT (vsH V (impP V C [])))) = true := by
  rw [List.all_eq_true]
  intro c hc
  have hcl := (closed_all hR (A := []) rfl).2.1 h c hc
  have hco := (closed_all hR (A := []) rfl).1
  rw [List.nil_append] at hcl hco
  obtain ⟨l, hl⟩ : ∃ l, impP V C [] = l := ⟨_, rfl⟩
  rw [hl] at hcl hco ⊢
  have hcons := contra_false hco
  have hhc : hornC c = true := by
    have := hh
    unfold hornB at this
    rw [List.all_eq_true] at this
    exact this c hc
  have hhc' := of_decide_eq_true hhc
  rw [List.any_eq_true]
  have hpos : ∀ y ∈ c, y ∈ l → litT (vsH V l) y = true := fun y hy hm => by
    rw [litT_H (hR c hc y hy)]
    by_cases hp : 0 < y
    · rw [if_pos hp]; exact decide_eq_true hm
    · rw [if_neg hp, decide_eq_false (hcons y hm)]; rfl
  have hneg : ∀ y ∈ c, ¬ 0 < y → und l y = true → litT (vsH V l) y = true := fun y hy hn hu => by
    rw [litT_H (hR c hc y hy), if_neg hn, decide_eq_false ((und_iff l y).1 hu).2]; rfl
  have hnot : hot l c = false := by
    cases hb : hot l c with
    | false => rfl
    | true =>
      unfold stP at hcl
      rw [if_pos hb] at hcl
      split at hcl <;> simp at hcl
  by_cases he : ∃ y ∈ c, y ∈ l
  · obtain ⟨y, hy, hm⟩ := he
    exact ⟨y, hy, hpos y hy hm⟩
  · have h2 : ∃ x ∈ c, ∃ y ∈ c, und l x = true ∧ und l y = true ∧ x ≠ y := Classical.byContradiction fun hn => by
      have : hot l c = true := (hot_iff l c).2 ⟨fun y hy hm => he ⟨y, hy, hm⟩, fun x hx y hy ux uy => Classical.byContradiction fun e => hn ⟨x, hx, y, hy, ux, uy, e⟩⟩
      rw [this] at hnot; cases hnot
    obtain ⟨x, hx, y, hy, ux, uy, hne⟩ := h2
    by_cases hxp : 0 < x
    · by_cases hyp : 0 < y
      · exact absurd (hhc' x hx y hy hxp hyp) hne
      · exact ⟨y, hy, hneg y hy hyp uy⟩
    · exact ⟨x, hx, hneg x hx hxp ux⟩
end Go.Proofs.Ythkemajekkilmaa
