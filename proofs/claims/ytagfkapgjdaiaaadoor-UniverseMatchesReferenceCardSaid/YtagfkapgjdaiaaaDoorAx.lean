/- Rows of integers and scopes that came in; seven arguments. -/
import Derived.Test.YtagfkapgjdaiaaaDoorZ
import Derived.Lib.SmallJoins
namespace Go.Proofs.YtagfkapgjdaiaaaDoor
open Go.ChangeShapes Go.WideShapes Go.ChangeAt Go.WideMaps Go.WideElems Go.RowKit Go.Joins

section
variable {H : Type} {enc : TypeId × Value → H} {W : World} {v : Value} {d : DataW H} {ps : List MemPlace} {base : Nat}
theorem block_in {a : Addr} {len cap : Nat} (hok : Cell.okWide Tryd.prog W .any base 28 (.slice (some a) len cap)) : a.spot = none ∧ a.block < W.heap.size := by
  have h : len ≤ cap ∧ (cap : Int) ≤ IntKind.i64.max ∧ W.has Tryd.prog .any base a 3 cap := by
    simpa [Cell.okWide, Cell.ok, Tryd.underlying28] using hok
  obtain ⟨_, _, _, hs, row, cells, hsh, _⟩ := h
  refine ⟨hs, ?_⟩
  unfold World.shape? at hsh
  split at hsh
  · rename_i he; exact (Array.getElem?_eq_some_iff.1 he).1
  · cases hsh
theorem ints_open {n : Nat} {x : DataW H × List MemPlace} (h : DataW.trod enc Tryd.prog W 0 (fun _ => true) true n 28 [v] = some x) (hok : Cell.okWide Tryd.prog W .any base 28 v) :
    ∃ (zs : List Int) (ra : Option Addr) (rc : Nat), v = .slice ra zs.length rc ∧ Ints W ra rc zs ∧ (zs.length : Int) ≤ 9223372036854775807 := by
  rcases open_ints Tryd.underlying28 Tryd.underlying3 (by kernel_rfl) h with ⟨hcs, _⟩ | ⟨a, len, cap, zs, hcs, _, hl, hm, hz, _, hcell, _⟩
  · injection hcs with hcs _
    subst hcs
    exact ⟨[], none, 0, rfl, ⟨Nat.le_refl _, .inl ⟨rfl, rfl, rfl⟩⟩, by decide⟩
  · injection hcs with hcs _
    subst hcs
    have hzc : zs.length = cap := by simpa using hz
    have htl : (zs.take len).length = len := by simp; omega
    obtain ⟨hsp, hbl⟩ := block_in hok
    obtain ⟨b, o, spot⟩ := a
    obtain rfl : spot = none := hsp
    refine ⟨zs.take len, some ⟨b, o, none⟩, cap, by rw [htl], ⟨by rw [htl]; exact hl, .inr ⟨b, o, rfl, hbl, fun j z hj => ?_⟩⟩, by rw [htl]; unfold maxLen at hm; omega⟩
    rw [List.getElem?_take] at hj
    split at hj
    · have hjz := (List.getElem?_eq_some_iff.1 hj).1
      have hc := hcell j hjz
      rw [List.getD_eq_getElem?_getD, hj] at hc
      have hadd : (⟨b, o, none⟩ : Addr).add j = ⟨b, o + j, none⟩ := by unfold Addr.add; split <;> simp_all
      rw [hadd] at hc
      exact hc
    · simp at hj
theorem open_i64s (hv : Value.okWide Tryd.prog W .any base 28 v) (h : DataW.Trod enc Tryd.prog W 0 (fun _ => true) true 28 v d ps) :
    ∃ (zs : List Int) (ra : Option Addr) (rc : Nat), v = .slice ra zs.length rc ∧ Ints W ra rc zs ∧ (zs.length : Int) ≤ 9223372036854775807 := by
  obtain ⟨a, len, cap, rfl⟩ := okWide_slice Tryd.underlying28 hv
  unfold Value.okWide at hv
  rw [Tryd.underlying28] at hv
  obtain ⟨fuel, hf⟩ := h
  exact ints_open hf hv
theorem open_scope (hv : Value.okWide Tryd.prog W .any base 30 v) (h : DataW.Trod enc Tryd.prog W 0 (fun _ => true) true 30 v d ps) :
    ∃ (zs : List Int) (ra : Option Addr) (rc : Nat) (st : Int), v = .agg #[.slice ra zs.length rc, .int .i64 st] ∧ Ints W ra rc zs ∧ (zs.length : Int) ≤ 9223372036854775807 := by
  obtain ⟨v0, v1, y0, y1, n, rfl, _, _, h0, h1⟩ := open_agg2 Tryd.underlying30 (by kernel_rfl) (by kernel_rfl) hv h
  unfold Value.okWide at hv
  rw [Tryd.underlying30] at hv
  obtain ⟨cs, hcs, _, ts, hts, _, hrow⟩ := hv
  injection hcs with hcs
  subst hcs
  have hc : Tryd.prog.cellTypes Tryd.prog.depth 30 = some [28, 3] := by kernel_rfl
  rw [hc] at hts
  injection hts with hts
  subst hts
  obtain ⟨u, hu, hok⟩ := hrow 0 v0 rfl
  have hu28 : u = 28 := by simpa using hu.symm
  subst hu28
  obtain ⟨zs, ra, rc, rfl, hi, hl⟩ := ints_open h0 hok
  obtain ⟨st, e1, _, _⟩ := DataW.trod_int Tryd.underlying3 h1
  simp at e1
  subst e1
  exact ⟨zs, ra, rc, st, rfl, hi, hl⟩
end
theorem trodAll_seven {H : Type} {enc : TypeId × Value → H} {P : Program} {w : World} {base : Nat} {spare : Nat → Bool} {held : Bool} {t0 t1 t2 t3 t4 t5 t6 : TypeId} {args : Array Value} {ds : List (DataW H)} {ps : List MemPlace} (h : DataW.TrodAll enc P w base spare held [t0, t1, t2, t3, t4, t5, t6] args.toList ds ps) :
    ∃ v0 v1 v2 v3 v4 v5 v6 d0 d1 d2 d3 d4 d5 d6 p0 p1 p2 p3 p4 p5 p6, args = #[v0, v1, v2, v3, v4, v5, v6] ∧ ds = [d0, d1, d2, d3, d4, d5, d6] ∧ ps = p0 ++ p1 ++ p2 ++ p3 ++ p4 ++ p5 ++ p6 ∧ DataW.Trod enc P w base spare held t0 v0 d0 p0 ∧ DataW.Trod enc P w base spare held t1 v1 d1 p1 ∧ DataW.Trod enc P w base spare held t2 v2 d2 p2 ∧
      DataW.Trod enc P w base spare held t3 v3 d3 p3 ∧ DataW.Trod enc P w base spare held t4 v4 d4 p4 ∧ DataW.Trod enc P w base spare held t5 v5 d5 p5 ∧ DataW.Trod enc P w base spare held t6 v6 d6 p6 := by
  obtain ⟨v0, r0, d0, e0, p0, q0, hargs, rfl, rfl, h0, k0⟩ := trodAll_cons h
  obtain ⟨v1, r1, d1, e1, p1, q1, rfl, rfl, rfl, h1, k1⟩ := trodAll_cons k0
  obtain ⟨v2, r2, d2, e2, p2, q2, rfl, rfl, rfl, h2, k2⟩ := trodAll_cons k1
  obtain ⟨v3, r3, d3, e3, p3, q3, rfl, rfl, rfl, h3, k3⟩ := trodAll_cons k2
  obtain ⟨v4, r4, d4, e4, p4, q4, rfl, rfl, rfl, h4, k4⟩ := trodAll_cons k3
  obtain ⟨v5, r5, d5, e5, p5, q5, rfl, rfl, rfl, h5, k5⟩ := trodAll_cons k4
  obtain ⟨v6, r6, d6, e6, p6, q6, rfl, rfl, rfl, h6, k6⟩ := trodAll_cons k5
  obtain ⟨rfl, rfl, rfl⟩ := trodAll_nil k6
  exact ⟨v0, v1, v2, v3, v4, v5, v6, d0, d1, d2, d3, d4, d5, d6, p0, p1, p2, p3, p4, p5, p6, by cases args; simp_all, rfl, by simp, h0, h1, h2, h3, h4, h5, h6⟩
end Go.Proofs.YtagfkapgjdaiaaaDoor
