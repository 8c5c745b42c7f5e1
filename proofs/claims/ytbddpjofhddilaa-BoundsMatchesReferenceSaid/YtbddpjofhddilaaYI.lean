/- Bounds and models that came in. -/
import Derived.Test.YtbddpjofhddilaaYW
namespace Go.Proofs.Ytbddpjofhddilaa
open Go.ChangeShapes Go.WideShapes Go.ChangeAt Go.WideMaps Go.WideElems Go.RowKit Go.Deep Go.Joins

set_option maxRecDepth 100000
section
variable {H : Type} {enc : TypeId × Value → H} {W : World}
theorem rels_open {n : Nat} {v : Value} {x : DataW H × List MemPlace} (h : DataW.trod enc Try.prog W 0 (fun _ => true) true n 40 [v] = some x) :
    ∃ (l : List Rl) (a : Option Addr) (c : Nat), v = .slice a l.length c ∧ Rels W a c l := by
  obtain ⟨l, a, c, e, hc, _, hl⟩ := slice_open (α := Rl) (k := 2) (fun r b o => RelAt W b o r) Try.underlying40 (by kernel_rfl) (fun n a cs x hc h => by
    obtain ⟨_, hlen, hat⟩ := World.cells?_some hc
    obtain ⟨xs, m, _, _, _, hxl, hf⟩ := DataW.trod_struct Try.underlying53 h
    match cs, hlen with
    | [c0, c1], _ =>
      match xs, hxl with
      | [x0, x1], _ =>
        have k3 : Try.prog.cellsOf 3 = 1 := by kernel_rfl
        have k28 : Try.prog.cellsOf 28 = 1 := by kernel_rfl
        have f0 : DataW.trod enc Try.prog W 0 (fun _ => true) true m 3 [c0] = some x0 := by
          have f : DataW.trod enc Try.prog W 0 (fun _ => true) true m 3 (([c0, c1].drop 0).take (Try.prog.cellsOf 3)) = some x0 := hf 0 _ rfl
          rw [k3] at f; exact f
        have f1 : DataW.trod enc Try.prog W 0 (fun _ => true) true m 28 [c1] = some x1 := by
          have f : DataW.trod enc Try.prog W 0 (fun _ => true) true m 28 (([c0, c1].drop 1).take (Try.prog.cellsOf 28)) = some x1 := hf 1 _ rfl
          rw [k28] at f; exact f
        obtain ⟨k, e0, _, _⟩ := DataW.trod_int Try.underlying3 f0
        obtain ⟨zs, ra, rc, e1, hi, _⟩ := intsW_open f1
        injection e0 with e0 _
        subst e0 e1
        have a0 := hat 0 (by omega)
        have a1 := hat 1 (by omega)
        obtain ⟨b, o, spot⟩ := a
        have hspot : spot = none := by simpa [Addr.add] using World.cell?_spot a0
        subst hspot
        rw [add_off] at a0 a1
        exact ⟨(k, zs), b, o, rfl, by simpa using a0, ra, rc, by simpa using a1, hi⟩) h
  exact ⟨l, a, c, e, hc, hl⟩
theorem sts_open {n : Nat} {v : Value} {x : DataW H × List MemPlace} (h : DataW.trod enc Try.prog W 0 (fun _ => true) true n 31 [v] = some x) :
    ∃ (L : List (List Rl)) (a : Option Addr) (c : Nat), v = .slice a L.length c ∧ Sts W a c L := by
  obtain ⟨l, a, c, e, hc, _, hl⟩ := slice_open (α := List Rl) (k := 1) (fun l b o => ∃ a' c', W.cell? ⟨b, o, none⟩ = some (.slice a' l.length c') ∧ Rels W a' c' l) Try.underlying31 (by kernel_rfl) (fun n a cs x hc h => by
    obtain ⟨_, hlen, hat⟩ := World.cells?_some hc
    match cs, hlen with
    | [c0], _ =>
      obtain ⟨l, ra, rc, rfl, hr⟩ := rels_open h
      have a0 := hat 0 (by omega)
      obtain ⟨b, o, spot⟩ := a
      have hspot : spot = none := by simpa [Addr.add] using World.cell?_spot a0
      subst hspot
      exact ⟨l, b, o, rfl, ra, rc, by simpa [Addr.add] using a0, hr⟩) h
  refine ⟨l, a, c, e, hc, fun j y hj => ?_⟩
  obtain ⟨b, o, e', h'⟩ := hl j y hj
  rw [Nat.mul_one] at h'
  exact ⟨b, o, e', h'⟩
/-- A model that came in. -/
theorem open_model {v : Value} {d : DataW H} {ps : List MemPlace} {base : Nat} (hv : Value.okWide Try.prog W .any base 33 v) (h : DataW.Trod enc Try.prog W 0 (fun _ => true) true 33 v d ps) :
    ∃ (us : List Int) (sa : Option Addr) (sc : Nat) (st : Int) (L : List (List Rl)) (ta : Option Addr) (tc : Nat) (lp : Int), v = .agg #[.slice sa us.length sc, .int .i64 st, .slice ta L.length tc, .int .i64 lp] ∧ Ints W sa sc us ∧ Sts W ta tc L ∧ (us.length : Int) ≤ 9223372036854775807 := by
  obtain ⟨cs, rfl, hsz⟩ := okWide_struct Try.underlying33 hv
  have k33 : Try.prog.cellsOf 33 = 4 := by kernel_rfl
  have k30 : Try.prog.cellsOf 30 = 2 := by kernel_rfl
  have k31 : Try.prog.cellsOf 31 = 1 := by kernel_rfl
  have k28 : Try.prog.cellsOf 28 = 1 := by kernel_rfl
  have k3 : Try.prog.cellsOf 3 = 1 := by kernel_rfl
  obtain ⟨c0, c1, c2, c3, rfl⟩ := array4 (hsz.trans k33)
  obtain ⟨fuel, hf0⟩ := h
  obtain ⟨x0, x1, x2, m, _, _, f0, f1, f2⟩ := trod_struct3 Try.underlying33 hf0
  have g0 : DataW.trod enc Try.prog W 0 (fun _ => true) true m 30 [c0, c1] = some x0 := by
    have f : DataW.trod enc Try.prog W 0 (fun _ => true) true m 30 (([c0, c1, c2, c3].drop 0).take (Try.prog.cellsOf 30)) = some x0 := f0
    rw [k30] at f; exact f
  have g1 : DataW.trod enc Try.prog W 0 (fun _ => true) true m 31 [c2] = some x1 := by
    have f : DataW.trod enc Try.prog W 0 (fun _ => true) true m 31 (([c0, c1, c2, c3].drop 2).take (Try.prog.cellsOf 31)) = some x1 := f1
    rw [k31] at f; exact f
  have g2 : DataW.trod enc Try.prog W 0 (fun _ => true) true m 3 [c3] = some x2 := by
    have f : DataW.trod enc Try.prog W 0 (fun _ => true) true m 3 (([c0, c1, c2, c3].drop 3).take (Try.prog.cellsOf 3)) = some x2 := f2
    rw [k3] at f; exact f
  obtain ⟨y0, y1, m', _, _, q0, q1⟩ := trod_struct2 Try.underlying30 g0
  have e0 : DataW.trod enc Try.prog W 0 (fun _ => true) true m' 28 [c0] = some y0 := by
    have f : DataW.trod enc Try.prog W 0 (fun _ => true) true m' 28 (([c0, c1].drop 0).take (Try.prog.cellsOf 28)) = some y0 := q0
    rw [k28] at f; exact f
  have e1 : DataW.trod enc Try.prog W 0 (fun _ => true) true m' 3 [c1] = some y1 := by
    have f : DataW.trod enc Try.prog W 0 (fun _ => true) true m' 3 (([c0, c1].drop 1).take (Try.prog.cellsOf 3)) = some y1 := q1
    rw [k3] at f; exact f
  unfold Value.okWide at hv
  rw [Try.underlying33] at hv
  obtain ⟨cs, hcs, _, ts, hts, _, hrow⟩ := hv
  injection hcs with hcs
  subst hcs
  have hc : Try.prog.cellTypes Try.prog.depth 33 = some [28, 3, 31, 3] := by kernel_rfl
  rw [hc] at hts
  injection hts with hts
  subst hts
  obtain ⟨u, hu, hok⟩ := hrow 0 c0 rfl
  have hu28 : u = 28 := by simpa using hu.symm
  subst hu28
  obtain ⟨us, sa, sc, rfl, hi, hm⟩ := ints_open e0 hok
  obtain ⟨st, d1, _, _⟩ := DataW.trod_int Try.underlying3 e1
  injection d1 with d1 _
  obtain ⟨L, ta, tc, rfl, hs⟩ := sts_open g1
  obtain ⟨lp, d2, _, _⟩ := DataW.trod_int Try.underlying3 g2
  injection d2 with d2 _
  subst d1 d2
  exact ⟨us, sa, sc, st, L, ta, tc, lp, rfl, hi, hs, hm⟩
theorem rel_open9 {n : Nat} {c0 c1 : Value} {x : DataW H × List MemPlace} (h : DataW.trod enc Try.prog W 0 (fun _ => true) true n 53 [c0, c1] = some x) :
    ∃ (k : Int) (zs : List Int) (ra : Option Addr) (rc : Nat), c0 = .int .i64 k ∧ c1 = .slice ra zs.length rc ∧ IntsW W ra rc zs := by
  obtain ⟨x0, x1, m, _, _, q0, q1⟩ := trod_struct2 Try.underlying53 h
  have k3 : Try.prog.cellsOf 3 = 1 := by kernel_rfl
  have k28 : Try.prog.cellsOf 28 = 1 := by kernel_rfl
  have f0 : DataW.trod enc Try.prog W 0 (fun _ => true) true m 3 [c0] = some x0 := by
    have f : DataW.trod enc Try.prog W 0 (fun _ => true) true m 3 (([c0, c1].drop 0).take (Try.prog.cellsOf 3)) = some x0 := q0
    rw [k3] at f; exact f
  have f1 : DataW.trod enc Try.prog W 0 (fun _ => true) true m 28 [c1] = some x1 := by
    have f : DataW.trod enc Try.prog W 0 (fun _ => true) true m 28 (([c0, c1].drop 1).take (Try.prog.cellsOf 28)) = some x1 := q1
    rw [k28] at f; exact f
  obtain ⟨k, e0, _, _⟩ := DataW.trod_int Try.underlying3 f0
  obtain ⟨zs, ra, rc, e1, hi, _⟩ := intsW_open f1
  injection e0 with e0 _
  exact ⟨k, zs, ra, rc, e0, e1, hi⟩
theorem bounds_open9 {n : Nat} {v : Value} {x : DataW H × List MemPlace} (h : DataW.trod enc Try.prog W 0 (fun _ => true) true n 57 [v] = some x) :
    ∃ (l : List Bd) (a : Option Addr) (c : Nat), v = .slice a l.length c ∧ Bds W a c l := by
  obtain ⟨l, a, c, e, hc, _, hl⟩ := slice_open (α := Bd) (k := 4) (fun r b o => BdAt W b o r) Try.underlying57 (by kernel_rfl) (fun n a cs x hc h => by
    obtain ⟨_, hlen, hat⟩ := World.cells?_some hc
    obtain ⟨x0, x1, m, _, _, q0, q1⟩ := trod_struct2 Try.underlying74 h
    match cs, hlen with
    | [c0, c1, c2, c3], _ =>
      have k53 : Try.prog.cellsOf 53 = 2 := by kernel_rfl
      have f0 : DataW.trod enc Try.prog W 0 (fun _ => true) true m 53 [c0, c1] = some x0 := by
        have f : DataW.trod enc Try.prog W 0 (fun _ => true) true m 53 (([c0, c1, c2, c3].drop 0).take (Try.prog.cellsOf 53)) = some x0 := q0
        rw [k53] at f; exact f
      have f1 : DataW.trod enc Try.prog W 0 (fun _ => true) true m 53 [c2, c3] = some x1 := by
        have f : DataW.trod enc Try.prog W 0 (fun _ => true) true m 53 (([c0, c1, c2, c3].drop 2).take (Try.prog.cellsOf 53)) = some x1 := by rw [← k53] at q1 ⊢; exact q1
        rw [k53] at f; exact f
      obtain ⟨k, zs, ra, rc, rfl, rfl, hi⟩ := rel_open9 f0
      obtain ⟨k', zs', ra', rc', rfl, rfl, hi'⟩ := rel_open9 f1
      have a0 := hat 0 (by omega)
      have a1 := hat 1 (by omega)
      have a2 := hat 2 (by omega)
      have a3 := hat 3 (by omega)
      obtain ⟨b, o, spot⟩ := a
      have hspot : spot = none := by simpa [Addr.add] using World.cell?_spot a0
      subst hspot
      rw [add_off] at a0 a1 a2 a3
      exact ⟨((k, zs), (k', zs')), b, o, rfl, ⟨by simpa using a0, ra, rc, by simpa using a1, hi⟩, by simpa using a2, ra', rc', by simpa using a3, hi'⟩) h
  exact ⟨l, a, c, e, hc, hl⟩
end
end Go.Proofs.Ytbddpjofhddilaa
