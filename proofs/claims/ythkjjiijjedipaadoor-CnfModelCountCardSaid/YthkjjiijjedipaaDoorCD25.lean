/- Texts of the proof: Ac. -/
import Derived.Test.YthkjjiijjedipaaDoorCD24
namespace Go.Proofs.YthkjjiijjedipaaDoor
open Go.ChangeShapes Go.WideShapes Go.ChangeAt Go.WideMaps Go.WideElems Go.RowKit Go.Deep
set_option maxRecDepth 100000
section
variable {H : Type} {enc : TypeId × Value → H} {W : World}
theorem ints_open {n : Nat} {v : Value} {x : DataW H × List MemPlace} (h : DataW.trod enc Tryd.prog W 0 (fun _ => true) true n 28 [v] = some x) :
    ∃ (l : List Int) (a : Option Addr) (c : Nat), v = .slice a l.length c ∧ IntsW W a c l ∧ (l.length : Int) ≤ 9223372036854775807 := by
  obtain ⟨l, a, c, e, hc, hm, hl⟩ := slice_open (α := Int) (k := 1) (fun z b o => W.cell? ⟨b, o, none⟩ = some (.int .i64 z)) Tryd.underlying28 (by kernel_rfl) (fun n a cs x hc h => by
    obtain ⟨_, hlen, hat⟩ := World.cells?_some hc
    match cs, hlen with
    | [c0], _ =>
      obtain ⟨z, e0, _, _⟩ := DataW.trod_int Tryd.underlying3 h
      injection e0 with e0 _
      subst e0
      have a0 := hat 0 (by omega)
      obtain ⟨b, o, rfl⟩ := addr_plain a0 rfl
      exact ⟨z, b, o, rfl, by simpa [Addr.add] using a0⟩) h
  refine ⟨l, a, c, e, ⟨hc, ?_⟩, hm⟩
  cases l with
  | nil => exact .inl rfl
  | cons z l =>
    obtain ⟨b, o, rfl, _⟩ := hl 0 z rfl
    refine .inr ⟨b, o, rfl, fun j y hj => ?_⟩
    obtain ⟨b', o', e', hc'⟩ := hl j y hj
    cases e'
    rw [Nat.mul_one] at hc'
    exact hc'
theorem cls_open {n : Nat} {v : Value} {x : DataW H × List MemPlace} (h : DataW.trod enc Tryd.prog W 0 (fun _ => true) true n 33 [v] = some x) :
    ∃ (l : List (List Int)) (a : Option Addr) (c : Nat), v = .slice a l.length c ∧ ClsW W a c l ∧ (l.length : Int) ≤ 9223372036854775807 ∧ ∀ z ∈ l, (z.length : Int) ≤ 9223372036854775807 := by
  obtain ⟨l, a, c, e, hc, hm, hl⟩ := slice_open (α := List Int) (k := 1) (fun z b o => (∃ a' c', W.cell? ⟨b, o, none⟩ = some (.slice a' z.length c') ∧ IntsW W a' c' z) ∧ (z.length : Int) ≤ 9223372036854775807) Tryd.underlying33 (by kernel_rfl) (fun n a cs x hc h => by
    obtain ⟨_, hlen, hat⟩ := World.cells?_some hc
    match cs, hlen with
    | [c0], _ =>
      obtain ⟨z, a', c', rfl, hz, hzl⟩ := ints_open h
      have a0 := hat 0 (by omega)
      obtain ⟨b, o, rfl⟩ := addr_plain a0 rfl
      exact ⟨z, b, o, rfl, ⟨a', c', by simpa [Addr.add] using a0, hz⟩, hzl⟩) h
  refine ⟨l, a, c, e, ⟨hc, ?_⟩, hm, fun z hz => ?_⟩
  · cases l with
    | nil => exact .inl rfl
    | cons z l =>
      obtain ⟨b, o, rfl, _⟩ := hl 0 z rfl
      refine .inr ⟨b, o, rfl, fun j y hj => ?_⟩
      obtain ⟨b', o', e', hc', _⟩ := hl j y hj
      cases e'
      rw [Nat.mul_one] at hc'
      exact hc'
  · obtain ⟨i, hi⟩ := List.mem_iff_getElem?.1 hz
    obtain ⟨_, _, _, _, h2⟩ := hl i z hi
    exact h2
theorem open_cnf {v : Value} {d : DataW H} {ps : List MemPlace} {base : Nat} (hv : Value.okWide Tryd.prog W .any base 35 v) (h : DataW.Trod enc Tryd.prog W 0 (fun _ => true) true 35 v d ps) :
    ∃ (x : Int) (l : List (List Int)) (a : Option Addr) (c : Nat), v = cnfV x a l.length c ∧ ClsW W a c l ∧ (l.length : Int) ≤ 9223372036854775807 ∧ ∀ z ∈ l, (z.length : Int) ≤ 9223372036854775807 := by
  obtain ⟨cs, rfl, hsz⟩ := okWide_struct Tryd.underlying35 hv
  have k35 : Tryd.prog.cellsOf 35 = 2 := by kernel_rfl
  have k3 : Tryd.prog.cellsOf 3 = 1 := by kernel_rfl
  have k33 : Tryd.prog.cellsOf 33 = 1 := by kernel_rfl
  obtain ⟨c0, c1, rfl⟩ : ∃ c0 c1, cs = #[c0, c1] := by
    obtain ⟨l⟩ := cs
    have hsz2 := hsz.trans k35
    match l, hsz2 with
    | [c0, c1], _ => exact ⟨c0, c1, rfl⟩
  obtain ⟨fuel, hf0⟩ := h
  obtain ⟨xs, n, _, _, _, hlen, hf⟩ := DataW.trod_struct Tryd.underlying35 hf0
  match xs, hlen, hf with
  | [y0, y1], _, hf =>
    have f0 := hf 0 _ rfl
    have f1 := hf 1 _ rfl
    obtain ⟨z, e0, _, _⟩ := DataW.trod_int Tryd.underlying3 (one_of (v := c0) k3 f0 rfl)
    injection e0 with e0 _
    subst e0
    obtain ⟨l, a, c, rfl, h1, h2, h3⟩ := cls_open (one_of (v := c1) k33 f1 rfl)
    exact ⟨z, l, a, c, rfl, h1, h2, h3⟩
end
end Go.Proofs.YthkjjiijjedipaaDoor
