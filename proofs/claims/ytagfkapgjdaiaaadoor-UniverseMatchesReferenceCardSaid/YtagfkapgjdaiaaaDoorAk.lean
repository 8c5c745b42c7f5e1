/- Specifications and scopes that came in. -/
import Derived.Test.YtagfkapgjdaiaaaDoorZ
import Derived.Test.YtagfkapgjdaiaaaDoorK
import Derived.Deep.SlicePairs
import Derived.Lib.SmallJoins
namespace Go.Proofs.YtagfkapgjdaiaaaDoor
open Go.ChangeShapes Go.WideShapes Go.ChangeAt Go.WideMaps Go.WideElems Go.RowKit Go.Deep Go.Joins

def strIn : Value → ByteArray
  | .string s => s
  | _ => ByteArray.empty
section
variable {H : Type} {enc : TypeId × Value → H} {W : World} {v : Value} {d : DataW H} {ps : List MemPlace} {base : Nat}
theorem slice_shape {t e : TypeId} {n : Nat} {x : DataW H × List MemPlace} (ht : Tryd.prog.underlying t = some (.slice e)) (h : DataW.trod enc Tryd.prog W 0 (fun _ => true) true n t [v] = some x) : ∃ a len cap, v = .slice a len cap := by
  rcases DataW.trod_slice ht h with ⟨h1, _⟩ | ⟨a, len, cap, _, _, _, _, h1, _⟩
  · injection h1 with h1 _; exact ⟨_, _, _, h1⟩
  · injection h1 with h1 _; exact ⟨_, _, _, h1⟩
theorem open_spec (hv : Value.okWide Tryd.prog W .any base 27 v) (h : DataW.Trod enc Tryd.prog W 0 (fun _ => true) true 27 v d ps) :
    ∃ (ss : List ByteArray) (sa : Option Addr) (sc : Nat) (a2 : Option Addr) (n2 c2 : Nat) (a3 : Option Addr) (n3 c3 : Nat) (a4 : Option Addr) (n4 c4 : Nat), v = .agg #[.slice sa ss.length sc, .slice a2 n2 c2, .slice a3 n3 c3, .slice a4 n4 c4] ∧ Named W sa ss ∧ (ss.length : Int) ≤ 9223372036854775807 := by
  obtain ⟨v0, v1, v2, v3, y0, y1, y2, y3, n, rfl, _, _, h0, h1, h2, h3⟩ := open_agg4 Tryd.underlying27 (by kernel_rfl) (by kernel_rfl) hv h
  obtain ⟨a2, n2, c2, rfl⟩ := slice_shape Tryd.underlying23 h1
  obtain ⟨a3, n3, c3, rfl⟩ := slice_shape Tryd.underlying24 h2
  obtain ⟨a4, n4, c4, rfl⟩ := slice_shape Tryd.underlying25 h3
  rcases open_slice_pairs Tryd.underlying22 Tryd.underlying53 (by kernel_rfl) rfl rfl (by kernel_rfl) (by kernel_rfl) h0 with ⟨hcs, _⟩ | ⟨a, len, cap, m, n', V0, V1, D0, D1, P0, P1, hcs, _, hl, hm, hmm, _, hx⟩
  · injection hcs with hcs _
    subst hcs
    exact ⟨[], none, 0, a2, n2, c2, a3, n3, c3, a4, n4, c4, rfl, fun j s hj => by simp at hj, by decide⟩
  · injection hcs with hcs _
    subst hcs
    have hmc : m = cap := by simpa using hmm
    refine ⟨(List.range len).map fun i => strIn (V0 i), some a, cap, a2, n2, c2, a3, n3, c3, a4, n4, c4, by simp, fun j s hj => ?_, by simp; unfold maxLen at hm; omega⟩
    rw [List.getElem?_map] at hj
    have hjl : j < len := by
      by_cases hjl : j < len
      · exact hjl
      · rw [List.getElem?_eq_none (by simpa using hjl)] at hj; simp at hj
    rw [List.getElem?_range hjl] at hj
    simp at hj
    obtain ⟨k0, _, _, _⟩ := hx 0 (by omega)
    obtain ⟨b, off, spot⟩ := a
    have hspot : spot = none := by simpa [Addr.add] using World.cell?_spot k0
    subst hspot
    obtain ⟨k1, _, k3, _⟩ := hx j (by omega)
    obtain ⟨s', hs', _, _⟩ := DataW.trod_string Tryd.underlying9 k3
    injection hs' with hs' _
    refine ⟨b, off, rfl, ?_⟩
    rw [add_plain] at k1
    rw [k1, ← hj, hs']
    rfl
theorem open_i64 (hv : Value.okWide Tryd.prog W .any base 3 v) (h : DataW.Trod enc Tryd.prog W 0 (fun _ => true) true 3 v d ps) : ∃ y : Int, v = .int .i64 y ∧ -9223372036854775808 ≤ y ∧ y ≤ 9223372036854775807 := by
  obtain ⟨x, rfl, _, _, wx⟩ := open_int Tryd.underlying3 hv h
  refine ⟨x, rfl, ?_⟩
  simp [Lit.wf, IntKind.min, IntKind.max, IntKind.bits, IntKind.signed] at wx
  omega
end
end Go.Proofs.YtagfkapgjdaiaaaDoor
