/- UnitpropMonotonic is proved: for every input that is not greater than that, the law returns true and leaves its arguments as they were (more clauses and assumptions preserve conflicts and implied literals); the condition is that the arguments together hold at most 1048576 values. -/
import Derived.JoinedCond
import Derived.Test.YthkemajekkilmaaGA10
import Derived.Test.YthkemajekkilmaaE8
import Derived.Test.YthkemajekkilmaaGA14
namespace Go.Proofs.Ythkemajekkilmaa
open Go.ChangeShapes Go.WideShapes Go.ChangeAt Go.WideMaps Go.WideElems Go.RowKit

set_option maxRecDepth 100000 in
theorem unitpropMonotonic_lifted (os : Os) (started : os.Started) (H : Type) (enc : TypeId × Value → H) (F : Stop.Interp) :
    ReturnsInHanded {} Try.checked os 8 .any ((Rows.OpenSpec.upto Rows.unitpropMonotonicSpec).pre6 enc Try.prog Try.f8 Rows.unitpropMonotonicUptoRow.domain false) (((Rows.OpenSpec.upto Rows.unitpropMonotonicSpec).at F).post enc Try.prog Try.f8 false true false false) := by
  refine returnsInHanded_of_cond (C := Try.checked) (s := Rows.OpenSpec.upto Rows.unitpropMonotonicSpec) (k := Rows.uptoSmall) rfl own started (by kernel_rfl) Try.func8
    (OpenSpec.witness (enc := enc) (C := Try.checked) (s := Rows.OpenSpec.upto Rows.unitpropMonotonicSpec) (k := Rows.uptoSmall) rfl false ⟨#[], #[.agg #[.int .i64 0, .slice none 0 0], .slice none 0 0, .slice none 0 0, .slice none 0 0, .slice none 0 0], []⟩ 8 (by kernel_rfl) (by kernel_rfl) (by kernel_rfl)
      (x := ([.agg [.lit (.int .i64 0), .nil], .nil, .nil, .nil, .nil], [], [])) (by kernel_rfl) rfl (by kernel_rfl)) ?_
  intro W base args ds gs before hval0 hW _ hk _
  have hval : ∀ (j : Nat) t v, Try.f8.params[j]? = some t → args[j]? = some v → Value.okWide Try.prog W .any base t v := hval0
  have hW' := hW
  obtain ⟨p, q, hA0, hV, rfl, _, _⟩ := hW
  have hA : DataW.TrodAll enc Try.prog W 0 (fun _ => true) true Try.f8.params.toList args.toList ds p := hA0
  rw [Try.params8] at hA hval
  have hpl : ∀ x ∈ p, x.block < W.heap.size := fun x hx => hW'.lt x (by simp [hx])
  have hA2 := hA
  obtain ⟨v0, v1, v2, v3, v4, d0, d1, d2, d3, d4, p0, p1, p2, p3, p4, rfl, rfl, rfl, h0, h1, h2, h3, h4⟩ := trodAll_five20 hA
  obtain ⟨rfl, rfl⟩ := trodVars_none hV
  obtain ⟨x0, g0, ga0, gc0, rfl, hg0, hx0, hw0⟩ := open_cnf (hval 0 24 v0 rfl rfl) h0
  obtain ⟨l1, la1, lc1, rfl, hl1, hn1⟩ := open_ints (hval 1 25 v1 rfl rfl) h1
  obtain ⟨m2, ma2, mc2, rfl, hm2, hn2, hw2⟩ := open_cls (hval 2 22 v2 rfl rfl) h2
  obtain ⟨l3, la3, lc3, rfl, hl3, hn3⟩ := open_ints (hval 3 25 v3 rfl rfl) h3
  obtain ⟨l4, la4, lc4, rfl, hl4, hn4⟩ := open_ints (hval 4 25 v4 rfl rfl) h4
  have hbig : g0.length + m2.length ≤ 2000000 := by
    have h5 := of_decide_eq_true hk
    have h6 := cnf_weight h0
    have h7 := cls_weight h2
    simp only [List.cons_append, List.nil_append, Rows.uptoBulkAll] at h5
    omega
  refine (monotonic_calls x0 g0 ga0 gc0 l1 la1 lc1 m2 ma2 mc2 l3 la3 lc3 l4 la4 lc4 W hg0 hl1 hm2 hl3 hl4 hbig).mono fun e W' ⟨he, hw⟩ => ?_
  subst he
  have hbl := below_of hw
  exact ⟨_, rfl, _, _, _, [], _, [], hW', trodAll_mk1 (shut_bool Try.underlying4 _), trodAll_below hbl (by decide +kernel) hA2 hpl, rfl, hbl.frame _, fun h => by cases h⟩

theorem unitpropMonotonic_holds : Rows.UnitpropMonotonicUptoSaid :=
  OpenClaim.holds_of_cond 8 Try.f8 rfl rfl rfl rfl rfl rfl rfl ⟨rfl, rfl, rfl, rfl, rfl⟩ rfl rfl rfl rfl rfl (by kernel_rfl) Try.func8 (by kernel_rfl)
    (of_decide_eq_true (by kernel_rfl)) (by unfold Func.isWrapper; rw [if_neg (of_decide_eq_false (by kernel_rfl))]; exact ⟨rfl, rfl⟩)
    (fun os started H enc _ F => unitpropMonotonic_lifted os started H enc F)
end Go.Proofs.Ythkemajekkilmaa
