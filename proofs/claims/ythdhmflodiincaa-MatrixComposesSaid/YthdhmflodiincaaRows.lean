/-
  No cell of these rows narrows 'for every input' (looked for: loops, veiled, ifaces, maps, wideKeys, modest, calm, conditions, laid).
  DERIVED. THE GIVEN ROWS OF THIS SEAT. 9 by the template 'for every input the law returns true; each argument reads behind the call as it read before'; 0 by the template 'total and deterministic' (their statements: YthdhmflodiincaaTotals.lean).
  GIVEN WITH THE SEED: the statements are not yours to turn. If you find one false, say at which input.
  Laid BY PROGRAM, IN A SANDBOX (cutbox-rows.mjs): the forced cells as the released guide's own fill.sh prints them over the translation ed8461466bcf840c… (all of the seat's roots in one cut). By AI agents, Wed Nov 11 2026. No macro, syntax, notation, axiom, sorry.
-/
import Derived.Test.YthdhmflodiincaaChecked
import GoSem.Claim
import GoSem.ClaimJoined
import GoSem.ClaimMapViews
import Derived.JoinedTies
import Derived.KernelRfl
namespace Go.Proofs.Ythdhmflodiincaa
/- THE CELL 'sum', in the pinned program and in every row, IS THE sha256 OF THE DUMP (.gsa) THAT YthdhmflodiincaaProg.lean LOADS. Nothing in Lean hashes anything: it is a label: what it is worth is what the hold of that sum in a sandbox is worth. -/
noncomputable def Try.pinned : Pinned := { name := "ythdhmflodiincaa", sum := "ed8461466bcf840c2b44a5746739c862b36aa053b35f2e5134265883a8d2b0eb", checked := Try.checked }
namespace Rows
def none {H : Type} : Left H := { results := [], args := [] }

/-- 'armaturelaw14.MatrixMatchesReference': WHATEVER THE INPUT: true; the input reads as it did. -/
def matrixMatchesReferenceSpec : ChangeSpec := { name := "matrixMatchesReference", fn := fun _ => fun
  | [d1, d2, d3, d4, d5, d6] => { results := [.lit (.bool true)], args := [d1, d2, d3, d4, d5, d6] }
  | _ => none }
def matrixMatchesReferenceRow : OpenClaim := { program := "ythdhmflodiincaa", sum := "ed8461466bcf840c2b44a5746739c862b36aa053b35f2e5134265883a8d2b0eb", func := "armature/armaturelaw14.MatrixMatchesReference", spec := "matrixMatchesReference", unfollowed := true, recurses := true, plainKeys := false, apart := false }
def MatrixMatchesReferenceSaid : Prop := matrixMatchesReferenceRow.holds Try.pinned (OpenSpec.ofChange matrixMatchesReferenceSpec)

/-- ITS FALSE NEIGHBOUR: 'it returns false'. Refute it at one input. -/
def matrixMatchesReferenceWrong : ChangeSpec := { name := "matrixMatchesReference", fn := fun _ => fun
  | [d1, d2, d3, d4, d5, d6] => { results := [.lit (.bool false)], args := [d1, d2, d3, d4, d5, d6] }
  | _ => none }
def MatrixMatchesReferenceWrongFalsely : Prop := matrixMatchesReferenceRow.holds Try.pinned (OpenSpec.ofChange matrixMatchesReferenceWrong)

/-- 'armaturelaw14.MatrixComposes': WHATEVER THE INPUT: true; the input reads as it did. -/
def matrixComposesSpec : ChangeSpec := { name := "matrixComposes", fn := fun _ => fun
  | [d1, d2, d3, d4] => { results := [.lit (.bool true)], args := [d1, d2, d3, d4] }
  | _ => none }
def matrixComposesRow : OpenClaim := { program := "ythdhmflodiincaa", sum := "ed8461466bcf840c2b44a5746739c862b36aa053b35f2e5134265883a8d2b0eb", func := "armature/armaturelaw14.MatrixComposes", spec := "matrixComposes", unfollowed := true, recurses := true, plainKeys := false, apart := false }
def MatrixComposesSaid : Prop := matrixComposesRow.holds Try.pinned (OpenSpec.ofChange matrixComposesSpec)

/-- ITS FALSE NEIGHBOUR: 'it returns false'. Refute it at one input. -/
def matrixComposesWrong : ChangeSpec := { name := "matrixComposes", fn := fun _ => fun
  | [d1, d2, d3, d4] => { results := [.lit (.bool false)], args := [d1, d2, d3, d4] }
  | _ => none }
def MatrixComposesWrongFalsely : Prop := matrixComposesRow.holds Try.pinned (OpenSpec.ofChange matrixComposesWrong)

/-- 'armaturelaw14.MatrixSetOperations': WHATEVER THE INPUT: true; the input reads as it did. -/
def matrixSetOperationsSpec : ChangeSpec := { name := "matrixSetOperations", fn := fun _ => fun
  | [d1, d2, d3, d4, d5] => { results := [.lit (.bool true)], args := [d1, d2, d3, d4, d5] }
  | _ => none }
def matrixSetOperationsRow : OpenClaim := { program := "ythdhmflodiincaa", sum := "ed8461466bcf840c2b44a5746739c862b36aa053b35f2e5134265883a8d2b0eb", func := "armature/armaturelaw14.MatrixSetOperations", spec := "matrixSetOperations", unfollowed := true, recurses := true, plainKeys := false, apart := false }
def MatrixSetOperationsSaid : Prop := matrixSetOperationsRow.holds Try.pinned (OpenSpec.ofChange matrixSetOperationsSpec)

/-- ITS FALSE NEIGHBOUR: 'it returns false'. Refute it at one input. -/
def matrixSetOperationsWrong : ChangeSpec := { name := "matrixSetOperations", fn := fun _ => fun
  | [d1, d2, d3, d4, d5] => { results := [.lit (.bool false)], args := [d1, d2, d3, d4, d5] }
  | _ => none }
def MatrixSetOperationsWrongFalsely : Prop := matrixSetOperationsRow.holds Try.pinned (OpenSpec.ofChange matrixSetOperationsWrong)

/-- 'armaturelaw14.MatrixPredicates': WHATEVER THE INPUT: true; the input reads as it did. -/
def matrixPredicatesSpec : ChangeSpec := { name := "matrixPredicates", fn := fun _ => fun
  | [d1, d2, d3, d4, d5] => { results := [.lit (.bool true)], args := [d1, d2, d3, d4, d5] }
  | _ => none }
def matrixPredicatesRow : OpenClaim := { program := "ythdhmflodiincaa", sum := "ed8461466bcf840c2b44a5746739c862b36aa053b35f2e5134265883a8d2b0eb", func := "armature/armaturelaw14.MatrixPredicates", spec := "matrixPredicates", unfollowed := true, recurses := true, plainKeys := false, apart := false }
def MatrixPredicatesSaid : Prop := matrixPredicatesRow.holds Try.pinned (OpenSpec.ofChange matrixPredicatesSpec)

/-- ITS FALSE NEIGHBOUR: 'it returns false'. Refute it at one input. -/
def matrixPredicatesWrong : ChangeSpec := { name := "matrixPredicates", fn := fun _ => fun
  | [d1, d2, d3, d4, d5] => { results := [.lit (.bool false)], args := [d1, d2, d3, d4, d5] }
  | _ => none }
def MatrixPredicatesWrongFalsely : Prop := matrixPredicatesRow.holds Try.pinned (OpenSpec.ofChange matrixPredicatesWrong)

/-- 'armaturelaw14.MatrixExtends': WHATEVER THE INPUT: true; the input reads as it did. -/
def matrixExtendsSpec : ChangeSpec := { name := "matrixExtends", fn := fun _ => fun
  | [d1, d2, d3, d4, d5] => { results := [.lit (.bool true)], args := [d1, d2, d3, d4, d5] }
  | _ => none }
def matrixExtendsRow : OpenClaim := { program := "ythdhmflodiincaa", sum := "ed8461466bcf840c2b44a5746739c862b36aa053b35f2e5134265883a8d2b0eb", func := "armature/armaturelaw14.MatrixExtends", spec := "matrixExtends", unfollowed := true, recurses := true, plainKeys := false, apart := false }
def MatrixExtendsSaid : Prop := matrixExtendsRow.holds Try.pinned (OpenSpec.ofChange matrixExtendsSpec)

/-- ITS FALSE NEIGHBOUR: 'it returns false'. Refute it at one input. -/
def matrixExtendsWrong : ChangeSpec := { name := "matrixExtends", fn := fun _ => fun
  | [d1, d2, d3, d4, d5] => { results := [.lit (.bool false)], args := [d1, d2, d3, d4, d5] }
  | _ => none }
def MatrixExtendsWrongFalsely : Prop := matrixExtendsRow.holds Try.pinned (OpenSpec.ofChange matrixExtendsWrong)

/-- 'armaturelaw15.ClosureMatchesReference': WHATEVER THE INPUT: true; the input reads as it did. -/
def closureMatchesReferenceSpec : ChangeSpec := { name := "closureMatchesReference", fn := fun _ => fun
  | [d1, d2, d3] => { results := [.lit (.bool true)], args := [d1, d2, d3] }
  | _ => none }
def closureMatchesReferenceRow : OpenClaim := { program := "ythdhmflodiincaa", sum := "ed8461466bcf840c2b44a5746739c862b36aa053b35f2e5134265883a8d2b0eb", func := "armature/armaturelaw15.ClosureMatchesReference", spec := "closureMatchesReference", unfollowed := true, recurses := true, plainKeys := false, apart := false }
def ClosureMatchesReferenceSaid : Prop := closureMatchesReferenceRow.holds Try.pinned (OpenSpec.ofChange closureMatchesReferenceSpec)

/-- ITS FALSE NEIGHBOUR: 'it returns false'. Refute it at one input. -/
def closureMatchesReferenceWrong : ChangeSpec := { name := "closureMatchesReference", fn := fun _ => fun
  | [d1, d2, d3] => { results := [.lit (.bool false)], args := [d1, d2, d3] }
  | _ => none }
def ClosureMatchesReferenceWrongFalsely : Prop := closureMatchesReferenceRow.holds Try.pinned (OpenSpec.ofChange closureMatchesReferenceWrong)

/-- 'armaturelaw15.ClosureDenotes': WHATEVER THE INPUT: true; the input reads as it did. -/
def closureDenotesSpec : ChangeSpec := { name := "closureDenotes", fn := fun _ => fun
  | [d1, d2, d3, d4] => { results := [.lit (.bool true)], args := [d1, d2, d3, d4] }
  | _ => none }
def closureDenotesRow : OpenClaim := { program := "ythdhmflodiincaa", sum := "ed8461466bcf840c2b44a5746739c862b36aa053b35f2e5134265883a8d2b0eb", func := "armature/armaturelaw15.ClosureDenotes", spec := "closureDenotes", unfollowed := true, recurses := true, plainKeys := false, apart := false }
def ClosureDenotesSaid : Prop := closureDenotesRow.holds Try.pinned (OpenSpec.ofChange closureDenotesSpec)

/-- ITS FALSE NEIGHBOUR: 'it returns false'. Refute it at one input. -/
def closureDenotesWrong : ChangeSpec := { name := "closureDenotes", fn := fun _ => fun
  | [d1, d2, d3, d4] => { results := [.lit (.bool false)], args := [d1, d2, d3, d4] }
  | _ => none }
def ClosureDenotesWrongFalsely : Prop := closureDenotesRow.holds Try.pinned (OpenSpec.ofChange closureDenotesWrong)

/-- 'armaturelaw15.ClosureExtends': WHATEVER THE INPUT: true; the input reads as it did. -/
def closureExtendsSpec : ChangeSpec := { name := "closureExtends", fn := fun _ => fun
  | [d1, d2, d3] => { results := [.lit (.bool true)], args := [d1, d2, d3] }
  | _ => none }
def closureExtendsRow : OpenClaim := { program := "ythdhmflodiincaa", sum := "ed8461466bcf840c2b44a5746739c862b36aa053b35f2e5134265883a8d2b0eb", func := "armature/armaturelaw15.ClosureExtends", spec := "closureExtends", unfollowed := true, recurses := true, plainKeys := false, apart := false }
def ClosureExtendsSaid : Prop := closureExtendsRow.holds Try.pinned (OpenSpec.ofChange closureExtendsSpec)

/-- ITS FALSE NEIGHBOUR: 'it returns false'. Refute it at one input. -/
def closureExtendsWrong : ChangeSpec := { name := "closureExtends", fn := fun _ => fun
  | [d1, d2, d3] => { results := [.lit (.bool false)], args := [d1, d2, d3] }
  | _ => none }
def ClosureExtendsWrongFalsely : Prop := closureExtendsRow.holds Try.pinned (OpenSpec.ofChange closureExtendsWrong)

/-- 'armaturelaw15.ClosureIdempotent': WHATEVER THE INPUT: true; the input reads as it did. -/
def closureIdempotentSpec : ChangeSpec := { name := "closureIdempotent", fn := fun _ => fun
  | [d1, d2, d3, d4] => { results := [.lit (.bool true)], args := [d1, d2, d3, d4] }
  | _ => none }
def closureIdempotentRow : OpenClaim := { program := "ythdhmflodiincaa", sum := "ed8461466bcf840c2b44a5746739c862b36aa053b35f2e5134265883a8d2b0eb", func := "armature/armaturelaw15.ClosureIdempotent", spec := "closureIdempotent", unfollowed := true, recurses := true, plainKeys := false, apart := false }
def ClosureIdempotentSaid : Prop := closureIdempotentRow.holds Try.pinned (OpenSpec.ofChange closureIdempotentSpec)

/-- ITS FALSE NEIGHBOUR: 'it returns false'. Refute it at one input. -/
def closureIdempotentWrong : ChangeSpec := { name := "closureIdempotent", fn := fun _ => fun
  | [d1, d2, d3, d4] => { results := [.lit (.bool false)], args := [d1, d2, d3, d4] }
  | _ => none }
def ClosureIdempotentWrongFalsely : Prop := closureIdempotentRow.holds Try.pinned (OpenSpec.ofChange closureIdempotentWrong)

/- THE SECOND FORM. 'bulk': how many values and letters a reading holds, each counted each time it is reached (what is shared counts as often as it is met; a slice's spare places count too). A statement '..UptoSaid' is the law's where the arguments, and the package variables that the reading takes, are together of bulk at most 1048576: NARROWER than '..Said'. Prove '..Said' where nothing that the law and all that it calls make is longer than what came in: it says more and counts as full. Else prove '..UptoSaid'. A law counts once. -/
mutual
def uptoBulk {H : Type} : DataW H → Nat
  | .lit (.string bytes) => bytes.length + 1
  | .lit _ => 1
  | .nil => 1
  | .ptr d => uptoBulk d + 1
  | .slice elems spare => uptoBulkAll elems + uptoBulkAll spare + 1
  | .agg parts => uptoBulkAll parts + 1
  | .iface _ d => uptoBulk d + 1
  | .map entries => uptoBulkEntries entries + 1
  | .held _ => 1
def uptoBulkAll {H : Type} : List (DataW H) → Nat
  | [] => 0
  | d :: r => uptoBulk d + uptoBulkAll r
def uptoBulkEntries {H : Type} : List (Lit × DataW H) → Nat
  | [] => 0
  | x :: r => uptoBulkEntry x + uptoBulkEntries r
def uptoBulkEntry {H : Type} : Lit × DataW H → Nat
  | (.string bytes, d) => bytes.length + uptoBulk d + 1
  | (_, d) => uptoBulk d + 1
 end
def uptoSmall : (H : Type) → List (DataW H) → Bool := fun _ ds => decide (uptoBulkAll ds ≤ 1048576)
def OpenSpec.upto (s : _root_.Go.ChangeSpec) : _root_.Go.OpenSpec := { _root_.Go.OpenSpec.ofChange s with cond := some uptoSmall }

/-- 'armaturelaw14.MatrixMatchesReference', WHERE WHAT IT READS IS OF BULK AT MOST 1048576: true; the input reads as it did. -/
def matrixMatchesReferenceUptoRow : OpenClaim := { program := "ythdhmflodiincaa", sum := "ed8461466bcf840c2b44a5746739c862b36aa053b35f2e5134265883a8d2b0eb", func := "armature/armaturelaw14.MatrixMatchesReference", spec := "matrixMatchesReference", unfollowed := true, recurses := true, plainKeys := false, apart := false, narrowed := true }
def MatrixMatchesReferenceUptoSaid : Prop := matrixMatchesReferenceUptoRow.holds Try.pinned (OpenSpec.upto matrixMatchesReferenceSpec)

/-- 'armaturelaw14.MatrixComposes', WHERE WHAT IT READS IS OF BULK AT MOST 1048576: true; the input reads as it did. -/
def matrixComposesUptoRow : OpenClaim := { program := "ythdhmflodiincaa", sum := "ed8461466bcf840c2b44a5746739c862b36aa053b35f2e5134265883a8d2b0eb", func := "armature/armaturelaw14.MatrixComposes", spec := "matrixComposes", unfollowed := true, recurses := true, plainKeys := false, apart := false, narrowed := true }
def MatrixComposesUptoSaid : Prop := matrixComposesUptoRow.holds Try.pinned (OpenSpec.upto matrixComposesSpec)

/-- 'armaturelaw14.MatrixSetOperations', WHERE WHAT IT READS IS OF BULK AT MOST 1048576: true; the input reads as it did. -/
def matrixSetOperationsUptoRow : OpenClaim := { program := "ythdhmflodiincaa", sum := "ed8461466bcf840c2b44a5746739c862b36aa053b35f2e5134265883a8d2b0eb", func := "armature/armaturelaw14.MatrixSetOperations", spec := "matrixSetOperations", unfollowed := true, recurses := true, plainKeys := false, apart := false, narrowed := true }
def MatrixSetOperationsUptoSaid : Prop := matrixSetOperationsUptoRow.holds Try.pinned (OpenSpec.upto matrixSetOperationsSpec)

/-- 'armaturelaw14.MatrixPredicates', WHERE WHAT IT READS IS OF BULK AT MOST 1048576: true; the input reads as it did. -/
def matrixPredicatesUptoRow : OpenClaim := { program := "ythdhmflodiincaa", sum := "ed8461466bcf840c2b44a5746739c862b36aa053b35f2e5134265883a8d2b0eb", func := "armature/armaturelaw14.MatrixPredicates", spec := "matrixPredicates", unfollowed := true, recurses := true, plainKeys := false, apart := false, narrowed := true }
def MatrixPredicatesUptoSaid : Prop := matrixPredicatesUptoRow.holds Try.pinned (OpenSpec.upto matrixPredicatesSpec)

/-- 'armaturelaw14.MatrixExtends', WHERE WHAT IT READS IS OF BULK AT MOST 1048576: true; the input reads as it did. -/
def matrixExtendsUptoRow : OpenClaim := { program := "ythdhmflodiincaa", sum := "ed8461466bcf840c2b44a5746739c862b36aa053b35f2e5134265883a8d2b0eb", func := "armature/armaturelaw14.MatrixExtends", spec := "matrixExtends", unfollowed := true, recurses := true, plainKeys := false, apart := false, narrowed := true }
def MatrixExtendsUptoSaid : Prop := matrixExtendsUptoRow.holds Try.pinned (OpenSpec.upto matrixExtendsSpec)

/-- 'armaturelaw15.ClosureMatchesReference', WHERE WHAT IT READS IS OF BULK AT MOST 1048576: true; the input reads as it did. -/
def closureMatchesReferenceUptoRow : OpenClaim := { program := "ythdhmflodiincaa", sum := "ed8461466bcf840c2b44a5746739c862b36aa053b35f2e5134265883a8d2b0eb", func := "armature/armaturelaw15.ClosureMatchesReference", spec := "closureMatchesReference", unfollowed := true, recurses := true, plainKeys := false, apart := false, narrowed := true }
def ClosureMatchesReferenceUptoSaid : Prop := closureMatchesReferenceUptoRow.holds Try.pinned (OpenSpec.upto closureMatchesReferenceSpec)

/-- 'armaturelaw15.ClosureDenotes', WHERE WHAT IT READS IS OF BULK AT MOST 1048576: true; the input reads as it did. -/
def closureDenotesUptoRow : OpenClaim := { program := "ythdhmflodiincaa", sum := "ed8461466bcf840c2b44a5746739c862b36aa053b35f2e5134265883a8d2b0eb", func := "armature/armaturelaw15.ClosureDenotes", spec := "closureDenotes", unfollowed := true, recurses := true, plainKeys := false, apart := false, narrowed := true }
def ClosureDenotesUptoSaid : Prop := closureDenotesUptoRow.holds Try.pinned (OpenSpec.upto closureDenotesSpec)

/-- 'armaturelaw15.ClosureExtends', WHERE WHAT IT READS IS OF BULK AT MOST 1048576: true; the input reads as it did. -/
def closureExtendsUptoRow : OpenClaim := { program := "ythdhmflodiincaa", sum := "ed8461466bcf840c2b44a5746739c862b36aa053b35f2e5134265883a8d2b0eb", func := "armature/armaturelaw15.ClosureExtends", spec := "closureExtends", unfollowed := true, recurses := true, plainKeys := false, apart := false, narrowed := true }
def ClosureExtendsUptoSaid : Prop := closureExtendsUptoRow.holds Try.pinned (OpenSpec.upto closureExtendsSpec)

/-- 'armaturelaw15.ClosureIdempotent', WHERE WHAT IT READS IS OF BULK AT MOST 1048576: true; the input reads as it did. -/
def closureIdempotentUptoRow : OpenClaim := { program := "ythdhmflodiincaa", sum := "ed8461466bcf840c2b44a5746739c862b36aa053b35f2e5134265883a8d2b0eb", func := "armature/armaturelaw15.ClosureIdempotent", spec := "closureIdempotent", unfollowed := true, recurses := true, plainKeys := false, apart := false, narrowed := true }
def ClosureIdempotentUptoSaid : Prop := closureIdempotentUptoRow.holds Try.pinned (OpenSpec.upto closureIdempotentSpec)

end Rows
end Go.Proofs.Ythdhmflodiincaa
