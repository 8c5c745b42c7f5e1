/-
  No cell of these rows narrows 'for every input' (looked for: loops, veiled, ifaces, maps, wideKeys, modest, calm, conditions, laid).
  DERIVED. THE GIVEN ROWS OF THIS SEAT. 7 by the template 'for every input the law returns true; each argument reads behind the call as it read before'; 0 by the template 'total and deterministic' (their statements: YtllljcbdinckgaaTotals.lean).
  GIVEN WITH THE SEED: the statements are not yours to turn. If you find one false, say at which input.
  Laid BY PROGRAM, IN A SANDBOX (cutbox-rows.mjs): the forced cells as the released guide's own fill.sh prints them over the translation 0df3b0ab7dcf0841… (all of the seat's roots in one cut). By AI agents, Wed Nov 11 2026. No macro, syntax, notation, axiom, sorry.
-/
import Derived.Test.YtllljcbdinckgaaChecked
import GoSem.Claim
import GoSem.ClaimJoined
import GoSem.ClaimMapViews
import Derived.JoinedTies
import Derived.KernelRfl
namespace Go.Proofs.Ytllljcbdinckgaa
/- THE CELL 'sum', in the pinned program and in every row, IS THE sha256 OF THE DUMP (.gsa) THAT YtllljcbdinckgaaProg.lean LOADS. Nothing in Lean hashes anything: it is a label: what it is worth is what the hold of that sum in a sandbox is worth. -/
noncomputable def Try.pinned : Pinned := { name := "ytllljcbdinckgaa", sum := "0df3b0ab7dcf0841ecccf77001540f7702c6b602a303cca7d9bc5908e055e004", checked := Try.checked }
namespace Rows
def none {H : Type} : Left H := { results := [], args := [] }

/-- 'armaturelaw13.CircuitMatchesReference': WHATEVER THE INPUT: true; the input reads as it did. -/
def circuitMatchesReferenceSpec : ChangeSpec := { name := "circuitMatchesReference", fn := fun _ => fun
  | [d1, d2, d3, d4, d5, d6] => { results := [.lit (.bool true)], args := [d1, d2, d3, d4, d5, d6] }
  | _ => none }
def circuitMatchesReferenceRow : OpenClaim := { program := "ytllljcbdinckgaa", sum := "0df3b0ab7dcf0841ecccf77001540f7702c6b602a303cca7d9bc5908e055e004", func := "armature/armaturelaw13.CircuitMatchesReference", spec := "circuitMatchesReference", unfollowed := true, recurses := true, plainKeys := false, apart := false }
def CircuitMatchesReferenceSaid : Prop := circuitMatchesReferenceRow.holds Try.pinned (OpenSpec.ofChange circuitMatchesReferenceSpec)

/-- ITS FALSE NEIGHBOUR: 'it returns false'. Refute it at one input. -/
def circuitMatchesReferenceWrong : ChangeSpec := { name := "circuitMatchesReference", fn := fun _ => fun
  | [d1, d2, d3, d4, d5, d6] => { results := [.lit (.bool false)], args := [d1, d2, d3, d4, d5, d6] }
  | _ => none }
def CircuitMatchesReferenceWrongFalsely : Prop := circuitMatchesReferenceRow.holds Try.pinned (OpenSpec.ofChange circuitMatchesReferenceWrong)

/-- 'armaturelaw13.CircuitStaysValid': WHATEVER THE INPUT: true; the input reads as it did. -/
def circuitStaysValidSpec : ChangeSpec := { name := "circuitStaysValid", fn := fun _ => fun
  | [d] => { results := [.lit (.bool true)], args := [d] }
  | _ => none }
def circuitStaysValidRow : OpenClaim := { program := "ytllljcbdinckgaa", sum := "0df3b0ab7dcf0841ecccf77001540f7702c6b602a303cca7d9bc5908e055e004", func := "armature/armaturelaw13.CircuitStaysValid", spec := "circuitStaysValid", unfollowed := true, recurses := true, plainKeys := false, apart := false }
def CircuitStaysValidSaid : Prop := circuitStaysValidRow.holds Try.pinned (OpenSpec.ofChange circuitStaysValidSpec)

/-- ITS FALSE NEIGHBOUR: 'it returns false'. Refute it at one input. -/
def circuitStaysValidWrong : ChangeSpec := { name := "circuitStaysValid", fn := fun _ => fun
  | [d] => { results := [.lit (.bool false)], args := [d] }
  | _ => none }
def CircuitStaysValidWrongFalsely : Prop := circuitStaysValidRow.holds Try.pinned (OpenSpec.ofChange circuitStaysValidWrong)

/-- 'armaturelaw13.CircuitSemantics': WHATEVER THE INPUT: true; the input reads as it did. -/
def circuitSemanticsSpec : ChangeSpec := { name := "circuitSemantics", fn := fun _ => fun
  | [d1, d2, d3, d4, d5] => { results := [.lit (.bool true)], args := [d1, d2, d3, d4, d5] }
  | _ => none }
def circuitSemanticsRow : OpenClaim := { program := "ytllljcbdinckgaa", sum := "0df3b0ab7dcf0841ecccf77001540f7702c6b602a303cca7d9bc5908e055e004", func := "armature/armaturelaw13.CircuitSemantics", spec := "circuitSemantics", unfollowed := true, recurses := true, plainKeys := false, apart := false }
def CircuitSemanticsSaid : Prop := circuitSemanticsRow.holds Try.pinned (OpenSpec.ofChange circuitSemanticsSpec)

/-- ITS FALSE NEIGHBOUR: 'it returns false'. Refute it at one input. -/
def circuitSemanticsWrong : ChangeSpec := { name := "circuitSemantics", fn := fun _ => fun
  | [d1, d2, d3, d4, d5] => { results := [.lit (.bool false)], args := [d1, d2, d3, d4, d5] }
  | _ => none }
def CircuitSemanticsWrongFalsely : Prop := circuitSemanticsRow.holds Try.pinned (OpenSpec.ofChange circuitSemanticsWrong)

/-- 'armaturelaw13.CircuitExtends': WHATEVER THE INPUT: true; the input reads as it did. -/
def circuitExtendsSpec : ChangeSpec := { name := "circuitExtends", fn := fun _ => fun
  | [d1, d2, d3, d4, d5] => { results := [.lit (.bool true)], args := [d1, d2, d3, d4, d5] }
  | _ => none }
def circuitExtendsRow : OpenClaim := { program := "ytllljcbdinckgaa", sum := "0df3b0ab7dcf0841ecccf77001540f7702c6b602a303cca7d9bc5908e055e004", func := "armature/armaturelaw13.CircuitExtends", spec := "circuitExtends", unfollowed := true, recurses := true, plainKeys := false, apart := false }
def CircuitExtendsSaid : Prop := circuitExtendsRow.holds Try.pinned (OpenSpec.ofChange circuitExtendsSpec)

/-- ITS FALSE NEIGHBOUR: 'it returns false'. Refute it at one input. -/
def circuitExtendsWrong : ChangeSpec := { name := "circuitExtends", fn := fun _ => fun
  | [d1, d2, d3, d4, d5] => { results := [.lit (.bool false)], args := [d1, d2, d3, d4, d5] }
  | _ => none }
def CircuitExtendsWrongFalsely : Prop := circuitExtendsRow.holds Try.pinned (OpenSpec.ofChange circuitExtendsWrong)

/-- 'armaturelaw13.CircuitShares': WHATEVER THE INPUT: true; the input reads as it did. -/
def circuitSharesSpec : ChangeSpec := { name := "circuitShares", fn := fun _ => fun
  | [d1, d2, d3] => { results := [.lit (.bool true)], args := [d1, d2, d3] }
  | _ => none }
def circuitSharesRow : OpenClaim := { program := "ytllljcbdinckgaa", sum := "0df3b0ab7dcf0841ecccf77001540f7702c6b602a303cca7d9bc5908e055e004", func := "armature/armaturelaw13.CircuitShares", spec := "circuitShares", unfollowed := true, recurses := true, plainKeys := false, apart := false }
def CircuitSharesSaid : Prop := circuitSharesRow.holds Try.pinned (OpenSpec.ofChange circuitSharesSpec)

/-- ITS FALSE NEIGHBOUR: 'it returns false'. Refute it at one input. -/
def circuitSharesWrong : ChangeSpec := { name := "circuitShares", fn := fun _ => fun
  | [d1, d2, d3] => { results := [.lit (.bool false)], args := [d1, d2, d3] }
  | _ => none }
def CircuitSharesWrongFalsely : Prop := circuitSharesRow.holds Try.pinned (OpenSpec.ofChange circuitSharesWrong)

/-- 'armaturelaw13.CircuitSimplifies': WHATEVER THE INPUT: true; the input reads as it did. -/
def circuitSimplifiesSpec : ChangeSpec := { name := "circuitSimplifies", fn := fun _ => fun
  | [d1, d2] => { results := [.lit (.bool true)], args := [d1, d2] }
  | _ => none }
def circuitSimplifiesRow : OpenClaim := { program := "ytllljcbdinckgaa", sum := "0df3b0ab7dcf0841ecccf77001540f7702c6b602a303cca7d9bc5908e055e004", func := "armature/armaturelaw13.CircuitSimplifies", spec := "circuitSimplifies", unfollowed := true, recurses := true, plainKeys := false, apart := false }
def CircuitSimplifiesSaid : Prop := circuitSimplifiesRow.holds Try.pinned (OpenSpec.ofChange circuitSimplifiesSpec)

/-- ITS FALSE NEIGHBOUR: 'it returns false'. Refute it at one input. -/
def circuitSimplifiesWrong : ChangeSpec := { name := "circuitSimplifies", fn := fun _ => fun
  | [d1, d2] => { results := [.lit (.bool false)], args := [d1, d2] }
  | _ => none }
def CircuitSimplifiesWrongFalsely : Prop := circuitSimplifiesRow.holds Try.pinned (OpenSpec.ofChange circuitSimplifiesWrong)

/-- 'armaturelaw13.CircuitCone': WHATEVER THE INPUT: true; the input reads as it did. -/
def circuitConeSpec : ChangeSpec := { name := "circuitCone", fn := fun _ => fun
  | [d1, d2, d3, d4] => { results := [.lit (.bool true)], args := [d1, d2, d3, d4] }
  | _ => none }
def circuitConeRow : OpenClaim := { program := "ytllljcbdinckgaa", sum := "0df3b0ab7dcf0841ecccf77001540f7702c6b602a303cca7d9bc5908e055e004", func := "armature/armaturelaw13.CircuitCone", spec := "circuitCone", unfollowed := true, recurses := true, plainKeys := false, apart := false }
def CircuitConeSaid : Prop := circuitConeRow.holds Try.pinned (OpenSpec.ofChange circuitConeSpec)

/-- ITS FALSE NEIGHBOUR: 'it returns false'. Refute it at one input. -/
def circuitConeWrong : ChangeSpec := { name := "circuitCone", fn := fun _ => fun
  | [d1, d2, d3, d4] => { results := [.lit (.bool false)], args := [d1, d2, d3, d4] }
  | _ => none }
def CircuitConeWrongFalsely : Prop := circuitConeRow.holds Try.pinned (OpenSpec.ofChange circuitConeWrong)

/- THE SECOND FORM. 'bulk': how many values and letters a reading holds, each counted each time it is reached (what is shared counts as often as it is met; a slice's spare places count too). A statement '..UptoSaid' is the law's where the arguments, and the package variables that the reading takes, are together of bulk at most 1048576: NARROWER than '..Said'. Prove '..Said' where nothing that the law and all that it calls make is longer than what came in: it says more and counts as full. Else prove '..UptoSaid'. A law counts once. -/
mutual
def uptoBulk {H : Type} : DataW H → Nat
  | .lit (.string bytes) => bytes.length + 1
  | .lit _ => 1
  | .nil => 1
  | .ptr d => uptoBulk d + 1
  | .slice elems spare => uptoBulkAll elems + uptoBulkAll spare + 1
  | .agg parts => uptoBulkAll parts + 1
  | .iface _ d => uptoBulk d + 1
  | .map entries => uptoBulkEntries entries + 1
  | .held _ => 1
def uptoBulkAll {H : Type} : List (DataW H) → Nat
  | [] => 0
  | d :: r => uptoBulk d + uptoBulkAll r
def uptoBulkEntries {H : Type} : List (Lit × DataW H) → Nat
  | [] => 0
  | x :: r => uptoBulkEntry x + uptoBulkEntries r
def uptoBulkEntry {H : Type} : Lit × DataW H → Nat
  | (.string bytes, d) => bytes.length + uptoBulk d + 1
  | (_, d) => uptoBulk d + 1
 end
def uptoSmall : (H : Type) → List (DataW H) → Bool := fun _ ds => decide (uptoBulkAll ds ≤ 1048576)
def OpenSpec.upto (s : _root_.Go.ChangeSpec) : _root_.Go.OpenSpec := { _root_.Go.OpenSpec.ofChange s with cond := some uptoSmall }

/-- 'armaturelaw13.CircuitMatchesReference', WHERE WHAT IT READS IS OF BULK AT MOST 1048576: true; the input reads as it did. -/
def circuitMatchesReferenceUptoRow : OpenClaim := { program := "ytllljcbdinckgaa", sum := "0df3b0ab7dcf0841ecccf77001540f7702c6b602a303cca7d9bc5908e055e004", func := "armature/armaturelaw13.CircuitMatchesReference", spec := "circuitMatchesReference", unfollowed := true, recurses := true, plainKeys := false, apart := false, narrowed := true }
def CircuitMatchesReferenceUptoSaid : Prop := circuitMatchesReferenceUptoRow.holds Try.pinned (OpenSpec.upto circuitMatchesReferenceSpec)

/-- 'armaturelaw13.CircuitStaysValid', WHERE WHAT IT READS IS OF BULK AT MOST 1048576: true; the input reads as it did. -/
def circuitStaysValidUptoRow : OpenClaim := { program := "ytllljcbdinckgaa", sum := "0df3b0ab7dcf0841ecccf77001540f7702c6b602a303cca7d9bc5908e055e004", func := "armature/armaturelaw13.CircuitStaysValid", spec := "circuitStaysValid", unfollowed := true, recurses := true, plainKeys := false, apart := false, narrowed := true }
def CircuitStaysValidUptoSaid : Prop := circuitStaysValidUptoRow.holds Try.pinned (OpenSpec.upto circuitStaysValidSpec)

/-- 'armaturelaw13.CircuitSemantics', WHERE WHAT IT READS IS OF BULK AT MOST 1048576: true; the input reads as it did. -/
def circuitSemanticsUptoRow : OpenClaim := { program := "ytllljcbdinckgaa", sum := "0df3b0ab7dcf0841ecccf77001540f7702c6b602a303cca7d9bc5908e055e004", func := "armature/armaturelaw13.CircuitSemantics", spec := "circuitSemantics", unfollowed := true, recurses := true, plainKeys := false, apart := false, narrowed := true }
def CircuitSemanticsUptoSaid : Prop := circuitSemanticsUptoRow.holds Try.pinned (OpenSpec.upto circuitSemanticsSpec)

/-- 'armaturelaw13.CircuitExtends', WHERE WHAT IT READS IS OF BULK AT MOST 1048576: true; the input reads as it did. -/
def circuitExtendsUptoRow : OpenClaim := { program := "ytllljcbdinckgaa", sum := "0df3b0ab7dcf0841ecccf77001540f7702c6b602a303cca7d9bc5908e055e004", func := "armature/armaturelaw13.CircuitExtends", spec := "circuitExtends", unfollowed := true, recurses := true, plainKeys := false, apart := false, narrowed := true }
def CircuitExtendsUptoSaid : Prop := circuitExtendsUptoRow.holds Try.pinned (OpenSpec.upto circuitExtendsSpec)

/-- 'armaturelaw13.CircuitShares', WHERE WHAT IT READS IS OF BULK AT MOST 1048576: true; the input reads as it did. -/
def circuitSharesUptoRow : OpenClaim := { program := "ytllljcbdinckgaa", sum := "0df3b0ab7dcf0841ecccf77001540f7702c6b602a303cca7d9bc5908e055e004", func := "armature/armaturelaw13.CircuitShares", spec := "circuitShares", unfollowed := true, recurses := true, plainKeys := false, apart := false, narrowed := true }
def CircuitSharesUptoSaid : Prop := circuitSharesUptoRow.holds Try.pinned (OpenSpec.upto circuitSharesSpec)

/-- 'armaturelaw13.CircuitSimplifies', WHERE WHAT IT READS IS OF BULK AT MOST 1048576: true; the input reads as it did. -/
def circuitSimplifiesUptoRow : OpenClaim := { program := "ytllljcbdinckgaa", sum := "0df3b0ab7dcf0841ecccf77001540f7702c6b602a303cca7d9bc5908e055e004", func := "armature/armaturelaw13.CircuitSimplifies", spec := "circuitSimplifies", unfollowed := true, recurses := true, plainKeys := false, apart := false, narrowed := true }
def CircuitSimplifiesUptoSaid : Prop := circuitSimplifiesUptoRow.holds Try.pinned (OpenSpec.upto circuitSimplifiesSpec)

/-- 'armaturelaw13.CircuitCone', WHERE WHAT IT READS IS OF BULK AT MOST 1048576: true; the input reads as it did. -/
def circuitConeUptoRow : OpenClaim := { program := "ytllljcbdinckgaa", sum := "0df3b0ab7dcf0841ecccf77001540f7702c6b602a303cca7d9bc5908e055e004", func := "armature/armaturelaw13.CircuitCone", spec := "circuitCone", unfollowed := true, recurses := true, plainKeys := false, apart := false, narrowed := true }
def CircuitConeUptoSaid : Prop := circuitConeUptoRow.holds Try.pinned (OpenSpec.upto circuitConeSpec)

end Rows
end Go.Proofs.Ytllljcbdinckgaa
