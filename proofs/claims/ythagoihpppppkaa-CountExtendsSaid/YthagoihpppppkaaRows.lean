/-
  No cell of these rows narrows 'for every input' (looked for: loops, veiled, ifaces, maps, wideKeys, modest, calm, conditions, laid).
  DERIVED. THE GIVEN ROWS OF THIS SEAT. 7 by the template 'for every input the law returns true; each argument reads behind the call as it read before'; 0 by the template 'total and deterministic' (their statements: YthagoihpppppkaaTotals.lean).
  GIVEN WITH THE SEED: the statements are not yours to turn. If you find one false, say at which input.
  Laid BY PROGRAM, IN A SANDBOX (cutbox-rows.mjs): the forced cells as the released guide's own fill.sh prints them over the translation 351d2bd33ce2f7b2… (all of the seat's roots in one cut). By AI agents, Wed Nov 11 2026. No macro, syntax, notation, axiom, sorry.
-/
import Derived.Test.YthagoihpppppkaaChecked
import GoSem.Claim
import GoSem.ClaimJoined
import GoSem.ClaimMapViews
import Derived.JoinedTies
import Derived.KernelRfl
namespace Go.Proofs.Ythagoihpppppkaa
/- THE CELL 'sum', in the pinned program and in every row, IS THE sha256 OF THE DUMP (.gsa) THAT YthagoihpppppkaaProg.lean LOADS. Nothing in Lean hashes anything: it is a label: what it is worth is what the hold of that sum in a sandbox is worth. -/
noncomputable def Try.pinned : Pinned := { name := "ythagoihpppppkaa", sum := "351d2bd33ce2f7b24d18004e1caaa149788a3459a067147aa105d2bf673559d3", checked := Try.checked }
namespace Rows
def none {H : Type} : Left H := { results := [], args := [] }

/-- 'armaturelaw16.CountMatchesReference': WHATEVER THE INPUT: true; the input reads as it did. -/
def countMatchesReferenceSpec : ChangeSpec := { name := "countMatchesReference", fn := fun _ => fun
  | [d1, d2] => { results := [.lit (.bool true)], args := [d1, d2] }
  | _ => none }
def countMatchesReferenceRow : OpenClaim := { program := "ythagoihpppppkaa", sum := "351d2bd33ce2f7b24d18004e1caaa149788a3459a067147aa105d2bf673559d3", func := "armature/armaturelaw16.CountMatchesReference", spec := "countMatchesReference", unfollowed := true, recurses := true, plainKeys := false, apart := false }
def CountMatchesReferenceSaid : Prop := countMatchesReferenceRow.holds Try.pinned (OpenSpec.ofChange countMatchesReferenceSpec)

/-- ITS FALSE NEIGHBOUR: 'it returns false'. Refute it at one input. -/
def countMatchesReferenceWrong : ChangeSpec := { name := "countMatchesReference", fn := fun _ => fun
  | [d1, d2] => { results := [.lit (.bool false)], args := [d1, d2] }
  | _ => none }
def CountMatchesReferenceWrongFalsely : Prop := countMatchesReferenceRow.holds Try.pinned (OpenSpec.ofChange countMatchesReferenceWrong)

/-- 'armaturelaw16.CountExtends': WHATEVER THE INPUT: true; the input reads as it did. -/
def countExtendsSpec : ChangeSpec := { name := "countExtends", fn := fun _ => fun
  | [d1, d2] => { results := [.lit (.bool true)], args := [d1, d2] }
  | _ => none }
def countExtendsRow : OpenClaim := { program := "ythagoihpppppkaa", sum := "351d2bd33ce2f7b24d18004e1caaa149788a3459a067147aa105d2bf673559d3", func := "armature/armaturelaw16.CountExtends", spec := "countExtends", unfollowed := true, recurses := true, plainKeys := false, apart := false }
def CountExtendsSaid : Prop := countExtendsRow.holds Try.pinned (OpenSpec.ofChange countExtendsSpec)

/-- ITS FALSE NEIGHBOUR: 'it returns false'. Refute it at one input. -/
def countExtendsWrong : ChangeSpec := { name := "countExtends", fn := fun _ => fun
  | [d1, d2] => { results := [.lit (.bool false)], args := [d1, d2] }
  | _ => none }
def CountExtendsWrongFalsely : Prop := countExtendsRow.holds Try.pinned (OpenSpec.ofChange countExtendsWrong)

/-- 'armaturelaw16.CountSorterSize': WHATEVER THE INPUT: true; the input reads as it did. -/
def countSorterSizeSpec : ChangeSpec := { name := "countSorterSize", fn := fun _ => fun
  | [d] => { results := [.lit (.bool true)], args := [d] }
  | _ => none }
def countSorterSizeRow : OpenClaim := { program := "ythagoihpppppkaa", sum := "351d2bd33ce2f7b24d18004e1caaa149788a3459a067147aa105d2bf673559d3", func := "armature/armaturelaw16.CountSorterSize", spec := "countSorterSize", unfollowed := true, recurses := true, plainKeys := false, apart := false }
def CountSorterSizeSaid : Prop := countSorterSizeRow.holds Try.pinned (OpenSpec.ofChange countSorterSizeSpec)

/-- ITS FALSE NEIGHBOUR: 'it returns false'. Refute it at one input. -/
def countSorterSizeWrong : ChangeSpec := { name := "countSorterSize", fn := fun _ => fun
  | [d] => { results := [.lit (.bool false)], args := [d] }
  | _ => none }
def CountSorterSizeWrongFalsely : Prop := countSorterSizeRow.holds Try.pinned (OpenSpec.ofChange countSorterSizeWrong)

/-- 'armaturelaw16.CountPermuted': WHATEVER THE INPUT: true; the input reads as it did. -/
def countPermutedSpec : ChangeSpec := { name := "countPermuted", fn := fun _ => fun
  | [d1, d2] => { results := [.lit (.bool true)], args := [d1, d2] }
  | _ => none }
def countPermutedRow : OpenClaim := { program := "ythagoihpppppkaa", sum := "351d2bd33ce2f7b24d18004e1caaa149788a3459a067147aa105d2bf673559d3", func := "armature/armaturelaw16.CountPermuted", spec := "countPermuted", unfollowed := true, recurses := true, plainKeys := false, apart := false }
def CountPermutedSaid : Prop := countPermutedRow.holds Try.pinned (OpenSpec.ofChange countPermutedSpec)

/-- ITS FALSE NEIGHBOUR: 'it returns false'. Refute it at one input. -/
def countPermutedWrong : ChangeSpec := { name := "countPermuted", fn := fun _ => fun
  | [d1, d2] => { results := [.lit (.bool false)], args := [d1, d2] }
  | _ => none }
def CountPermutedWrongFalsely : Prop := countPermutedRow.holds Try.pinned (OpenSpec.ofChange countPermutedWrong)

/-- 'armaturelaw16.CountThresholds': WHATEVER THE INPUT: true; the input reads as it did. -/
def countThresholdsSpec : ChangeSpec := { name := "countThresholds", fn := fun _ => fun
  | [d1, d2] => { results := [.lit (.bool true)], args := [d1, d2] }
  | _ => none }
def countThresholdsRow : OpenClaim := { program := "ythagoihpppppkaa", sum := "351d2bd33ce2f7b24d18004e1caaa149788a3459a067147aa105d2bf673559d3", func := "armature/armaturelaw16.CountThresholds", spec := "countThresholds", unfollowed := true, recurses := true, plainKeys := false, apart := false }
def CountThresholdsSaid : Prop := countThresholdsRow.holds Try.pinned (OpenSpec.ofChange countThresholdsSpec)

/-- ITS FALSE NEIGHBOUR: 'it returns false'. Refute it at one input. -/
def countThresholdsWrong : ChangeSpec := { name := "countThresholds", fn := fun _ => fun
  | [d1, d2] => { results := [.lit (.bool false)], args := [d1, d2] }
  | _ => none }
def CountThresholdsWrongFalsely : Prop := countThresholdsRow.holds Try.pinned (OpenSpec.ofChange countThresholdsWrong)

/-- 'armaturelaw16.CountSums': WHATEVER THE INPUT: true; the input reads as it did. -/
def countSumsSpec : ChangeSpec := { name := "countSums", fn := fun _ => fun
  | [d] => { results := [.lit (.bool true)], args := [d] }
  | _ => none }
def countSumsRow : OpenClaim := { program := "ythagoihpppppkaa", sum := "351d2bd33ce2f7b24d18004e1caaa149788a3459a067147aa105d2bf673559d3", func := "armature/armaturelaw16.CountSums", spec := "countSums", unfollowed := true, recurses := true, plainKeys := false, apart := false }
def CountSumsSaid : Prop := countSumsRow.holds Try.pinned (OpenSpec.ofChange countSumsSpec)

/-- ITS FALSE NEIGHBOUR: 'it returns false'. Refute it at one input. -/
def countSumsWrong : ChangeSpec := { name := "countSums", fn := fun _ => fun
  | [d] => { results := [.lit (.bool false)], args := [d] }
  | _ => none }
def CountSumsWrongFalsely : Prop := countSumsRow.holds Try.pinned (OpenSpec.ofChange countSumsWrong)

/-- 'armaturelaw16.CountComparisons': WHATEVER THE INPUT: true; the input reads as it did. -/
def countComparisonsSpec : ChangeSpec := { name := "countComparisons", fn := fun _ => fun
  | [d] => { results := [.lit (.bool true)], args := [d] }
  | _ => none }
def countComparisonsRow : OpenClaim := { program := "ythagoihpppppkaa", sum := "351d2bd33ce2f7b24d18004e1caaa149788a3459a067147aa105d2bf673559d3", func := "armature/armaturelaw16.CountComparisons", spec := "countComparisons", unfollowed := true, recurses := true, plainKeys := false, apart := false }
def CountComparisonsSaid : Prop := countComparisonsRow.holds Try.pinned (OpenSpec.ofChange countComparisonsSpec)

/-- ITS FALSE NEIGHBOUR: 'it returns false'. Refute it at one input. -/
def countComparisonsWrong : ChangeSpec := { name := "countComparisons", fn := fun _ => fun
  | [d] => { results := [.lit (.bool false)], args := [d] }
  | _ => none }
def CountComparisonsWrongFalsely : Prop := countComparisonsRow.holds Try.pinned (OpenSpec.ofChange countComparisonsWrong)

/- THE SECOND FORM. 'bulk': how many values and letters a reading holds, each counted each time it is reached (what is shared counts as often as it is met; a slice's spare places count too). A statement '..UptoSaid' is the law's where the arguments, and the package variables that the reading takes, are together of bulk at most 1048576: NARROWER than '..Said'. Prove '..Said' where nothing that the law and all that it calls make is longer than what came in: it says more and counts as full. Else prove '..UptoSaid'. A law counts once. -/
mutual
def uptoBulk {H : Type} : DataW H → Nat
  | .lit (.string bytes) => bytes.length + 1
  | .lit _ => 1
  | .nil => 1
  | .ptr d => uptoBulk d + 1
  | .slice elems spare => uptoBulkAll elems + uptoBulkAll spare + 1
  | .agg parts => uptoBulkAll parts + 1
  | .iface _ d => uptoBulk d + 1
  | .map entries => uptoBulkEntries entries + 1
  | .held _ => 1
def uptoBulkAll {H : Type} : List (DataW H) → Nat
  | [] => 0
  | d :: r => uptoBulk d + uptoBulkAll r
def uptoBulkEntries {H : Type} : List (Lit × DataW H) → Nat
  | [] => 0
  | x :: r => uptoBulkEntry x + uptoBulkEntries r
def uptoBulkEntry {H : Type} : Lit × DataW H → Nat
  | (.string bytes, d) => bytes.length + uptoBulk d + 1
  | (_, d) => uptoBulk d + 1
 end
def uptoSmall : (H : Type) → List (DataW H) → Bool := fun _ ds => decide (uptoBulkAll ds ≤ 1048576)
def OpenSpec.upto (s : _root_.Go.ChangeSpec) : _root_.Go.OpenSpec := { _root_.Go.OpenSpec.ofChange s with cond := some uptoSmall }

/-- 'armaturelaw16.CountMatchesReference', WHERE WHAT IT READS IS OF BULK AT MOST 1048576: true; the input reads as it did. -/
def countMatchesReferenceUptoRow : OpenClaim := { program := "ythagoihpppppkaa", sum := "351d2bd33ce2f7b24d18004e1caaa149788a3459a067147aa105d2bf673559d3", func := "armature/armaturelaw16.CountMatchesReference", spec := "countMatchesReference", unfollowed := true, recurses := true, plainKeys := false, apart := false, narrowed := true }
def CountMatchesReferenceUptoSaid : Prop := countMatchesReferenceUptoRow.holds Try.pinned (OpenSpec.upto countMatchesReferenceSpec)

/-- 'armaturelaw16.CountExtends', WHERE WHAT IT READS IS OF BULK AT MOST 1048576: true; the input reads as it did. -/
def countExtendsUptoRow : OpenClaim := { program := "ythagoihpppppkaa", sum := "351d2bd33ce2f7b24d18004e1caaa149788a3459a067147aa105d2bf673559d3", func := "armature/armaturelaw16.CountExtends", spec := "countExtends", unfollowed := true, recurses := true, plainKeys := false, apart := false, narrowed := true }
def CountExtendsUptoSaid : Prop := countExtendsUptoRow.holds Try.pinned (OpenSpec.upto countExtendsSpec)

/-- 'armaturelaw16.CountSorterSize', WHERE WHAT IT READS IS OF BULK AT MOST 1048576: true; the input reads as it did. -/
def countSorterSizeUptoRow : OpenClaim := { program := "ythagoihpppppkaa", sum := "351d2bd33ce2f7b24d18004e1caaa149788a3459a067147aa105d2bf673559d3", func := "armature/armaturelaw16.CountSorterSize", spec := "countSorterSize", unfollowed := true, recurses := true, plainKeys := false, apart := false, narrowed := true }
def CountSorterSizeUptoSaid : Prop := countSorterSizeUptoRow.holds Try.pinned (OpenSpec.upto countSorterSizeSpec)

/-- 'armaturelaw16.CountPermuted', WHERE WHAT IT READS IS OF BULK AT MOST 1048576: true; the input reads as it did. -/
def countPermutedUptoRow : OpenClaim := { program := "ythagoihpppppkaa", sum := "351d2bd33ce2f7b24d18004e1caaa149788a3459a067147aa105d2bf673559d3", func := "armature/armaturelaw16.CountPermuted", spec := "countPermuted", unfollowed := true, recurses := true, plainKeys := false, apart := false, narrowed := true }
def CountPermutedUptoSaid : Prop := countPermutedUptoRow.holds Try.pinned (OpenSpec.upto countPermutedSpec)

/-- 'armaturelaw16.CountThresholds', WHERE WHAT IT READS IS OF BULK AT MOST 1048576: true; the input reads as it did. -/
def countThresholdsUptoRow : OpenClaim := { program := "ythagoihpppppkaa", sum := "351d2bd33ce2f7b24d18004e1caaa149788a3459a067147aa105d2bf673559d3", func := "armature/armaturelaw16.CountThresholds", spec := "countThresholds", unfollowed := true, recurses := true, plainKeys := false, apart := false, narrowed := true }
def CountThresholdsUptoSaid : Prop := countThresholdsUptoRow.holds Try.pinned (OpenSpec.upto countThresholdsSpec)

/-- 'armaturelaw16.CountSums', WHERE WHAT IT READS IS OF BULK AT MOST 1048576: true; the input reads as it did. -/
def countSumsUptoRow : OpenClaim := { program := "ythagoihpppppkaa", sum := "351d2bd33ce2f7b24d18004e1caaa149788a3459a067147aa105d2bf673559d3", func := "armature/armaturelaw16.CountSums", spec := "countSums", unfollowed := true, recurses := true, plainKeys := false, apart := false, narrowed := true }
def CountSumsUptoSaid : Prop := countSumsUptoRow.holds Try.pinned (OpenSpec.upto countSumsSpec)

/-- 'armaturelaw16.CountComparisons', WHERE WHAT IT READS IS OF BULK AT MOST 1048576: true; the input reads as it did. -/
def countComparisonsUptoRow : OpenClaim := { program := "ythagoihpppppkaa", sum := "351d2bd33ce2f7b24d18004e1caaa149788a3459a067147aa105d2bf673559d3", func := "armature/armaturelaw16.CountComparisons", spec := "countComparisons", unfollowed := true, recurses := true, plainKeys := false, apart := false, narrowed := true }
def CountComparisonsUptoSaid : Prop := countComparisonsUptoRow.holds Try.pinned (OpenSpec.upto countComparisonsSpec)

end Rows
end Go.Proofs.Ythagoihpppppkaa
