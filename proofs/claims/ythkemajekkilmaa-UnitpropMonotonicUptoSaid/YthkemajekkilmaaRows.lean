/-
  No cell of these rows narrows 'for every input' (looked for: loops, veiled, ifaces, maps, wideKeys, modest, calm, conditions, laid).
  DERIVED. THE GIVEN ROWS OF THIS SEAT. 7 by the template 'for every input the law returns true; each argument reads behind the call as it read before'; 0 by the template 'total and deterministic' (their statements: YthkemajekkilmaaTotals.lean).
  GIVEN WITH THE SEED: the statements are not yours to turn. If you find one false, say at which input.
  Laid BY PROGRAM, IN A SANDBOX (cutbox-rows.mjs): the forced cells as the released guide's own fill.sh prints them over the translation 744b294ca623507d… (all of the seat's roots in one cut). By AI agents, Wed Nov 11 2026. No macro, syntax, notation, axiom, sorry.
-/
import Derived.Test.YthkemajekkilmaaChecked
import GoSem.Claim
import GoSem.ClaimJoined
import GoSem.ClaimMapViews
import Derived.JoinedTies
import Derived.KernelRfl
namespace Go.Proofs.Ythkemajekkilmaa
/- THE CELL 'sum', in the pinned program and in every row, IS THE sha256 OF THE DUMP (.gsa) THAT YthkemajekkilmaaProg.lean LOADS. Nothing in Lean hashes anything: it is a label: what it is worth is what the hold of that sum in a sandbox is worth. -/
noncomputable def Try.pinned : Pinned := { name := "ythkemajekkilmaa", sum := "744b294ca623507d3953c18b3a84ccbba7114c384b971be0bbfe0a603533f5f2", checked := Try.checked }
namespace Rows
def none {H : Type} : Left H := { results := [], args := [] }

/-- 'armaturelaw20.UnitpropMatchesReference': WHATEVER THE INPUT: true; the input reads as it did. -/
def unitpropMatchesReferenceSpec : ChangeSpec := { name := "unitpropMatchesReference", fn := fun _ => fun
  | [d1, d2, d3] => { results := [.lit (.bool true)], args := [d1, d2, d3] }
  | _ => none }
def unitpropMatchesReferenceRow : OpenClaim := { program := "ythkemajekkilmaa", sum := "744b294ca623507d3953c18b3a84ccbba7114c384b971be0bbfe0a603533f5f2", func := "armature/armaturelaw20.UnitpropMatchesReference", spec := "unitpropMatchesReference", unfollowed := true, recurses := true, apart := false }
def UnitpropMatchesReferenceSaid : Prop := unitpropMatchesReferenceRow.holds Try.pinned (OpenSpec.ofChange unitpropMatchesReferenceSpec)

/-- ITS FALSE NEIGHBOUR: 'it returns false'. Refute it at one input. -/
def unitpropMatchesReferenceWrong : ChangeSpec := { name := "unitpropMatchesReference", fn := fun _ => fun
  | [d1, d2, d3] => { results := [.lit (.bool false)], args := [d1, d2, d3] }
  | _ => none }
def UnitpropMatchesReferenceWrongFalsely : Prop := unitpropMatchesReferenceRow.holds Try.pinned (OpenSpec.ofChange unitpropMatchesReferenceWrong)

/-- 'armaturelaw20.UnitpropSound': WHATEVER THE INPUT: true; the input reads as it did. -/
def unitpropSoundSpec : ChangeSpec := { name := "unitpropSound", fn := fun _ => fun
  | [d1, d2, d3] => { results := [.lit (.bool true)], args := [d1, d2, d3] }
  | _ => none }
def unitpropSoundRow : OpenClaim := { program := "ythkemajekkilmaa", sum := "744b294ca623507d3953c18b3a84ccbba7114c384b971be0bbfe0a603533f5f2", func := "armature/armaturelaw20.UnitpropSound", spec := "unitpropSound", unfollowed := true, recurses := true, apart := false }
def UnitpropSoundSaid : Prop := unitpropSoundRow.holds Try.pinned (OpenSpec.ofChange unitpropSoundSpec)

/-- ITS FALSE NEIGHBOUR: 'it returns false'. Refute it at one input. -/
def unitpropSoundWrong : ChangeSpec := { name := "unitpropSound", fn := fun _ => fun
  | [d1, d2, d3] => { results := [.lit (.bool false)], args := [d1, d2, d3] }
  | _ => none }
def UnitpropSoundWrongFalsely : Prop := unitpropSoundRow.holds Try.pinned (OpenSpec.ofChange unitpropSoundWrong)

/-- 'armaturelaw20.UnitpropClosed': WHATEVER THE INPUT: true; the input reads as it did. -/
def unitpropClosedSpec : ChangeSpec := { name := "unitpropClosed", fn := fun _ => fun
  | [d1, d2] => { results := [.lit (.bool true)], args := [d1, d2] }
  | _ => none }
def unitpropClosedRow : OpenClaim := { program := "ythkemajekkilmaa", sum := "744b294ca623507d3953c18b3a84ccbba7114c384b971be0bbfe0a603533f5f2", func := "armature/armaturelaw20.UnitpropClosed", spec := "unitpropClosed", unfollowed := true, recurses := true, apart := false }
def UnitpropClosedSaid : Prop := unitpropClosedRow.holds Try.pinned (OpenSpec.ofChange unitpropClosedSpec)

/-- ITS FALSE NEIGHBOUR: 'it returns false'. Refute it at one input. -/
def unitpropClosedWrong : ChangeSpec := { name := "unitpropClosed", fn := fun _ => fun
  | [d1, d2] => { results := [.lit (.bool false)], args := [d1, d2] }
  | _ => none }
def UnitpropClosedWrongFalsely : Prop := unitpropClosedRow.holds Try.pinned (OpenSpec.ofChange unitpropClosedWrong)

/-- 'armaturelaw20.UnitpropOrder': WHATEVER THE INPUT: true; the input reads as it did. -/
def unitpropOrderSpec : ChangeSpec := { name := "unitpropOrder", fn := fun _ => fun
  | [d1, d2, d3] => { results := [.lit (.bool true)], args := [d1, d2, d3] }
  | _ => none }
def unitpropOrderRow : OpenClaim := { program := "ythkemajekkilmaa", sum := "744b294ca623507d3953c18b3a84ccbba7114c384b971be0bbfe0a603533f5f2", func := "armature/armaturelaw20.UnitpropOrder", spec := "unitpropOrder", unfollowed := true, recurses := true, apart := false }
def UnitpropOrderSaid : Prop := unitpropOrderRow.holds Try.pinned (OpenSpec.ofChange unitpropOrderSpec)

/-- ITS FALSE NEIGHBOUR: 'it returns false'. Refute it at one input. -/
def unitpropOrderWrong : ChangeSpec := { name := "unitpropOrder", fn := fun _ => fun
  | [d1, d2, d3] => { results := [.lit (.bool false)], args := [d1, d2, d3] }
  | _ => none }
def UnitpropOrderWrongFalsely : Prop := unitpropOrderRow.holds Try.pinned (OpenSpec.ofChange unitpropOrderWrong)

/-- 'armaturelaw20.UnitpropReasons': WHATEVER THE INPUT: true; the input reads as it did. -/
def unitpropReasonsSpec : ChangeSpec := { name := "unitpropReasons", fn := fun _ => fun
  | [d1, d2] => { results := [.lit (.bool true)], args := [d1, d2] }
  | _ => none }
def unitpropReasonsRow : OpenClaim := { program := "ythkemajekkilmaa", sum := "744b294ca623507d3953c18b3a84ccbba7114c384b971be0bbfe0a603533f5f2", func := "armature/armaturelaw20.UnitpropReasons", spec := "unitpropReasons", unfollowed := true, recurses := true, apart := false }
def UnitpropReasonsSaid : Prop := unitpropReasonsRow.holds Try.pinned (OpenSpec.ofChange unitpropReasonsSpec)

/-- ITS FALSE NEIGHBOUR: 'it returns false'. Refute it at one input. -/
def unitpropReasonsWrong : ChangeSpec := { name := "unitpropReasons", fn := fun _ => fun
  | [d1, d2] => { results := [.lit (.bool false)], args := [d1, d2] }
  | _ => none }
def UnitpropReasonsWrongFalsely : Prop := unitpropReasonsRow.holds Try.pinned (OpenSpec.ofChange unitpropReasonsWrong)

/-- 'armaturelaw20.UnitpropMonotonic': WHATEVER THE INPUT: true; the input reads as it did. -/
def unitpropMonotonicSpec : ChangeSpec := { name := "unitpropMonotonic", fn := fun _ => fun
  | [d1, d2, d3, d4, d5] => { results := [.lit (.bool true)], args := [d1, d2, d3, d4, d5] }
  | _ => none }
def unitpropMonotonicRow : OpenClaim := { program := "ythkemajekkilmaa", sum := "744b294ca623507d3953c18b3a84ccbba7114c384b971be0bbfe0a603533f5f2", func := "armature/armaturelaw20.UnitpropMonotonic", spec := "unitpropMonotonic", unfollowed := true, recurses := true, apart := false }
def UnitpropMonotonicSaid : Prop := unitpropMonotonicRow.holds Try.pinned (OpenSpec.ofChange unitpropMonotonicSpec)

/-- ITS FALSE NEIGHBOUR: 'it returns false'. Refute it at one input. -/
def unitpropMonotonicWrong : ChangeSpec := { name := "unitpropMonotonic", fn := fun _ => fun
  | [d1, d2, d3, d4, d5] => { results := [.lit (.bool false)], args := [d1, d2, d3, d4, d5] }
  | _ => none }
def UnitpropMonotonicWrongFalsely : Prop := unitpropMonotonicRow.holds Try.pinned (OpenSpec.ofChange unitpropMonotonicWrong)

/-- 'armaturelaw20.UnitpropHorn': WHATEVER THE INPUT: true; the input reads as it did. -/
def unitpropHornSpec : ChangeSpec := { name := "unitpropHorn", fn := fun _ => fun
  | [d] => { results := [.lit (.bool true)], args := [d] }
  | _ => none }
def unitpropHornRow : OpenClaim := { program := "ythkemajekkilmaa", sum := "744b294ca623507d3953c18b3a84ccbba7114c384b971be0bbfe0a603533f5f2", func := "armature/armaturelaw20.UnitpropHorn", spec := "unitpropHorn", unfollowed := true, recurses := true, apart := false }
def UnitpropHornSaid : Prop := unitpropHornRow.holds Try.pinned (OpenSpec.ofChange unitpropHornSpec)

/-- ITS FALSE NEIGHBOUR: 'it returns false'. Refute it at one input. -/
def unitpropHornWrong : ChangeSpec := { name := "unitpropHorn", fn := fun _ => fun
  | [d] => { results := [.lit (.bool false)], args := [d] }
  | _ => none }
def UnitpropHornWrongFalsely : Prop := unitpropHornRow.holds Try.pinned (OpenSpec.ofChange unitpropHornWrong)

/- THE SECOND FORM. 'bulk': how many values and letters a reading holds, each counted each time it is reached (what is shared counts as often as it is met; a slice's spare places count too). A statement '..UptoSaid' is the law's where the arguments, and the package variables that the reading takes, are together of bulk at most 1048576: NARROWER than '..Said'. Prove '..Said' where nothing that the law and all that it calls make is longer than what came in: it says more and counts as full. Else prove '..UptoSaid'. A law counts once. -/
mutual
def uptoBulk {H : Type} : DataW H → Nat
  | .lit (.string bytes) => bytes.length + 1
  | .lit _ => 1
  | .nil => 1
  | .ptr d => uptoBulk d + 1
  | .slice elems spare => uptoBulkAll elems + uptoBulkAll spare + 1
  | .agg parts => uptoBulkAll parts + 1
  | .iface _ d => uptoBulk d + 1
  | .map entries => uptoBulkEntries entries + 1
  | .held _ => 1
def uptoBulkAll {H : Type} : List (DataW H) → Nat
  | [] => 0
  | d :: r => uptoBulk d + uptoBulkAll r
def uptoBulkEntries {H : Type} : List (Lit × DataW H) → Nat
  | [] => 0
  | x :: r => uptoBulkEntry x + uptoBulkEntries r
def uptoBulkEntry {H : Type} : Lit × DataW H → Nat
  | (.string bytes, d) => bytes.length + uptoBulk d + 1
  | (_, d) => uptoBulk d + 1
 end
def uptoSmall : (H : Type) → List (DataW H) → Bool := fun _ ds => decide (uptoBulkAll ds ≤ 1048576)
def OpenSpec.upto (s : _root_.Go.ChangeSpec) : _root_.Go.OpenSpec := { _root_.Go.OpenSpec.ofChange s with cond := some uptoSmall }

/-- 'armaturelaw20.UnitpropMatchesReference', WHERE WHAT IT READS IS OF BULK AT MOST 1048576: true; the input reads as it did. -/
def unitpropMatchesReferenceUptoRow : OpenClaim := { program := "ythkemajekkilmaa", sum := "744b294ca623507d3953c18b3a84ccbba7114c384b971be0bbfe0a603533f5f2", func := "armature/armaturelaw20.UnitpropMatchesReference", spec := "unitpropMatchesReference", unfollowed := true, recurses := true, apart := false, narrowed := true }
def UnitpropMatchesReferenceUptoSaid : Prop := unitpropMatchesReferenceUptoRow.holds Try.pinned (OpenSpec.upto unitpropMatchesReferenceSpec)

/-- 'armaturelaw20.UnitpropSound', WHERE WHAT IT READS IS OF BULK AT MOST 1048576: true; the input reads as it did. -/
def unitpropSoundUptoRow : OpenClaim := { program := "ythkemajekkilmaa", sum := "744b294ca623507d3953c18b3a84ccbba7114c384b971be0bbfe0a603533f5f2", func := "armature/armaturelaw20.UnitpropSound", spec := "unitpropSound", unfollowed := true, recurses := true, apart := false, narrowed := true }
def UnitpropSoundUptoSaid : Prop := unitpropSoundUptoRow.holds Try.pinned (OpenSpec.upto unitpropSoundSpec)

/-- 'armaturelaw20.UnitpropClosed', WHERE WHAT IT READS IS OF BULK AT MOST 1048576: true; the input reads as it did. -/
def unitpropClosedUptoRow : OpenClaim := { program := "ythkemajekkilmaa", sum := "744b294ca623507d3953c18b3a84ccbba7114c384b971be0bbfe0a603533f5f2", func := "armature/armaturelaw20.UnitpropClosed", spec := "unitpropClosed", unfollowed := true, recurses := true, apart := false, narrowed := true }
def UnitpropClosedUptoSaid : Prop := unitpropClosedUptoRow.holds Try.pinned (OpenSpec.upto unitpropClosedSpec)

/-- 'armaturelaw20.UnitpropOrder', WHERE WHAT IT READS IS OF BULK AT MOST 1048576: true; the input reads as it did. -/
def unitpropOrderUptoRow : OpenClaim := { program := "ythkemajekkilmaa", sum := "744b294ca623507d3953c18b3a84ccbba7114c384b971be0bbfe0a603533f5f2", func := "armature/armaturelaw20.UnitpropOrder", spec := "unitpropOrder", unfollowed := true, recurses := true, apart := false, narrowed := true }
def UnitpropOrderUptoSaid : Prop := unitpropOrderUptoRow.holds Try.pinned (OpenSpec.upto unitpropOrderSpec)

/-- 'armaturelaw20.UnitpropReasons', WHERE WHAT IT READS IS OF BULK AT MOST 1048576: true; the input reads as it did. -/
def unitpropReasonsUptoRow : OpenClaim := { program := "ythkemajekkilmaa", sum := "744b294ca623507d3953c18b3a84ccbba7114c384b971be0bbfe0a603533f5f2", func := "armature/armaturelaw20.UnitpropReasons", spec := "unitpropReasons", unfollowed := true, recurses := true, apart := false, narrowed := true }
def UnitpropReasonsUptoSaid : Prop := unitpropReasonsUptoRow.holds Try.pinned (OpenSpec.upto unitpropReasonsSpec)

/-- 'armaturelaw20.UnitpropMonotonic', WHERE WHAT IT READS IS OF BULK AT MOST 1048576: true; the input reads as it did. -/
def unitpropMonotonicUptoRow : OpenClaim := { program := "ythkemajekkilmaa", sum := "744b294ca623507d3953c18b3a84ccbba7114c384b971be0bbfe0a603533f5f2", func := "armature/armaturelaw20.UnitpropMonotonic", spec := "unitpropMonotonic", unfollowed := true, recurses := true, apart := false, narrowed := true }
def UnitpropMonotonicUptoSaid : Prop := unitpropMonotonicUptoRow.holds Try.pinned (OpenSpec.upto unitpropMonotonicSpec)

/-- 'armaturelaw20.UnitpropHorn', WHERE WHAT IT READS IS OF BULK AT MOST 1048576: true; the input reads as it did. -/
def unitpropHornUptoRow : OpenClaim := { program := "ythkemajekkilmaa", sum := "744b294ca623507d3953c18b3a84ccbba7114c384b971be0bbfe0a603533f5f2", func := "armature/armaturelaw20.UnitpropHorn", spec := "unitpropHorn", unfollowed := true, recurses := true, apart := false, narrowed := true }
def UnitpropHornUptoSaid : Prop := unitpropHornUptoRow.holds Try.pinned (OpenSpec.upto unitpropHornSpec)

end Rows
end Go.Proofs.Ythkemajekkilmaa
