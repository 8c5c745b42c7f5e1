/-
  NARROWER THAN 'FOR EVERY INPUT', by the rows' own cells (each row's printed sentence says how): ModelMatchesReference: loops · ModelValidShortest: loops · ModelRejects: loops · BoundsMatchesReference: loops · BoundsDefault: loops · BoundsMeet: loops · BoundsFree: loops · BoundsStates: loops · BoundsNarrower: loops.
  DERIVED. THE GIVEN ROWS OF THIS SEAT. 13 by the template 'for every input the law returns true; each argument reads behind the call as it read before'; 0 by the template 'total and deterministic' (their statements: YtbddpjofhddilaaTotals.lean).
  GIVEN WITH THE SEED: the statements are not yours to turn. If you find one false, say at which input.
  Laid BY PROGRAM, IN A SANDBOX (cutbox-rows.mjs): the forced cells as the released guide's own fill.sh prints them over the translation 623441cc3ad1264c… (all of the seat's roots in one cut). By AI agents, Wed Nov 11 2026. No macro, syntax, notation, axiom, sorry.
-/
import Derived.Test.YtbddpjofhddilaaChecked
import GoSem.Claim
import GoSem.ClaimJoined
import GoSem.ClaimMapViews
import Derived.JoinedTies
import Derived.KernelRfl
namespace Go.Proofs.Ytbddpjofhddilaa
/- THE CELL 'sum', in the pinned program and in every row, IS THE sha256 OF THE DUMP (.gsa) THAT YtbddpjofhddilaaProg.lean LOADS. Nothing in Lean hashes anything: it is a label: what it is worth is what the hold of that sum in a sandbox is worth. -/
noncomputable def Try.pinned : Pinned := { name := "ytbddpjofhddilaa", sum := "623441cc3ad1264c6a8bed47237cd6a64c2289d1db78ed855d6c6eaaea53303a", checked := Try.checked }
namespace Rows
def none {H : Type} : Left H := { results := [], args := [] }

/-- 'armaturelaw07.ModelMatchesReference': WHATEVER THE INPUT: true; the input reads as it did. -/
def modelMatchesReferenceSpec : ChangeSpec := { name := "modelMatchesReference", fn := fun _ => fun
  | [d1, d2, d3, d4, d5] => { results := [.lit (.bool true)], args := [d1, d2, d3, d4, d5] }
  | _ => none }
def modelMatchesReferenceRow : OpenClaim := { program := "ytbddpjofhddilaa", sum := "623441cc3ad1264c6a8bed47237cd6a64c2289d1db78ed855d6c6eaaea53303a", func := "armature/armaturelaw07.ModelMatchesReference", spec := "modelMatchesReference", unfollowed := true, recurses := true, loops := true, apart := false }
def ModelMatchesReferenceSaid : Prop := modelMatchesReferenceRow.holds Try.pinned (OpenSpec.ofChange modelMatchesReferenceSpec)

/-- ITS FALSE NEIGHBOUR: 'it returns false'. Refute it at one input. -/
def modelMatchesReferenceWrong : ChangeSpec := { name := "modelMatchesReference", fn := fun _ => fun
  | [d1, d2, d3, d4, d5] => { results := [.lit (.bool false)], args := [d1, d2, d3, d4, d5] }
  | _ => none }
def ModelMatchesReferenceWrongFalsely : Prop := modelMatchesReferenceRow.holds Try.pinned (OpenSpec.ofChange modelMatchesReferenceWrong)

/-- 'armaturelaw07.ModelTimes': WHATEVER THE INPUT: true; the input reads as it did. -/
def modelTimesSpec : ChangeSpec := { name := "modelTimes", fn := fun _ => fun
  | [d1, d2] => { results := [.lit (.bool true)], args := [d1, d2] }
  | _ => none }
def modelTimesRow : OpenClaim := { program := "ytbddpjofhddilaa", sum := "623441cc3ad1264c6a8bed47237cd6a64c2289d1db78ed855d6c6eaaea53303a", func := "armature/armaturelaw07.ModelTimes", spec := "modelTimes", unfollowed := true, recurses := true, apart := false }
def ModelTimesSaid : Prop := modelTimesRow.holds Try.pinned (OpenSpec.ofChange modelTimesSpec)

/-- ITS FALSE NEIGHBOUR: 'it returns false'. Refute it at one input. -/
def modelTimesWrong : ChangeSpec := { name := "modelTimes", fn := fun _ => fun
  | [d1, d2] => { results := [.lit (.bool false)], args := [d1, d2] }
  | _ => none }
def ModelTimesWrongFalsely : Prop := modelTimesRow.holds Try.pinned (OpenSpec.ofChange modelTimesWrong)

/-- 'armaturelaw07.ModelSameTraceIsEquivalence': WHATEVER THE INPUT: true; the input reads as it did. -/
def modelSameTraceIsEquivalenceSpec : ChangeSpec := { name := "modelSameTraceIsEquivalence", fn := fun _ => fun
  | [d1, d2, d3] => { results := [.lit (.bool true)], args := [d1, d2, d3] }
  | _ => none }
def modelSameTraceIsEquivalenceRow : OpenClaim := { program := "ytbddpjofhddilaa", sum := "623441cc3ad1264c6a8bed47237cd6a64c2289d1db78ed855d6c6eaaea53303a", func := "armature/armaturelaw07.ModelSameTraceIsEquivalence", spec := "modelSameTraceIsEquivalence", unfollowed := true, recurses := true, apart := false }
def ModelSameTraceIsEquivalenceSaid : Prop := modelSameTraceIsEquivalenceRow.holds Try.pinned (OpenSpec.ofChange modelSameTraceIsEquivalenceSpec)

/-- ITS FALSE NEIGHBOUR: 'it returns false'. Refute it at one input. -/
def modelSameTraceIsEquivalenceWrong : ChangeSpec := { name := "modelSameTraceIsEquivalence", fn := fun _ => fun
  | [d1, d2, d3] => { results := [.lit (.bool false)], args := [d1, d2, d3] }
  | _ => none }
def ModelSameTraceIsEquivalenceWrongFalsely : Prop := modelSameTraceIsEquivalenceRow.holds Try.pinned (OpenSpec.ofChange modelSameTraceIsEquivalenceWrong)

/-- 'armaturelaw07.ModelUnrolls': WHATEVER THE INPUT: true; the input reads as it did. -/
def modelUnrollsSpec : ChangeSpec := { name := "modelUnrolls", fn := fun _ => fun
  | [d] => { results := [.lit (.bool true)], args := [d] }
  | _ => none }
def modelUnrollsRow : OpenClaim := { program := "ytbddpjofhddilaa", sum := "623441cc3ad1264c6a8bed47237cd6a64c2289d1db78ed855d6c6eaaea53303a", func := "armature/armaturelaw07.ModelUnrolls", spec := "modelUnrolls", unfollowed := true, recurses := true, apart := false }
def ModelUnrollsSaid : Prop := modelUnrollsRow.holds Try.pinned (OpenSpec.ofChange modelUnrollsSpec)

/-- ITS FALSE NEIGHBOUR: 'it returns false'. Refute it at one input. -/
def modelUnrollsWrong : ChangeSpec := { name := "modelUnrolls", fn := fun _ => fun
  | [d] => { results := [.lit (.bool false)], args := [d] }
  | _ => none }
def ModelUnrollsWrongFalsely : Prop := modelUnrollsRow.holds Try.pinned (OpenSpec.ofChange modelUnrollsWrong)

/-- 'armaturelaw07.ModelShortest': WHATEVER THE INPUT: true; the input reads as it did. -/
def modelShortestSpec : ChangeSpec := { name := "modelShortest", fn := fun _ => fun
  | [d] => { results := [.lit (.bool true)], args := [d] }
  | _ => none }
def modelShortestRow : OpenClaim := { program := "ytbddpjofhddilaa", sum := "623441cc3ad1264c6a8bed47237cd6a64c2289d1db78ed855d6c6eaaea53303a", func := "armature/armaturelaw07.ModelShortest", spec := "modelShortest", unfollowed := true, recurses := true, apart := false }
def ModelShortestSaid : Prop := modelShortestRow.holds Try.pinned (OpenSpec.ofChange modelShortestSpec)

/-- ITS FALSE NEIGHBOUR: 'it returns false'. Refute it at one input. -/
def modelShortestWrong : ChangeSpec := { name := "modelShortest", fn := fun _ => fun
  | [d] => { results := [.lit (.bool false)], args := [d] }
  | _ => none }
def ModelShortestWrongFalsely : Prop := modelShortestRow.holds Try.pinned (OpenSpec.ofChange modelShortestWrong)

/-- 'armaturelaw07.ModelValidShortest': WHATEVER THE INPUT: true; the input reads as it did. -/
def modelValidShortestSpec : ChangeSpec := { name := "modelValidShortest", fn := fun _ => fun
  | [d1, d2, d3] => { results := [.lit (.bool true)], args := [d1, d2, d3] }
  | _ => none }
def modelValidShortestRow : OpenClaim := { program := "ytbddpjofhddilaa", sum := "623441cc3ad1264c6a8bed47237cd6a64c2289d1db78ed855d6c6eaaea53303a", func := "armature/armaturelaw07.ModelValidShortest", spec := "modelValidShortest", unfollowed := true, recurses := true, loops := true, apart := false }
def ModelValidShortestSaid : Prop := modelValidShortestRow.holds Try.pinned (OpenSpec.ofChange modelValidShortestSpec)

/-- ITS FALSE NEIGHBOUR: 'it returns false'. Refute it at one input. -/
def modelValidShortestWrong : ChangeSpec := { name := "modelValidShortest", fn := fun _ => fun
  | [d1, d2, d3] => { results := [.lit (.bool false)], args := [d1, d2, d3] }
  | _ => none }
def ModelValidShortestWrongFalsely : Prop := modelValidShortestRow.holds Try.pinned (OpenSpec.ofChange modelValidShortestWrong)

/-- 'armaturelaw07.ModelRejects': WHATEVER THE INPUT: true; the input reads as it did. -/
def modelRejectsSpec : ChangeSpec := { name := "modelRejects", fn := fun _ => fun
  | [d1, d2, d3, d4, d5] => { results := [.lit (.bool true)], args := [d1, d2, d3, d4, d5] }
  | _ => none }
def modelRejectsRow : OpenClaim := { program := "ytbddpjofhddilaa", sum := "623441cc3ad1264c6a8bed47237cd6a64c2289d1db78ed855d6c6eaaea53303a", func := "armature/armaturelaw07.ModelRejects", spec := "modelRejects", unfollowed := true, recurses := true, loops := true, apart := false }
def ModelRejectsSaid : Prop := modelRejectsRow.holds Try.pinned (OpenSpec.ofChange modelRejectsSpec)

/-- ITS FALSE NEIGHBOUR: 'it returns false'. Refute it at one input. -/
def modelRejectsWrong : ChangeSpec := { name := "modelRejects", fn := fun _ => fun
  | [d1, d2, d3, d4, d5] => { results := [.lit (.bool false)], args := [d1, d2, d3, d4, d5] }
  | _ => none }
def ModelRejectsWrongFalsely : Prop := modelRejectsRow.holds Try.pinned (OpenSpec.ofChange modelRejectsWrong)

/-- 'armaturelaw09.BoundsMatchesReference': WHATEVER THE INPUT: true; the input reads as it did. -/
def boundsMatchesReferenceSpec : ChangeSpec := { name := "boundsMatchesReference", fn := fun _ => fun
  | [d1, d2, d3, d4, d5] => { results := [.lit (.bool true)], args := [d1, d2, d3, d4, d5] }
  | _ => none }
def boundsMatchesReferenceRow : OpenClaim := { program := "ytbddpjofhddilaa", sum := "623441cc3ad1264c6a8bed47237cd6a64c2289d1db78ed855d6c6eaaea53303a", func := "armature/armaturelaw09.BoundsMatchesReference", spec := "boundsMatchesReference", unfollowed := true, recurses := true, loops := true, apart := false }
def BoundsMatchesReferenceSaid : Prop := boundsMatchesReferenceRow.holds Try.pinned (OpenSpec.ofChange boundsMatchesReferenceSpec)

/-- ITS FALSE NEIGHBOUR: 'it returns false'. Refute it at one input. -/
def boundsMatchesReferenceWrong : ChangeSpec := { name := "boundsMatchesReference", fn := fun _ => fun
  | [d1, d2, d3, d4, d5] => { results := [.lit (.bool false)], args := [d1, d2, d3, d4, d5] }
  | _ => none }
def BoundsMatchesReferenceWrongFalsely : Prop := boundsMatchesReferenceRow.holds Try.pinned (OpenSpec.ofChange boundsMatchesReferenceWrong)

/-- 'armaturelaw09.BoundsDefault': WHATEVER THE INPUT: true; the input reads as it did. -/
def boundsDefaultSpec : ChangeSpec := { name := "boundsDefault", fn := fun _ => fun
  | [d1, d2, d3] => { results := [.lit (.bool true)], args := [d1, d2, d3] }
  | _ => none }
def boundsDefaultRow : OpenClaim := { program := "ytbddpjofhddilaa", sum := "623441cc3ad1264c6a8bed47237cd6a64c2289d1db78ed855d6c6eaaea53303a", func := "armature/armaturelaw09.BoundsDefault", spec := "boundsDefault", unfollowed := true, recurses := true, loops := true, apart := false }
def BoundsDefaultSaid : Prop := boundsDefaultRow.holds Try.pinned (OpenSpec.ofChange boundsDefaultSpec)

/-- ITS FALSE NEIGHBOUR: 'it returns false'. Refute it at one input. -/
def boundsDefaultWrong : ChangeSpec := { name := "boundsDefault", fn := fun _ => fun
  | [d1, d2, d3] => { results := [.lit (.bool false)], args := [d1, d2, d3] }
  | _ => none }
def BoundsDefaultWrongFalsely : Prop := boundsDefaultRow.holds Try.pinned (OpenSpec.ofChange boundsDefaultWrong)

/-- 'armaturelaw09.BoundsMeet': WHATEVER THE INPUT: true; the input reads as it did. -/
def boundsMeetSpec : ChangeSpec := { name := "boundsMeet", fn := fun _ => fun
  | [d1, d2, d3, d4, d5] => { results := [.lit (.bool true)], args := [d1, d2, d3, d4, d5] }
  | _ => none }
def boundsMeetRow : OpenClaim := { program := "ytbddpjofhddilaa", sum := "623441cc3ad1264c6a8bed47237cd6a64c2289d1db78ed855d6c6eaaea53303a", func := "armature/armaturelaw09.BoundsMeet", spec := "boundsMeet", unfollowed := true, recurses := true, loops := true, apart := false }
def BoundsMeetSaid : Prop := boundsMeetRow.holds Try.pinned (OpenSpec.ofChange boundsMeetSpec)

/-- ITS FALSE NEIGHBOUR: 'it returns false'. Refute it at one input. -/
def boundsMeetWrong : ChangeSpec := { name := "boundsMeet", fn := fun _ => fun
  | [d1, d2, d3, d4, d5] => { results := [.lit (.bool false)], args := [d1, d2, d3, d4, d5] }
  | _ => none }
def BoundsMeetWrongFalsely : Prop := boundsMeetRow.holds Try.pinned (OpenSpec.ofChange boundsMeetWrong)

/-- 'armaturelaw09.BoundsFree': WHATEVER THE INPUT: true; the input reads as it did. -/
def boundsFreeSpec : ChangeSpec := { name := "boundsFree", fn := fun _ => fun
  | [d1, d2, d3, d4, d5] => { results := [.lit (.bool true)], args := [d1, d2, d3, d4, d5] }
  | _ => none }
def boundsFreeRow : OpenClaim := { program := "ytbddpjofhddilaa", sum := "623441cc3ad1264c6a8bed47237cd6a64c2289d1db78ed855d6c6eaaea53303a", func := "armature/armaturelaw09.BoundsFree", spec := "boundsFree", unfollowed := true, recurses := true, loops := true, apart := false }
def BoundsFreeSaid : Prop := boundsFreeRow.holds Try.pinned (OpenSpec.ofChange boundsFreeSpec)

/-- ITS FALSE NEIGHBOUR: 'it returns false'. Refute it at one input. -/
def boundsFreeWrong : ChangeSpec := { name := "boundsFree", fn := fun _ => fun
  | [d1, d2, d3, d4, d5] => { results := [.lit (.bool false)], args := [d1, d2, d3, d4, d5] }
  | _ => none }
def BoundsFreeWrongFalsely : Prop := boundsFreeRow.holds Try.pinned (OpenSpec.ofChange boundsFreeWrong)

/-- 'armaturelaw09.BoundsStates': WHATEVER THE INPUT: true; the input reads as it did. -/
def boundsStatesSpec : ChangeSpec := { name := "boundsStates", fn := fun _ => fun
  | [d1, d2, d3, d4, d5, d6] => { results := [.lit (.bool true)], args := [d1, d2, d3, d4, d5, d6] }
  | _ => none }
def boundsStatesRow : OpenClaim := { program := "ytbddpjofhddilaa", sum := "623441cc3ad1264c6a8bed47237cd6a64c2289d1db78ed855d6c6eaaea53303a", func := "armature/armaturelaw09.BoundsStates", spec := "boundsStates", unfollowed := true, recurses := true, loops := true, apart := false }
def BoundsStatesSaid : Prop := boundsStatesRow.holds Try.pinned (OpenSpec.ofChange boundsStatesSpec)

/-- ITS FALSE NEIGHBOUR: 'it returns false'. Refute it at one input. -/
def boundsStatesWrong : ChangeSpec := { name := "boundsStates", fn := fun _ => fun
  | [d1, d2, d3, d4, d5, d6] => { results := [.lit (.bool false)], args := [d1, d2, d3, d4, d5, d6] }
  | _ => none }
def BoundsStatesWrongFalsely : Prop := boundsStatesRow.holds Try.pinned (OpenSpec.ofChange boundsStatesWrong)

/-- 'armaturelaw09.BoundsNarrower': WHATEVER THE INPUT: true; the input reads as it did. -/
def boundsNarrowerSpec : ChangeSpec := { name := "boundsNarrower", fn := fun _ => fun
  | [d1, d2, d3, d4] => { results := [.lit (.bool true)], args := [d1, d2, d3, d4] }
  | _ => none }
def boundsNarrowerRow : OpenClaim := { program := "ytbddpjofhddilaa", sum := "623441cc3ad1264c6a8bed47237cd6a64c2289d1db78ed855d6c6eaaea53303a", func := "armature/armaturelaw09.BoundsNarrower", spec := "boundsNarrower", unfollowed := true, recurses := true, loops := true, apart := false }
def BoundsNarrowerSaid : Prop := boundsNarrowerRow.holds Try.pinned (OpenSpec.ofChange boundsNarrowerSpec)

/-- ITS FALSE NEIGHBOUR: 'it returns false'. Refute it at one input. -/
def boundsNarrowerWrong : ChangeSpec := { name := "boundsNarrower", fn := fun _ => fun
  | [d1, d2, d3, d4] => { results := [.lit (.bool false)], args := [d1, d2, d3, d4] }
  | _ => none }
def BoundsNarrowerWrongFalsely : Prop := boundsNarrowerRow.holds Try.pinned (OpenSpec.ofChange boundsNarrowerWrong)

/- THE SECOND FORM. 'bulk': how many values and letters a reading holds, each counted each time it is reached (what is shared counts as often as it is met; a slice's spare places count too). A statement '..UptoSaid' is the law's where the arguments, and the package variables that the reading takes, are together of bulk at most 1048576: NARROWER than '..Said'. Prove '..Said' where nothing that the law and all that it calls make is longer than what came in: it says more and counts as full. Else prove '..UptoSaid'. A law counts once. -/
mutual
def uptoBulk {H : Type} : DataW H → Nat
  | .lit (.string bytes) => bytes.length + 1
  | .lit _ => 1
  | .nil => 1
  | .ptr d => uptoBulk d + 1
  | .slice elems spare => uptoBulkAll elems + uptoBulkAll spare + 1
  | .agg parts => uptoBulkAll parts + 1
  | .iface _ d => uptoBulk d + 1
  | .map entries => uptoBulkEntries entries + 1
  | .held _ => 1
def uptoBulkAll {H : Type} : List (DataW H) → Nat
  | [] => 0
  | d :: r => uptoBulk d + uptoBulkAll r
def uptoBulkEntries {H : Type} : List (Lit × DataW H) → Nat
  | [] => 0
  | x :: r => uptoBulkEntry x + uptoBulkEntries r
def uptoBulkEntry {H : Type} : Lit × DataW H → Nat
  | (.string bytes, d) => bytes.length + uptoBulk d + 1
  | (_, d) => uptoBulk d + 1
 end
def uptoSmall : (H : Type) → List (DataW H) → Bool := fun _ ds => decide (uptoBulkAll ds ≤ 1048576)
def OpenSpec.upto (s : _root_.Go.ChangeSpec) : _root_.Go.OpenSpec := { _root_.Go.OpenSpec.ofChange s with cond := some uptoSmall }

/-- 'armaturelaw07.ModelMatchesReference', WHERE WHAT IT READS IS OF BULK AT MOST 1048576: true; the input reads as it did. -/
def modelMatchesReferenceUptoRow : OpenClaim := { program := "ytbddpjofhddilaa", sum := "623441cc3ad1264c6a8bed47237cd6a64c2289d1db78ed855d6c6eaaea53303a", func := "armature/armaturelaw07.ModelMatchesReference", spec := "modelMatchesReference", unfollowed := true, recurses := true, loops := true, apart := false, narrowed := true }
def ModelMatchesReferenceUptoSaid : Prop := modelMatchesReferenceUptoRow.holds Try.pinned (OpenSpec.upto modelMatchesReferenceSpec)

/-- 'armaturelaw07.ModelTimes', WHERE WHAT IT READS IS OF BULK AT MOST 1048576: true; the input reads as it did. -/
def modelTimesUptoRow : OpenClaim := { program := "ytbddpjofhddilaa", sum := "623441cc3ad1264c6a8bed47237cd6a64c2289d1db78ed855d6c6eaaea53303a", func := "armature/armaturelaw07.ModelTimes", spec := "modelTimes", unfollowed := true, recurses := true, apart := false, narrowed := true }
def ModelTimesUptoSaid : Prop := modelTimesUptoRow.holds Try.pinned (OpenSpec.upto modelTimesSpec)

/-- 'armaturelaw07.ModelSameTraceIsEquivalence', WHERE WHAT IT READS IS OF BULK AT MOST 1048576: true; the input reads as it did. -/
def modelSameTraceIsEquivalenceUptoRow : OpenClaim := { program := "ytbddpjofhddilaa", sum := "623441cc3ad1264c6a8bed47237cd6a64c2289d1db78ed855d6c6eaaea53303a", func := "armature/armaturelaw07.ModelSameTraceIsEquivalence", spec := "modelSameTraceIsEquivalence", unfollowed := true, recurses := true, apart := false, narrowed := true }
def ModelSameTraceIsEquivalenceUptoSaid : Prop := modelSameTraceIsEquivalenceUptoRow.holds Try.pinned (OpenSpec.upto modelSameTraceIsEquivalenceSpec)

/-- 'armaturelaw07.ModelUnrolls', WHERE WHAT IT READS IS OF BULK AT MOST 1048576: true; the input reads as it did. -/
def modelUnrollsUptoRow : OpenClaim := { program := "ytbddpjofhddilaa", sum := "623441cc3ad1264c6a8bed47237cd6a64c2289d1db78ed855d6c6eaaea53303a", func := "armature/armaturelaw07.ModelUnrolls", spec := "modelUnrolls", unfollowed := true, recurses := true, apart := false, narrowed := true }
def ModelUnrollsUptoSaid : Prop := modelUnrollsUptoRow.holds Try.pinned (OpenSpec.upto modelUnrollsSpec)

/-- 'armaturelaw07.ModelShortest', WHERE WHAT IT READS IS OF BULK AT MOST 1048576: true; the input reads as it did. -/
def modelShortestUptoRow : OpenClaim := { program := "ytbddpjofhddilaa", sum := "623441cc3ad1264c6a8bed47237cd6a64c2289d1db78ed855d6c6eaaea53303a", func := "armature/armaturelaw07.ModelShortest", spec := "modelShortest", unfollowed := true, recurses := true, apart := false, narrowed := true }
def ModelShortestUptoSaid : Prop := modelShortestUptoRow.holds Try.pinned (OpenSpec.upto modelShortestSpec)

/-- 'armaturelaw07.ModelValidShortest', WHERE WHAT IT READS IS OF BULK AT MOST 1048576: true; the input reads as it did. -/
def modelValidShortestUptoRow : OpenClaim := { program := "ytbddpjofhddilaa", sum := "623441cc3ad1264c6a8bed47237cd6a64c2289d1db78ed855d6c6eaaea53303a", func := "armature/armaturelaw07.ModelValidShortest", spec := "modelValidShortest", unfollowed := true, recurses := true, loops := true, apart := false, narrowed := true }
def ModelValidShortestUptoSaid : Prop := modelValidShortestUptoRow.holds Try.pinned (OpenSpec.upto modelValidShortestSpec)

/-- 'armaturelaw07.ModelRejects', WHERE WHAT IT READS IS OF BULK AT MOST 1048576: true; the input reads as it did. -/
def modelRejectsUptoRow : OpenClaim := { program := "ytbddpjofhddilaa", sum := "623441cc3ad1264c6a8bed47237cd6a64c2289d1db78ed855d6c6eaaea53303a", func := "armature/armaturelaw07.ModelRejects", spec := "modelRejects", unfollowed := true, recurses := true, loops := true, apart := false, narrowed := true }
def ModelRejectsUptoSaid : Prop := modelRejectsUptoRow.holds Try.pinned (OpenSpec.upto modelRejectsSpec)

/-- 'armaturelaw09.BoundsMatchesReference', WHERE WHAT IT READS IS OF BULK AT MOST 1048576: true; the input reads as it did. -/
def boundsMatchesReferenceUptoRow : OpenClaim := { program := "ytbddpjofhddilaa", sum := "623441cc3ad1264c6a8bed47237cd6a64c2289d1db78ed855d6c6eaaea53303a", func := "armature/armaturelaw09.BoundsMatchesReference", spec := "boundsMatchesReference", unfollowed := true, recurses := true, loops := true, apart := false, narrowed := true }
def BoundsMatchesReferenceUptoSaid : Prop := boundsMatchesReferenceUptoRow.holds Try.pinned (OpenSpec.upto boundsMatchesReferenceSpec)

/-- 'armaturelaw09.BoundsDefault', WHERE WHAT IT READS IS OF BULK AT MOST 1048576: true; the input reads as it did. -/
def boundsDefaultUptoRow : OpenClaim := { program := "ytbddpjofhddilaa", sum := "623441cc3ad1264c6a8bed47237cd6a64c2289d1db78ed855d6c6eaaea53303a", func := "armature/armaturelaw09.BoundsDefault", spec := "boundsDefault", unfollowed := true, recurses := true, loops := true, apart := false, narrowed := true }
def BoundsDefaultUptoSaid : Prop := boundsDefaultUptoRow.holds Try.pinned (OpenSpec.upto boundsDefaultSpec)

/-- 'armaturelaw09.BoundsMeet', WHERE WHAT IT READS IS OF BULK AT MOST 1048576: true; the input reads as it did. -/
def boundsMeetUptoRow : OpenClaim := { program := "ytbddpjofhddilaa", sum := "623441cc3ad1264c6a8bed47237cd6a64c2289d1db78ed855d6c6eaaea53303a", func := "armature/armaturelaw09.BoundsMeet", spec := "boundsMeet", unfollowed := true, recurses := true, loops := true, apart := false, narrowed := true }
def BoundsMeetUptoSaid : Prop := boundsMeetUptoRow.holds Try.pinned (OpenSpec.upto boundsMeetSpec)

/-- 'armaturelaw09.BoundsFree', WHERE WHAT IT READS IS OF BULK AT MOST 1048576: true; the input reads as it did. -/
def boundsFreeUptoRow : OpenClaim := { program := "ytbddpjofhddilaa", sum := "623441cc3ad1264c6a8bed47237cd6a64c2289d1db78ed855d6c6eaaea53303a", func := "armature/armaturelaw09.BoundsFree", spec := "boundsFree", unfollowed := true, recurses := true, loops := true, apart := false, narrowed := true }
def BoundsFreeUptoSaid : Prop := boundsFreeUptoRow.holds Try.pinned (OpenSpec.upto boundsFreeSpec)

/-- 'armaturelaw09.BoundsStates', WHERE WHAT IT READS IS OF BULK AT MOST 1048576: true; the input reads as it did. -/
def boundsStatesUptoRow : OpenClaim := { program := "ytbddpjofhddilaa", sum := "623441cc3ad1264c6a8bed47237cd6a64c2289d1db78ed855d6c6eaaea53303a", func := "armature/armaturelaw09.BoundsStates", spec := "boundsStates", unfollowed := true, recurses := true, loops := true, apart := false, narrowed := true }
def BoundsStatesUptoSaid : Prop := boundsStatesUptoRow.holds Try.pinned (OpenSpec.upto boundsStatesSpec)

/-- 'armaturelaw09.BoundsNarrower', WHERE WHAT IT READS IS OF BULK AT MOST 1048576: true; the input reads as it did. -/
def boundsNarrowerUptoRow : OpenClaim := { program := "ytbddpjofhddilaa", sum := "623441cc3ad1264c6a8bed47237cd6a64c2289d1db78ed855d6c6eaaea53303a", func := "armature/armaturelaw09.BoundsNarrower", spec := "boundsNarrower", unfollowed := true, recurses := true, loops := true, apart := false, narrowed := true }
def BoundsNarrowerUptoSaid : Prop := boundsNarrowerUptoRow.holds Try.pinned (OpenSpec.upto boundsNarrowerSpec)

end Rows
end Go.Proofs.Ytbddpjofhddilaa
