/-
  No cell of these rows narrows 'for every input' (looked for: loops, veiled, ifaces, maps, wideKeys, modest, calm, conditions, laid).
  DERIVED. THE GIVEN ROWS OF THIS SEAT. 7 by the template 'for every input the law returns true; each argument reads behind the call as it read before'; 0 by the template 'total and deterministic' (their statements: YtihaheinkpmnnaaGreatTotals.lean).
  GIVEN WITH THE SEED: the statements are not yours to turn. If you find one false, say at which input.
  Laid BY PROGRAM, IN A SANDBOX (cutbox-rows.mjs): the forced cells as the released guide's own fill.sh prints them over the translation c8a9a7bc9ee45be9… (all of the seat's roots in one cut). By AI agents, Wed Nov 11 2026. No macro, syntax, notation, axiom, sorry.
-/
import Derived.Test.YtihaheinkpmnnaaGreatChecked
import GoSem.Claim
import GoSem.ClaimJoined
import GoSem.ClaimMapViews
import Derived.JoinedTies
import Derived.KernelRfl
namespace Go.Proofs.YtihaheinkpmnnaaGreat
/- THE CELL 'sum', in the pinned program and in every row, IS THE sha256 OF THE DUMP (.gsa) THAT YtihaheinkpmnnaaGreatProg.lean LOADS. Nothing in Lean hashes anything: it is a label: what it is worth is what the hold of that sum in a sandbox is worth. -/
noncomputable def Tryz.pinned : Pinned := { name := "ytihaheinkpmnnaagreat", sum := "c8a9a7bc9ee45be90afcb30d93454350688271e20c4fe00642817cfc6d824a40", checked := Tryz.checked }
namespace Rows
def none {H : Type} : Left H := { results := [], args := [] }

/-- 'armaturelaw23.CheckerMatchesReference': WHATEVER THE INPUT: true; the input reads as it did. -/
def checkerMatchesReferenceSpec : ChangeSpec := { name := "checkerMatchesReference", fn := fun _ => fun
  | [d1, d2, d3] => { results := [.lit (.bool true)], args := [d1, d2, d3] }
  | _ => none }
def checkerMatchesReferenceRow : OpenClaim := { program := "ytihaheinkpmnnaagreat", sum := "c8a9a7bc9ee45be90afcb30d93454350688271e20c4fe00642817cfc6d824a40", func := "armature/armaturelaw23.CheckerMatchesReference", spec := "checkerMatchesReference", unfollowed := true, recurses := true, apart := false }
def CheckerMatchesReferenceSaid : Prop := checkerMatchesReferenceRow.holds Tryz.pinned (OpenSpec.ofChange checkerMatchesReferenceSpec)

/-- ITS FALSE NEIGHBOUR: 'it returns false'. Refute it at one input. -/
def checkerMatchesReferenceWrong : ChangeSpec := { name := "checkerMatchesReference", fn := fun _ => fun
  | [d1, d2, d3] => { results := [.lit (.bool false)], args := [d1, d2, d3] }
  | _ => none }
def CheckerMatchesReferenceWrongFalsely : Prop := checkerMatchesReferenceRow.holds Tryz.pinned (OpenSpec.ofChange checkerMatchesReferenceWrong)

/-- 'armaturelaw23.CheckerSound': WHATEVER THE INPUT: true; the input reads as it did. -/
def checkerSoundSpec : ChangeSpec := { name := "checkerSound", fn := fun _ => fun
  | [d1, d2, d3] => { results := [.lit (.bool true)], args := [d1, d2, d3] }
  | _ => none }
def checkerSoundRow : OpenClaim := { program := "ytihaheinkpmnnaagreat", sum := "c8a9a7bc9ee45be90afcb30d93454350688271e20c4fe00642817cfc6d824a40", func := "armature/armaturelaw23.CheckerSound", spec := "checkerSound", unfollowed := true, recurses := true, apart := false }
def CheckerSoundSaid : Prop := checkerSoundRow.holds Tryz.pinned (OpenSpec.ofChange checkerSoundSpec)

/-- ITS FALSE NEIGHBOUR: 'it returns false'. Refute it at one input. -/
def checkerSoundWrong : ChangeSpec := { name := "checkerSound", fn := fun _ => fun
  | [d1, d2, d3] => { results := [.lit (.bool false)], args := [d1, d2, d3] }
  | _ => none }
def CheckerSoundWrongFalsely : Prop := checkerSoundRow.holds Tryz.pinned (OpenSpec.ofChange checkerSoundWrong)

/-- 'armaturelaw23.CheckerComplete': WHATEVER THE INPUT: true; the input reads as it did. -/
def checkerCompleteSpec : ChangeSpec := { name := "checkerComplete", fn := fun _ => fun
  | [d] => { results := [.lit (.bool true)], args := [d] }
  | _ => none }
def checkerCompleteRow : OpenClaim := { program := "ytihaheinkpmnnaagreat", sum := "c8a9a7bc9ee45be90afcb30d93454350688271e20c4fe00642817cfc6d824a40", func := "armature/armaturelaw23.CheckerComplete", spec := "checkerComplete", unfollowed := true, recurses := true, apart := false }
def CheckerCompleteSaid : Prop := checkerCompleteRow.holds Tryz.pinned (OpenSpec.ofChange checkerCompleteSpec)

/-- ITS FALSE NEIGHBOUR: 'it returns false'. Refute it at one input. -/
def checkerCompleteWrong : ChangeSpec := { name := "checkerComplete", fn := fun _ => fun
  | [d] => { results := [.lit (.bool false)], args := [d] }
  | _ => none }
def CheckerCompleteWrongFalsely : Prop := checkerCompleteRow.holds Tryz.pinned (OpenSpec.ofChange checkerCompleteWrong)

/-- 'armaturelaw23.CheckerPrefixes': WHATEVER THE INPUT: true; the input reads as it did. -/
def checkerPrefixesSpec : ChangeSpec := { name := "checkerPrefixes", fn := fun _ => fun
  | [d1, d2, d3, d4, d5] => { results := [.lit (.bool true)], args := [d1, d2, d3, d4, d5] }
  | _ => none }
def checkerPrefixesRow : OpenClaim := { program := "ytihaheinkpmnnaagreat", sum := "c8a9a7bc9ee45be90afcb30d93454350688271e20c4fe00642817cfc6d824a40", func := "armature/armaturelaw23.CheckerPrefixes", spec := "checkerPrefixes", unfollowed := true, recurses := true, apart := false }
def CheckerPrefixesSaid : Prop := checkerPrefixesRow.holds Tryz.pinned (OpenSpec.ofChange checkerPrefixesSpec)

/-- ITS FALSE NEIGHBOUR: 'it returns false'. Refute it at one input. -/
def checkerPrefixesWrong : ChangeSpec := { name := "checkerPrefixes", fn := fun _ => fun
  | [d1, d2, d3, d4, d5] => { results := [.lit (.bool false)], args := [d1, d2, d3, d4, d5] }
  | _ => none }
def CheckerPrefixesWrongFalsely : Prop := checkerPrefixesRow.holds Tryz.pinned (OpenSpec.ofChange checkerPrefixesWrong)

/-- 'armaturelaw23.CheckerSymmetries': WHATEVER THE INPUT: true; the input reads as it did. -/
def checkerSymmetriesSpec : ChangeSpec := { name := "checkerSymmetries", fn := fun _ => fun
  | [d1, d2, d3] => { results := [.lit (.bool true)], args := [d1, d2, d3] }
  | _ => none }
def checkerSymmetriesRow : OpenClaim := { program := "ytihaheinkpmnnaagreat", sum := "c8a9a7bc9ee45be90afcb30d93454350688271e20c4fe00642817cfc6d824a40", func := "armature/armaturelaw23.CheckerSymmetries", spec := "checkerSymmetries", unfollowed := true, recurses := true, apart := false }
def CheckerSymmetriesSaid : Prop := checkerSymmetriesRow.holds Tryz.pinned (OpenSpec.ofChange checkerSymmetriesSpec)

/-- ITS FALSE NEIGHBOUR: 'it returns false'. Refute it at one input. -/
def checkerSymmetriesWrong : ChangeSpec := { name := "checkerSymmetries", fn := fun _ => fun
  | [d1, d2, d3] => { results := [.lit (.bool false)], args := [d1, d2, d3] }
  | _ => none }
def CheckerSymmetriesWrongFalsely : Prop := checkerSymmetriesRow.holds Tryz.pinned (OpenSpec.ofChange checkerSymmetriesWrong)

/-- 'armaturelaw23.CheckerMonotonic': WHATEVER THE INPUT: true; the input reads as it did. -/
def checkerMonotonicSpec : ChangeSpec := { name := "checkerMonotonic", fn := fun _ => fun
  | [d1, d2, d3, d4] => { results := [.lit (.bool true)], args := [d1, d2, d3, d4] }
  | _ => none }
def checkerMonotonicRow : OpenClaim := { program := "ytihaheinkpmnnaagreat", sum := "c8a9a7bc9ee45be90afcb30d93454350688271e20c4fe00642817cfc6d824a40", func := "armature/armaturelaw23.CheckerMonotonic", spec := "checkerMonotonic", unfollowed := true, recurses := true, apart := false }
def CheckerMonotonicSaid : Prop := checkerMonotonicRow.holds Tryz.pinned (OpenSpec.ofChange checkerMonotonicSpec)

/-- ITS FALSE NEIGHBOUR: 'it returns false'. Refute it at one input. -/
def checkerMonotonicWrong : ChangeSpec := { name := "checkerMonotonic", fn := fun _ => fun
  | [d1, d2, d3, d4] => { results := [.lit (.bool false)], args := [d1, d2, d3, d4] }
  | _ => none }
def CheckerMonotonicWrongFalsely : Prop := checkerMonotonicRow.holds Tryz.pinned (OpenSpec.ofChange checkerMonotonicWrong)

/-- 'armaturelaw23.CheckerRedundant': WHATEVER THE INPUT: true; the input reads as it did. -/
def checkerRedundantSpec : ChangeSpec := { name := "checkerRedundant", fn := fun _ => fun
  | [d1, d2, d3, d4, d5] => { results := [.lit (.bool true)], args := [d1, d2, d3, d4, d5] }
  | _ => none }
def checkerRedundantRow : OpenClaim := { program := "ytihaheinkpmnnaagreat", sum := "c8a9a7bc9ee45be90afcb30d93454350688271e20c4fe00642817cfc6d824a40", func := "armature/armaturelaw23.CheckerRedundant", spec := "checkerRedundant", unfollowed := true, recurses := true, apart := false }
def CheckerRedundantSaid : Prop := checkerRedundantRow.holds Tryz.pinned (OpenSpec.ofChange checkerRedundantSpec)

/-- ITS FALSE NEIGHBOUR: 'it returns false'. Refute it at one input. -/
def checkerRedundantWrong : ChangeSpec := { name := "checkerRedundant", fn := fun _ => fun
  | [d1, d2, d3, d4, d5] => { results := [.lit (.bool false)], args := [d1, d2, d3, d4, d5] }
  | _ => none }
def CheckerRedundantWrongFalsely : Prop := checkerRedundantRow.holds Tryz.pinned (OpenSpec.ofChange checkerRedundantWrong)

/- THE SECOND FORM. 'bulk': how many values and letters a reading holds, each counted each time it is reached (what is shared counts as often as it is met; a slice's spare places count too). A statement '..UptoSaid' is the law's where the arguments, and the package variables that the reading takes, are together of bulk at most 1048576: NARROWER than '..Said'. Prove '..Said' where nothing that the law and all that it calls make is longer than what came in: it says more and counts as full. Else prove '..UptoSaid'. A law counts once. -/
mutual
def uptoBulk {H : Type} : DataW H → Nat
  | .lit (.string bytes) => bytes.length + 1
  | .lit _ => 1
  | .nil => 1
  | .ptr d => uptoBulk d + 1
  | .slice elems spare => uptoBulkAll elems + uptoBulkAll spare + 1
  | .agg parts => uptoBulkAll parts + 1
  | .iface _ d => uptoBulk d + 1
  | .map entries => uptoBulkEntries entries + 1
  | .held _ => 1
def uptoBulkAll {H : Type} : List (DataW H) → Nat
  | [] => 0
  | d :: r => uptoBulk d + uptoBulkAll r
def uptoBulkEntries {H : Type} : List (Lit × DataW H) → Nat
  | [] => 0
  | x :: r => uptoBulkEntry x + uptoBulkEntries r
def uptoBulkEntry {H : Type} : Lit × DataW H → Nat
  | (.string bytes, d) => bytes.length + uptoBulk d + 1
  | (_, d) => uptoBulk d + 1
 end
def uptoSmall : (H : Type) → List (DataW H) → Bool := fun _ ds => decide (uptoBulkAll ds ≤ 1048576)
def OpenSpec.upto (s : _root_.Go.ChangeSpec) : _root_.Go.OpenSpec := { _root_.Go.OpenSpec.ofChange s with cond := some uptoSmall }

/-- 'armaturelaw23.CheckerMatchesReference', WHERE WHAT IT READS IS OF BULK AT MOST 1048576: true; the input reads as it did. -/
def checkerMatchesReferenceUptoRow : OpenClaim := { program := "ytihaheinkpmnnaagreat", sum := "c8a9a7bc9ee45be90afcb30d93454350688271e20c4fe00642817cfc6d824a40", func := "armature/armaturelaw23.CheckerMatchesReference", spec := "checkerMatchesReference", unfollowed := true, recurses := true, apart := false, narrowed := true }
def CheckerMatchesReferenceUptoSaid : Prop := checkerMatchesReferenceUptoRow.holds Tryz.pinned (OpenSpec.upto checkerMatchesReferenceSpec)

/-- 'armaturelaw23.CheckerSound', WHERE WHAT IT READS IS OF BULK AT MOST 1048576: true; the input reads as it did. -/
def checkerSoundUptoRow : OpenClaim := { program := "ytihaheinkpmnnaagreat", sum := "c8a9a7bc9ee45be90afcb30d93454350688271e20c4fe00642817cfc6d824a40", func := "armature/armaturelaw23.CheckerSound", spec := "checkerSound", unfollowed := true, recurses := true, apart := false, narrowed := true }
def CheckerSoundUptoSaid : Prop := checkerSoundUptoRow.holds Tryz.pinned (OpenSpec.upto checkerSoundSpec)

/-- 'armaturelaw23.CheckerComplete', WHERE WHAT IT READS IS OF BULK AT MOST 1048576: true; the input reads as it did. -/
def checkerCompleteUptoRow : OpenClaim := { program := "ytihaheinkpmnnaagreat", sum := "c8a9a7bc9ee45be90afcb30d93454350688271e20c4fe00642817cfc6d824a40", func := "armature/armaturelaw23.CheckerComplete", spec := "checkerComplete", unfollowed := true, recurses := true, apart := false, narrowed := true }
def CheckerCompleteUptoSaid : Prop := checkerCompleteUptoRow.holds Tryz.pinned (OpenSpec.upto checkerCompleteSpec)

/-- 'armaturelaw23.CheckerPrefixes', WHERE WHAT IT READS IS OF BULK AT MOST 1048576: true; the input reads as it did. -/
def checkerPrefixesUptoRow : OpenClaim := { program := "ytihaheinkpmnnaagreat", sum := "c8a9a7bc9ee45be90afcb30d93454350688271e20c4fe00642817cfc6d824a40", func := "armature/armaturelaw23.CheckerPrefixes", spec := "checkerPrefixes", unfollowed := true, recurses := true, apart := false, narrowed := true }
def CheckerPrefixesUptoSaid : Prop := checkerPrefixesUptoRow.holds Tryz.pinned (OpenSpec.upto checkerPrefixesSpec)

/-- 'armaturelaw23.CheckerSymmetries', WHERE WHAT IT READS IS OF BULK AT MOST 1048576: true; the input reads as it did. -/
def checkerSymmetriesUptoRow : OpenClaim := { program := "ytihaheinkpmnnaagreat", sum := "c8a9a7bc9ee45be90afcb30d93454350688271e20c4fe00642817cfc6d824a40", func := "armature/armaturelaw23.CheckerSymmetries", spec := "checkerSymmetries", unfollowed := true, recurses := true, apart := false, narrowed := true }
def CheckerSymmetriesUptoSaid : Prop := checkerSymmetriesUptoRow.holds Tryz.pinned (OpenSpec.upto checkerSymmetriesSpec)

/-- 'armaturelaw23.CheckerMonotonic', WHERE WHAT IT READS IS OF BULK AT MOST 1048576: true; the input reads as it did. -/
def checkerMonotonicUptoRow : OpenClaim := { program := "ytihaheinkpmnnaagreat", sum := "c8a9a7bc9ee45be90afcb30d93454350688271e20c4fe00642817cfc6d824a40", func := "armature/armaturelaw23.CheckerMonotonic", spec := "checkerMonotonic", unfollowed := true, recurses := true, apart := false, narrowed := true }
def CheckerMonotonicUptoSaid : Prop := checkerMonotonicUptoRow.holds Tryz.pinned (OpenSpec.upto checkerMonotonicSpec)

/-- 'armaturelaw23.CheckerRedundant', WHERE WHAT IT READS IS OF BULK AT MOST 1048576: true; the input reads as it did. -/
def checkerRedundantUptoRow : OpenClaim := { program := "ytihaheinkpmnnaagreat", sum := "c8a9a7bc9ee45be90afcb30d93454350688271e20c4fe00642817cfc6d824a40", func := "armature/armaturelaw23.CheckerRedundant", spec := "checkerRedundant", unfollowed := true, recurses := true, apart := false, narrowed := true }
def CheckerRedundantUptoSaid : Prop := checkerRedundantUptoRow.holds Tryz.pinned (OpenSpec.upto checkerRedundantSpec)

end Rows
end Go.Proofs.YtihaheinkpmnnaaGreat
