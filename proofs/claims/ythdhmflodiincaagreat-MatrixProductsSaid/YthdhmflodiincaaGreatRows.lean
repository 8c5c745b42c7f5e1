/-
  No cell of these rows narrows 'for every input' (looked for: loops, veiled, ifaces, maps, wideKeys, modest, calm, conditions, laid).
  DERIVED. THE GIVEN ROWS OF THIS SEAT. 4 by the template 'for every input the law returns true; each argument reads behind the call as it read before'; 0 by the template 'total and deterministic' (their statements: YthdhmflodiincaaGreatTotals.lean).
  GIVEN WITH THE SEED: the statements are not yours to turn. If you find one false, say at which input.
  Laid BY PROGRAM, IN A SANDBOX (cutbox-rows.mjs): the forced cells as the released guide's own fill.sh prints them over the translation a6dc16e6fc951fbe… (all of the seat's roots in one cut). By AI agents, Wed Nov 11 2026. No macro, syntax, notation, axiom, sorry.
-/
import Derived.Test.YthdhmflodiincaaGreatChecked
import GoSem.Claim
import GoSem.ClaimJoined
import GoSem.ClaimMapViews
import Derived.JoinedTies
import Derived.KernelRfl
namespace Go.Proofs.YthdhmflodiincaaGreat
/- THE CELL 'sum', in the pinned program and in every row, IS THE sha256 OF THE DUMP (.gsa) THAT YthdhmflodiincaaGreatProg.lean LOADS. Nothing in Lean hashes anything: it is a label: what it is worth is what the hold of that sum in a sandbox is worth. -/
noncomputable def Tryz.pinned : Pinned := { name := "ythdhmflodiincaagreat", sum := "a6dc16e6fc951fbe4ae1cdbda4ab72ec6f7c1d76dac9291b53787f4848badc99", checked := Tryz.checked }
namespace Rows
def none {H : Type} : Left H := { results := [], args := [] }

/-- 'armaturelaw14.MatrixProducts': WHATEVER THE INPUT: true; the input reads as it did. -/
def matrixProductsSpec : ChangeSpec := { name := "matrixProducts", fn := fun _ => fun
  | [d1, d2, d3, d4, d5] => { results := [.lit (.bool true)], args := [d1, d2, d3, d4, d5] }
  | _ => none }
def matrixProductsRow : OpenClaim := { program := "ythdhmflodiincaagreat", sum := "a6dc16e6fc951fbe4ae1cdbda4ab72ec6f7c1d76dac9291b53787f4848badc99", func := "armature/armaturelaw14.MatrixProducts", spec := "matrixProducts", unfollowed := true, recurses := true, plainKeys := false, apart := false }
def MatrixProductsSaid : Prop := matrixProductsRow.holds Tryz.pinned (OpenSpec.ofChange matrixProductsSpec)

/-- ITS FALSE NEIGHBOUR: 'it returns false'. Refute it at one input. -/
def matrixProductsWrong : ChangeSpec := { name := "matrixProducts", fn := fun _ => fun
  | [d1, d2, d3, d4, d5] => { results := [.lit (.bool false)], args := [d1, d2, d3, d4, d5] }
  | _ => none }
def MatrixProductsWrongFalsely : Prop := matrixProductsRow.holds Tryz.pinned (OpenSpec.ofChange matrixProductsWrong)

/-- 'armaturelaw14.MatrixConstants': WHATEVER THE INPUT: true; the input reads as it did. -/
def matrixConstantsSpec : ChangeSpec := { name := "matrixConstants", fn := fun _ => fun
  | [d1, d2, d3, d4] => { results := [.lit (.bool true)], args := [d1, d2, d3, d4] }
  | _ => none }
def matrixConstantsRow : OpenClaim := { program := "ythdhmflodiincaagreat", sum := "a6dc16e6fc951fbe4ae1cdbda4ab72ec6f7c1d76dac9291b53787f4848badc99", func := "armature/armaturelaw14.MatrixConstants", spec := "matrixConstants", unfollowed := true, recurses := true, plainKeys := false, apart := false }
def MatrixConstantsSaid : Prop := matrixConstantsRow.holds Tryz.pinned (OpenSpec.ofChange matrixConstantsSpec)

/-- ITS FALSE NEIGHBOUR: 'it returns false'. Refute it at one input. -/
def matrixConstantsWrong : ChangeSpec := { name := "matrixConstants", fn := fun _ => fun
  | [d1, d2, d3, d4] => { results := [.lit (.bool false)], args := [d1, d2, d3, d4] }
  | _ => none }
def MatrixConstantsWrongFalsely : Prop := matrixConstantsRow.holds Tryz.pinned (OpenSpec.ofChange matrixConstantsWrong)

/-- 'armaturelaw15.ClosureTransitive': WHATEVER THE INPUT: true; the input reads as it did. -/
def closureTransitiveSpec : ChangeSpec := { name := "closureTransitive", fn := fun _ => fun
  | [d1, d2, d3, d4] => { results := [.lit (.bool true)], args := [d1, d2, d3, d4] }
  | _ => none }
def closureTransitiveRow : OpenClaim := { program := "ythdhmflodiincaagreat", sum := "a6dc16e6fc951fbe4ae1cdbda4ab72ec6f7c1d76dac9291b53787f4848badc99", func := "armature/armaturelaw15.ClosureTransitive", spec := "closureTransitive", unfollowed := true, recurses := true, plainKeys := false, apart := false }
def ClosureTransitiveSaid : Prop := closureTransitiveRow.holds Tryz.pinned (OpenSpec.ofChange closureTransitiveSpec)

/-- ITS FALSE NEIGHBOUR: 'it returns false'. Refute it at one input. -/
def closureTransitiveWrong : ChangeSpec := { name := "closureTransitive", fn := fun _ => fun
  | [d1, d2, d3, d4] => { results := [.lit (.bool false)], args := [d1, d2, d3, d4] }
  | _ => none }
def ClosureTransitiveWrongFalsely : Prop := closureTransitiveRow.holds Tryz.pinned (OpenSpec.ofChange closureTransitiveWrong)

/-- 'armaturelaw15.ClosureAcyclic': WHATEVER THE INPUT: true; the input reads as it did. -/
def closureAcyclicSpec : ChangeSpec := { name := "closureAcyclic", fn := fun _ => fun
  | [d1, d2, d3, d4] => { results := [.lit (.bool true)], args := [d1, d2, d3, d4] }
  | _ => none }
def closureAcyclicRow : OpenClaim := { program := "ythdhmflodiincaagreat", sum := "a6dc16e6fc951fbe4ae1cdbda4ab72ec6f7c1d76dac9291b53787f4848badc99", func := "armature/armaturelaw15.ClosureAcyclic", spec := "closureAcyclic", unfollowed := true, recurses := true, plainKeys := false, apart := false }
def ClosureAcyclicSaid : Prop := closureAcyclicRow.holds Tryz.pinned (OpenSpec.ofChange closureAcyclicSpec)

/-- ITS FALSE NEIGHBOUR: 'it returns false'. Refute it at one input. -/
def closureAcyclicWrong : ChangeSpec := { name := "closureAcyclic", fn := fun _ => fun
  | [d1, d2, d3, d4] => { results := [.lit (.bool false)], args := [d1, d2, d3, d4] }
  | _ => none }
def ClosureAcyclicWrongFalsely : Prop := closureAcyclicRow.holds Tryz.pinned (OpenSpec.ofChange closureAcyclicWrong)

/- THE SECOND FORM. 'bulk': how many values and letters a reading holds, each counted each time it is reached (what is shared counts as often as it is met; a slice's spare places count too). A statement '..UptoSaid' is the law's where the arguments, and the package variables that the reading takes, are together of bulk at most 1048576: NARROWER than '..Said'. Prove '..Said' where nothing that the law and all that it calls make is longer than what came in: it says more and counts as full. Else prove '..UptoSaid'. A law counts once. -/
mutual
def uptoBulk {H : Type} : DataW H → Nat
  | .lit (.string bytes) => bytes.length + 1
  | .lit _ => 1
  | .nil => 1
  | .ptr d => uptoBulk d + 1
  | .slice elems spare => uptoBulkAll elems + uptoBulkAll spare + 1
  | .agg parts => uptoBulkAll parts + 1
  | .iface _ d => uptoBulk d + 1
  | .map entries => uptoBulkEntries entries + 1
  | .held _ => 1
def uptoBulkAll {H : Type} : List (DataW H) → Nat
  | [] => 0
  | d :: r => uptoBulk d + uptoBulkAll r
def uptoBulkEntries {H : Type} : List (Lit × DataW H) → Nat
  | [] => 0
  | x :: r => uptoBulkEntry x + uptoBulkEntries r
def uptoBulkEntry {H : Type} : Lit × DataW H → Nat
  | (.string bytes, d) => bytes.length + uptoBulk d + 1
  | (_, d) => uptoBulk d + 1
 end
def uptoSmall : (H : Type) → List (DataW H) → Bool := fun _ ds => decide (uptoBulkAll ds ≤ 1048576)
def OpenSpec.upto (s : _root_.Go.ChangeSpec) : _root_.Go.OpenSpec := { _root_.Go.OpenSpec.ofChange s with cond := some uptoSmall }

/-- 'armaturelaw14.MatrixProducts', WHERE WHAT IT READS IS OF BULK AT MOST 1048576: true; the input reads as it did. -/
def matrixProductsUptoRow : OpenClaim := { program := "ythdhmflodiincaagreat", sum := "a6dc16e6fc951fbe4ae1cdbda4ab72ec6f7c1d76dac9291b53787f4848badc99", func := "armature/armaturelaw14.MatrixProducts", spec := "matrixProducts", unfollowed := true, recurses := true, plainKeys := false, apart := false, narrowed := true }
def MatrixProductsUptoSaid : Prop := matrixProductsUptoRow.holds Tryz.pinned (OpenSpec.upto matrixProductsSpec)

/-- 'armaturelaw14.MatrixConstants', WHERE WHAT IT READS IS OF BULK AT MOST 1048576: true; the input reads as it did. -/
def matrixConstantsUptoRow : OpenClaim := { program := "ythdhmflodiincaagreat", sum := "a6dc16e6fc951fbe4ae1cdbda4ab72ec6f7c1d76dac9291b53787f4848badc99", func := "armature/armaturelaw14.MatrixConstants", spec := "matrixConstants", unfollowed := true, recurses := true, plainKeys := false, apart := false, narrowed := true }
def MatrixConstantsUptoSaid : Prop := matrixConstantsUptoRow.holds Tryz.pinned (OpenSpec.upto matrixConstantsSpec)

/-- 'armaturelaw15.ClosureTransitive', WHERE WHAT IT READS IS OF BULK AT MOST 1048576: true; the input reads as it did. -/
def closureTransitiveUptoRow : OpenClaim := { program := "ythdhmflodiincaagreat", sum := "a6dc16e6fc951fbe4ae1cdbda4ab72ec6f7c1d76dac9291b53787f4848badc99", func := "armature/armaturelaw15.ClosureTransitive", spec := "closureTransitive", unfollowed := true, recurses := true, plainKeys := false, apart := false, narrowed := true }
def ClosureTransitiveUptoSaid : Prop := closureTransitiveUptoRow.holds Tryz.pinned (OpenSpec.upto closureTransitiveSpec)

/-- 'armaturelaw15.ClosureAcyclic', WHERE WHAT IT READS IS OF BULK AT MOST 1048576: true; the input reads as it did. -/
def closureAcyclicUptoRow : OpenClaim := { program := "ythdhmflodiincaagreat", sum := "a6dc16e6fc951fbe4ae1cdbda4ab72ec6f7c1d76dac9291b53787f4848badc99", func := "armature/armaturelaw15.ClosureAcyclic", spec := "closureAcyclic", unfollowed := true, recurses := true, plainKeys := false, apart := false, narrowed := true }
def ClosureAcyclicUptoSaid : Prop := closureAcyclicUptoRow.holds Tryz.pinned (OpenSpec.upto closureAcyclicSpec)

end Rows
end Go.Proofs.YthdhmflodiincaaGreat
