/-
  DERIVED. GIVEN WITH THE SEED: THE CARDS: each row of YthkjjiijjedipaaDoorRows.lean that lists a variable, with what it lists TIED to the program's text (the seventh form; the later family's looks); each row that meets fmt, with fmt's text TOLD by the authors' own Lean function (tested against real Go, not proved from fmt's source: count such statements apart). THE CARD IS WHAT COUNTS. Prove the row's statement (the work); the ties are given (YthkjjiijjedipaaDoorTie.lean); close each card by the builder's one call (the guide's Derived/Test/ToyasCard.lean, 'card_holds'). Laid BY PROGRAM, IN A SANDBOX (cutbox-door.mjs). By AI agents, Wed Nov 11 2026. No macro, syntax, notation, axiom, sorry.
-/
import Derived.Test.YthkjjiijjedipaaDoorRows
import GoSem.ClaimSeven
namespace Go.Proofs.YthkjjiijjedipaaDoor
namespace Rows

/-- THE TIED CARD OF 'armaturelaw19.CnfExtension'. -/
def cnfExtensionCard : Claim7 := { stood := { row := cnfExtensionRow, standIns := [], harness := (true, "1ebb8a551e4ae0c27304fe2e0c0b58395341239bdca3d8e30e52d1aba9635839"), looks := false }, kinds := [], alts := [], laidByText := true, laidKinds := [.data, .data, .data], laidTests := true, laidLooks := .later }
def CnfExtensionCardSaid : Prop := Claim7.holds Tryd.pinned (.plain (OpenSpec.ofChange cnfExtensionSpec)) cnfExtensionCard

/-- THE TIED CARD OF 'armaturelaw19.CnfUnique'. -/
def cnfUniqueCard : Claim7 := { stood := { row := cnfUniqueRow, standIns := [], harness := (true, "1ebb8a551e4ae0c27304fe2e0c0b58395341239bdca3d8e30e52d1aba9635839"), looks := false }, kinds := [], alts := [], laidByText := true, laidKinds := [.data, .data, .data], laidTests := true, laidLooks := .later }
def CnfUniqueCardSaid : Prop := Claim7.holds Tryd.pinned (.plain (OpenSpec.ofChange cnfUniqueSpec)) cnfUniqueCard

/-- THE TIED CARD OF 'armaturelaw19.CnfModelCount'. -/
def cnfModelCountCard : Claim7 := { stood := { row := cnfModelCountRow, standIns := [], harness := (true, "1ebb8a551e4ae0c27304fe2e0c0b58395341239bdca3d8e30e52d1aba9635839"), looks := false }, kinds := [], alts := [], laidByText := true, laidKinds := [.data, .data, .data], laidTests := true, laidLooks := .later }
def CnfModelCountCardSaid : Prop := Claim7.holds Tryd.pinned (.plain (OpenSpec.ofChange cnfModelCountSpec)) cnfModelCountCard

/-- THE TIED CARD OF 'armaturelaw19.CnfSize'. -/
def cnfSizeCard : Claim7 := { stood := { row := cnfSizeRow, standIns := [], harness := (true, "1ebb8a551e4ae0c27304fe2e0c0b58395341239bdca3d8e30e52d1aba9635839"), looks := false }, kinds := [], alts := [], laidByText := true, laidKinds := [.data, .data, .data], laidTests := true, laidLooks := .later }
def CnfSizeCardSaid : Prop := Claim7.holds Tryd.pinned (.plain (OpenSpec.ofChange cnfSizeSpec)) cnfSizeCard

/-- THE TIED CARD OF 'armaturelaw19.CnfSimplify'. -/
def cnfSimplifyCard : Claim7 := { stood := { row := cnfSimplifyRow, standIns := [], harness := (true, "1ebb8a551e4ae0c27304fe2e0c0b58395341239bdca3d8e30e52d1aba9635839"), looks := false }, kinds := [], alts := [], laidByText := true, laidKinds := [.data, .data, .data], laidTests := true, laidLooks := .later }
def CnfSimplifyCardSaid : Prop := Claim7.holds Tryd.pinned (.plain (OpenSpec.ofChange cnfSimplifySpec)) cnfSimplifyCard

/-- THE SECOND FORM's CARD OF 'armaturelaw19.CnfExtension'. -/
def cnfExtensionUptoCard : Claim7 := { stood := { row := cnfExtensionUptoRow, standIns := [], harness := (true, "1ebb8a551e4ae0c27304fe2e0c0b58395341239bdca3d8e30e52d1aba9635839"), looks := false }, kinds := [], alts := [], laidByText := true, laidKinds := [.data, .data, .data], laidTests := true, laidLooks := .later }
def CnfExtensionUptoCardSaid : Prop := Claim7.holds Tryd.pinned (.plain (OpenSpec.upto cnfExtensionSpec)) cnfExtensionUptoCard

/-- THE SECOND FORM's CARD OF 'armaturelaw19.CnfUnique'. -/
def cnfUniqueUptoCard : Claim7 := { stood := { row := cnfUniqueUptoRow, standIns := [], harness := (true, "1ebb8a551e4ae0c27304fe2e0c0b58395341239bdca3d8e30e52d1aba9635839"), looks := false }, kinds := [], alts := [], laidByText := true, laidKinds := [.data, .data, .data], laidTests := true, laidLooks := .later }
def CnfUniqueUptoCardSaid : Prop := Claim7.holds Tryd.pinned (.plain (OpenSpec.upto cnfUniqueSpec)) cnfUniqueUptoCard

/-- THE SECOND FORM's CARD OF 'armaturelaw19.CnfModelCount'. -/
def cnfModelCountUptoCard : Claim7 := { stood := { row := cnfModelCountUptoRow, standIns := [], harness := (true, "1ebb8a551e4ae0c27304fe2e0c0b58395341239bdca3d8e30e52d1aba9635839"), looks := false }, kinds := [], alts := [], laidByText := true, laidKinds := [.data, .data, .data], laidTests := true, laidLooks := .later }
def CnfModelCountUptoCardSaid : Prop := Claim7.holds Tryd.pinned (.plain (OpenSpec.upto cnfModelCountSpec)) cnfModelCountUptoCard

/-- THE SECOND FORM's CARD OF 'armaturelaw19.CnfSize'. -/
def cnfSizeUptoCard : Claim7 := { stood := { row := cnfSizeUptoRow, standIns := [], harness := (true, "1ebb8a551e4ae0c27304fe2e0c0b58395341239bdca3d8e30e52d1aba9635839"), looks := false }, kinds := [], alts := [], laidByText := true, laidKinds := [.data, .data, .data], laidTests := true, laidLooks := .later }
def CnfSizeUptoCardSaid : Prop := Claim7.holds Tryd.pinned (.plain (OpenSpec.upto cnfSizeSpec)) cnfSizeUptoCard

/-- THE SECOND FORM's CARD OF 'armaturelaw19.CnfSimplify'. -/
def cnfSimplifyUptoCard : Claim7 := { stood := { row := cnfSimplifyUptoRow, standIns := [], harness := (true, "1ebb8a551e4ae0c27304fe2e0c0b58395341239bdca3d8e30e52d1aba9635839"), looks := false }, kinds := [], alts := [], laidByText := true, laidKinds := [.data, .data, .data], laidTests := true, laidLooks := .later }
def CnfSimplifyUptoCardSaid : Prop := Claim7.holds Tryd.pinned (.plain (OpenSpec.upto cnfSimplifySpec)) cnfSimplifyUptoCard
end Rows
end Go.Proofs.YthkjjiijjedipaaDoor
