/-
  DERIVED. GIVEN WITH THE SEED: THE CARDS: each row of YtcbnefeedoabeaaDoorRows.lean that lists a variable, with what it lists TIED to the program's text (the seventh form; the later family's looks); each row that meets fmt, with fmt's text TOLD by the authors' own Lean function (tested against real Go, not proved from fmt's source: count such statements apart). THE CARD IS WHAT COUNTS. Prove the row's statement (the work); the ties are given (YtcbnefeedoabeaaDoorTie.lean); close each card by the builder's one call (the guide's Derived/Test/ToyasCard.lean, 'card_holds'). Laid BY PROGRAM, IN A SANDBOX (cutbox-door.mjs). By AI agents, Wed Nov 11 2026. No macro, syntax, notation, axiom, sorry.
-/
import Derived.Test.YtcbnefeedoabeaaDoorRows
import GoSem.ClaimSeven
namespace Go.Proofs.YtcbnefeedoabeaaDoor
namespace Rows

/-- THE TIED CARD OF 'flagstonelaw5.SubjectChecks'. -/
def subjectChecksCard : Claim7 := { stood := { row := subjectChecksRow, standIns := [], harness := (true, "165eca6e980601efafba81c3b4397f12578331c0b5803f2b38dc5c1e0f0c3c03"), looks := false }, kinds := [], alts := [], laidByText := true, laidKinds := [.data, .data, .data, .widerDeep, .widerDeep, .pinned], laidTests := true, laidLooks := .later }
def SubjectChecksCardSaid : Prop := Claim7.holds Tryd.pinned (.plain (OpenSpec.ofChange subjectChecksSpec)) subjectChecksCard

/-- THE TIED CARD OF 'flagstonelaw5.SubjectLooks'. -/
def subjectLooksCard : Claim7 := { stood := { row := subjectLooksRow, standIns := [], harness := (true, "165eca6e980601efafba81c3b4397f12578331c0b5803f2b38dc5c1e0f0c3c03"), looks := false }, kinds := [], alts := [], laidByText := true, laidKinds := [.data, .data, .data, .widerDeep, .widerDeep, .pinned], laidTests := true, laidLooks := .later }
def SubjectLooksCardSaid : Prop := Claim7.holds Tryd.pinned (.plain (OpenSpec.ofChange subjectLooksSpec)) subjectLooksCard

/-- THE TIED CARD OF 'flagstonelaw5.SubjectCanonical'. -/
def subjectCanonicalCard : Claim7 := { stood := { row := subjectCanonicalRow, standIns := [], harness := (true, "165eca6e980601efafba81c3b4397f12578331c0b5803f2b38dc5c1e0f0c3c03"), looks := false }, kinds := [], alts := [], laidByText := true, laidKinds := [.data, .data, .data, .widerDeep, .widerDeep, .pinned], laidTests := true, laidLooks := .later }
def SubjectCanonicalCardSaid : Prop := Claim7.holds Tryd.pinned (.plain (OpenSpec.ofChange subjectCanonicalSpec)) subjectCanonicalCard

/-- THE SECOND FORM's CARD OF 'flagstonelaw5.SubjectChecks'. -/
def subjectChecksUptoCard : Claim7 := { stood := { row := subjectChecksUptoRow, standIns := [], harness := (true, "165eca6e980601efafba81c3b4397f12578331c0b5803f2b38dc5c1e0f0c3c03"), looks := false }, kinds := [], alts := [], laidByText := true, laidKinds := [.data, .data, .data, .widerDeep, .widerDeep, .pinned], laidTests := true, laidLooks := .later }
def SubjectChecksUptoCardSaid : Prop := Claim7.holds Tryd.pinned (.plain (OpenSpec.upto subjectChecksSpec)) subjectChecksUptoCard

/-- THE SECOND FORM's CARD OF 'flagstonelaw5.SubjectLooks'. -/
def subjectLooksUptoCard : Claim7 := { stood := { row := subjectLooksUptoRow, standIns := [], harness := (true, "165eca6e980601efafba81c3b4397f12578331c0b5803f2b38dc5c1e0f0c3c03"), looks := false }, kinds := [], alts := [], laidByText := true, laidKinds := [.data, .data, .data, .widerDeep, .widerDeep, .pinned], laidTests := true, laidLooks := .later }
def SubjectLooksUptoCardSaid : Prop := Claim7.holds Tryd.pinned (.plain (OpenSpec.upto subjectLooksSpec)) subjectLooksUptoCard

/-- THE SECOND FORM's CARD OF 'flagstonelaw5.SubjectCanonical'. -/
def subjectCanonicalUptoCard : Claim7 := { stood := { row := subjectCanonicalUptoRow, standIns := [], harness := (true, "165eca6e980601efafba81c3b4397f12578331c0b5803f2b38dc5c1e0f0c3c03"), looks := false }, kinds := [], alts := [], laidByText := true, laidKinds := [.data, .data, .data, .widerDeep, .widerDeep, .pinned], laidTests := true, laidLooks := .later }
def SubjectCanonicalUptoCardSaid : Prop := Claim7.holds Tryd.pinned (.plain (OpenSpec.upto subjectCanonicalSpec)) subjectCanonicalUptoCard
end Rows
end Go.Proofs.YtcbnefeedoabeaaDoor
