/-
  DERIVED. GIVEN WITH THE SEED: THE CARDS: each row of YtcbnefeedoabeaaGreatDoorRows.lean that lists a variable, with what it lists TIED to the program's text (the seventh form; the later family's looks); each row that meets fmt, with fmt's text TOLD by the authors' own Lean function (tested against real Go, not proved from fmt's source: count such statements apart). THE CARD IS WHAT COUNTS. Prove the row's statement (the work); the ties are given (YtcbnefeedoabeaaGreatDoorTie.lean); close each card by the builder's one call (the guide's Derived/Test/ToyasCard.lean, 'card_holds'). Laid BY PROGRAM, IN A SANDBOX (cutbox-door.mjs). By AI agents, Wed Nov 11 2026. No macro, syntax, notation, axiom, sorry.
-/
import Derived.Test.YtcbnefeedoabeaaGreatDoorRows
import GoSem.ClaimSeven
namespace Go.Proofs.YtcbnefeedoabeaaGreatDoor
namespace Rows

/-- THE TIED CARD OF 'flagstonelaw5.SubjectJoins'. -/
def subjectJoinsCard : Claim7 := { stood := { row := subjectJoinsRow, standIns := [], harness := (true, "28dc56fb6093146e742e0f29b90a7bc059ac0828845146c7c8c66246bf38c62c"), looks := false }, kinds := [], alts := [], laidByText := true, laidKinds := [.data, .data, .data, .widerDeep, .widerDeep, .pinned], laidTests := true, laidLooks := .later }
def SubjectJoinsCardSaid : Prop := Claim7.holds Tryz.pinned (.plain (OpenSpec.ofChange subjectJoinsSpec)) subjectJoinsCard

/-- THE TIED CARD OF 'flagstonelaw5.SubjectWith'. -/
def subjectWithCard : Claim7 := { stood := { row := subjectWithRow, standIns := [], harness := (true, "28dc56fb6093146e742e0f29b90a7bc059ac0828845146c7c8c66246bf38c62c"), looks := false }, kinds := [], alts := [], laidByText := true, laidKinds := [.data, .data, .data, .widerDeep, .widerDeep, .pinned], laidTests := true, laidLooks := .later }
def SubjectWithCardSaid : Prop := Claim7.holds Tryz.pinned (.plain (OpenSpec.ofChange subjectWithSpec)) subjectWithCard

/-- THE TIED CARD OF 'flagstonelaw5.SubjectTrip'. -/
def subjectTripCard : Claim7 := { stood := { row := subjectTripRow, standIns := [], harness := (true, "28dc56fb6093146e742e0f29b90a7bc059ac0828845146c7c8c66246bf38c62c"), looks := false }, kinds := [], alts := [], laidByText := true, laidKinds := [.data, .data, .data, .widerDeep, .widerDeep, .pinned], laidTests := true, laidLooks := .later }
def SubjectTripCardSaid : Prop := Claim7.holds Tryz.pinned (.plain (OpenSpec.ofChange subjectTripSpec)) subjectTripCard

/-- THE TIED CARD OF 'flagstonelaw5.SubjectDecodes'. -/
def subjectDecodesCard : Claim7 := { stood := { row := subjectDecodesRow, standIns := [], harness := (true, "28dc56fb6093146e742e0f29b90a7bc059ac0828845146c7c8c66246bf38c62c"), looks := false }, kinds := [], alts := [], laidByText := true, laidKinds := [.data, .data, .data, .widerDeep, .widerDeep, .pinned], laidTests := true, laidLooks := .later }
def SubjectDecodesCardSaid : Prop := Claim7.holds Tryz.pinned (.plain (OpenSpec.ofChange subjectDecodesSpec)) subjectDecodesCard

/-- THE SECOND FORM's CARD OF 'flagstonelaw5.SubjectJoins'. -/
def subjectJoinsUptoCard : Claim7 := { stood := { row := subjectJoinsUptoRow, standIns := [], harness := (true, "28dc56fb6093146e742e0f29b90a7bc059ac0828845146c7c8c66246bf38c62c"), looks := false }, kinds := [], alts := [], laidByText := true, laidKinds := [.data, .data, .data, .widerDeep, .widerDeep, .pinned], laidTests := true, laidLooks := .later }
def SubjectJoinsUptoCardSaid : Prop := Claim7.holds Tryz.pinned (.plain (OpenSpec.upto subjectJoinsSpec)) subjectJoinsUptoCard

/-- THE SECOND FORM's CARD OF 'flagstonelaw5.SubjectWith'. -/
def subjectWithUptoCard : Claim7 := { stood := { row := subjectWithUptoRow, standIns := [], harness := (true, "28dc56fb6093146e742e0f29b90a7bc059ac0828845146c7c8c66246bf38c62c"), looks := false }, kinds := [], alts := [], laidByText := true, laidKinds := [.data, .data, .data, .widerDeep, .widerDeep, .pinned], laidTests := true, laidLooks := .later }
def SubjectWithUptoCardSaid : Prop := Claim7.holds Tryz.pinned (.plain (OpenSpec.upto subjectWithSpec)) subjectWithUptoCard

/-- THE SECOND FORM's CARD OF 'flagstonelaw5.SubjectTrip'. -/
def subjectTripUptoCard : Claim7 := { stood := { row := subjectTripUptoRow, standIns := [], harness := (true, "28dc56fb6093146e742e0f29b90a7bc059ac0828845146c7c8c66246bf38c62c"), looks := false }, kinds := [], alts := [], laidByText := true, laidKinds := [.data, .data, .data, .widerDeep, .widerDeep, .pinned], laidTests := true, laidLooks := .later }
def SubjectTripUptoCardSaid : Prop := Claim7.holds Tryz.pinned (.plain (OpenSpec.upto subjectTripSpec)) subjectTripUptoCard

/-- THE SECOND FORM's CARD OF 'flagstonelaw5.SubjectDecodes'. -/
def subjectDecodesUptoCard : Claim7 := { stood := { row := subjectDecodesUptoRow, standIns := [], harness := (true, "28dc56fb6093146e742e0f29b90a7bc059ac0828845146c7c8c66246bf38c62c"), looks := false }, kinds := [], alts := [], laidByText := true, laidKinds := [.data, .data, .data, .widerDeep, .widerDeep, .pinned], laidTests := true, laidLooks := .later }
def SubjectDecodesUptoCardSaid : Prop := Claim7.holds Tryz.pinned (.plain (OpenSpec.upto subjectDecodesSpec)) subjectDecodesUptoCard
end Rows
end Go.Proofs.YtcbnefeedoabeaaGreatDoor
