/-
  NARROWER THAN 'FOR EVERY INPUT', by the rows' own cells (each row's printed sentence says how): SubjectJoins: laid · SubjectWith: laid · SubjectTrip: laid · SubjectDecodes: laid.
  DERIVED. THE GIVEN ROWS OF THIS SEAT. 4 by the template 'for every input the law returns true; each argument reads behind the call as it read before'; 0 by the template 'total and deterministic' (their statements: YtcbnefeedoabeaaGreatDoorTotals.lean).
  GIVEN WITH THE SEED: the statements are not yours to turn. If you find one false, say at which input.
  Laid BY PROGRAM, IN A SANDBOX (cutbox-rows.mjs): the forced cells as the released guide's own fill.sh prints them over the translation 4aa50baaacff09c8… (all of the seat's roots in one cut). By AI agents, Wed Nov 11 2026. No macro, syntax, notation, axiom, sorry.
-/
import Derived.Test.YtcbnefeedoabeaaGreatDoorChecked
import GoSem.PinnedTables
import GoSem.Claim
import GoSem.ClaimJoined
import GoSem.ClaimMapViews
import Derived.JoinedTies
import Derived.KernelRfl
namespace Go.Proofs.YtcbnefeedoabeaaGreatDoor
/- THE CELL 'sum', in the pinned program and in every row, IS THE sha256 OF THE DUMP (.gsa) THAT YtcbnefeedoabeaaGreatDoorProg.lean LOADS. Nothing in Lean hashes anything: it is a label: what it is worth is what the hold of that sum in a sandbox is worth. -/
noncomputable def Tryz.pinned : Pinned := { name := "ytcbnefeedoabeaagreatdoor", sum := "4aa50baaacff09c87e2e0d1a0137f9be8286ac86e5676eec2a173a547fd8cfc3", checked := Tryz.checked }
namespace Rows
def none {H : Type} : Left H := { results := [], args := [] }

/- WHAT THE LISTED PACKAGE-LEVEL VARIABLES READ AS WHEN THE CALL BEGINS. Each datum BY PROGRAM (the guide's laid-datum.mjs) off the statement by which the dump's own 'gosem.cut.vars' lays the variable. In a bare row this is a premise. The card (YtcbnefeedoabeaaGreatDoorCards.lean) ties it to the program's text. -/
def laid_unicode_utf8_acceptRanges {H : Type} : DataW H := .agg [.agg [.lit (.int .u8 128), .lit (.int .u8 191)], .agg [.lit (.int .u8 160), .lit (.int .u8 191)], .agg [.lit (.int .u8 128), .lit (.int .u8 159)], .agg [.lit (.int .u8 144), .lit (.int .u8 191)], .agg [.lit (.int .u8 128), .lit (.int .u8 143)], .agg [.lit (.int .u8 0), .lit (.int .u8 0)], .agg [.lit (.int .u8 0), .lit (.int .u8 0)], .agg [.lit (.int .u8 0), .lit (.int .u8 0)], .agg [.lit (.int .u8 0), .lit (.int .u8 0)], .agg [.lit (.int .u8 0), .lit (.int .u8 0)], .agg [.lit (.int .u8 0), .lit (.int .u8 0)], .agg [.lit (.int .u8 0), .lit (.int .u8 0)], .agg [.lit (.int .u8 0), .lit (.int .u8 0)], .agg [.lit (.int .u8 0), .lit (.int .u8 0)], .agg [.lit (.int .u8 0), .lit (.int .u8 0)], .agg [.lit (.int .u8 0), .lit (.int .u8 0)]]
def laid_flagstone_flagstonedraw_texts {H : Type} : DataW H := .agg [.lit (.string [115, 101]), .lit (.string [100, 101]), .lit (.string [117, 115]), .lit (.string [112, 114, 111]), .lit (.string [102, 114, 101, 101]), .lit (.string []), .lit (.string [97, 34, 98]), .lit (.string [99, 92]), .lit (.string [195, 169]), .lit (.string [112, 114, 111, 115, 101]), .lit (.string [120, 32, 121])]
def laid_flagstone_flagstonedraw_versions {H : Type} : DataW H := .agg [.lit (.string [49, 46, 48, 46, 48]), .lit (.string [49, 46, 50, 46, 51]), .lit (.string [49, 46, 49, 48, 46, 48]), .lit (.string [50, 46, 48, 46, 49]), .lit (.string [48, 46, 48, 46, 48]), .lit (.string [57, 57, 57, 57, 57, 57, 46, 48, 46, 57, 57, 57, 57, 57, 57])]
def laid_flagstone_flagstonedraw_lists {H : Type} : DataW H := .agg [.slice [] [], .slice [.lit (.string [112, 114, 111])] [], .slice [.lit (.string [100, 101]), .lit (.string [115, 101])] [], .slice [.lit (.string []), .lit (.string [102, 114, 101, 101]), .lit (.string [117, 115])] [], .slice [.lit (.string [120, 32, 121])] []]
def laid_flagstone_text_reservedWords {H : Type} : DataW H := .slice [.lit (.string [97, 110, 100]), .lit (.string [97, 114, 109, 115]), .lit (.string [97, 116, 116, 114, 105, 98, 117, 116, 101]), .lit (.string [98, 111, 111, 108]), .lit (.string [99, 108, 97, 105, 109, 115]), .lit (.string [99, 111, 110, 116, 97, 105, 110, 115]), .lit (.string [99, 111, 111, 108]), .lit (.string [99, 111, 111, 108, 105, 110, 103]), .lit (.string [100, 101, 102, 97, 117, 108, 116]), .lit (.string [100, 114, 97, 102, 116]), .lit (.string [101, 110, 100, 115]), .lit (.string [101, 120, 99, 108, 117, 100, 101]), .lit (.string [101, 120, 105, 115, 116, 115]), .lit (.string [101, 120, 112, 101, 114, 105, 109, 101, 110, 116]), .lit (.string [102, 97, 108, 115, 101]), .lit (.string [102, 108, 97, 103]), .lit (.string [104, 111, 108, 100, 111, 117, 116]), .lit (.string [105, 110]), .lit (.string [105, 110, 99, 108, 117, 100, 101]), .lit (.string [105, 115]), .lit (.string [108, 97, 121, 101, 114]), .lit (.string [108, 105, 115, 116]), .lit (.string [109, 101, 109, 98, 101, 114]), .lit (.string [110, 101, 101, 100, 115]), .lit (.string [110, 111, 116]), .lit (.string [110, 117, 109, 98, 101, 114]), .lit (.string [111, 102, 102]), .lit (.string [111, 110]), .lit (.string [111, 114]), .lit (.string [114, 117, 108, 101]), .lit (.string [114, 117, 110, 110, 105, 110, 103]), .lit (.string [115, 97, 108, 116]), .lit (.string [115, 101, 103, 109, 101, 110, 116]), .lit (.string [115, 101, 114, 118, 101]), .lit (.string [115, 101, 116, 116, 105, 110, 103, 115]), .lit (.string [115, 112, 108, 105, 116]), .lit (.string [115, 116, 97, 114, 116, 115]), .lit (.string [115, 116, 111, 112, 112, 101, 100]), .lit (.string [116, 97, 114, 103, 101, 116]), .lit (.string [116, 101, 120, 116]), .lit (.string [116, 111]), .lit (.string [116, 114, 117, 101]), .lit (.string [117, 110, 116, 105, 108]), .lit (.string [118, 97, 114, 105, 97, 116, 105, 111, 110, 115]), .lit (.string [118, 101, 114, 115, 105, 111, 110]), .lit (.string [119, 104, 101, 110])] []
/-- One of Go's own tables, pinned by name: the form's constant. -/
def laid_unicode_utf8_first : DataW Unit := Go.Pinned.utf8First

/-- 'flagstonelaw5.SubjectJoins': WHATEVER THE INPUT: true; the input reads as it did. -/
def subjectJoinsSpec : ChangeSpec := { name := "subjectJoins", fn := fun _ => fun
  | [d1, d2, d3] => { results := [.lit (.bool true)], args := [d1, d2, d3] }
  | _ => none }
def subjectJoinsRow : OpenClaim := { program := "ytcbnefeedoabeaagreatdoor", sum := "4aa50baaacff09c87e2e0d1a0137f9be8286ac86e5676eec2a173a547fd8cfc3", func := "flagstone/flagstonelaw5.SubjectJoins", spec := "subjectJoins", inPlace := ["internal/bytealg.CountString", "internal/bytealg.IndexByteString", "internal/bytealg.IndexString", "internal/abi.NoEscape", "internal/bytealg.MakeNoZero", "internal/bytealg.abigen_runtime_cmpstring"], unfollowed := true, recurses := true, named := ["flagstone/text.reservedWords", "unicode/utf8.first", "unicode/utf8.acceptRanges", "internal/bytealg.MaxLen", "flagstone/flagstonedraw.versions", "flagstone/flagstonedraw.lists", "flagstone/flagstonedraw.texts"], apart := false, laid := [("unicode/utf8.acceptRanges", laid_unicode_utf8_acceptRanges), ("flagstone/flagstonedraw.texts", laid_flagstone_flagstonedraw_texts), ("flagstone/flagstonedraw.versions", laid_flagstone_flagstonedraw_versions), ("flagstone/flagstonedraw.lists", laid_flagstone_flagstonedraw_lists), ("flagstone/text.reservedWords", laid_flagstone_text_reservedWords), ("unicode/utf8.first", laid_unicode_utf8_first)] }
def SubjectJoinsSaid : Prop := subjectJoinsRow.holds Tryz.pinned (OpenSpec.ofChange subjectJoinsSpec)

/-- ITS FALSE NEIGHBOUR: 'it returns false'. Refute it at one input. -/
def subjectJoinsWrong : ChangeSpec := { name := "subjectJoins", fn := fun _ => fun
  | [d1, d2, d3] => { results := [.lit (.bool false)], args := [d1, d2, d3] }
  | _ => none }
def SubjectJoinsWrongFalsely : Prop := subjectJoinsRow.holds Tryz.pinned (OpenSpec.ofChange subjectJoinsWrong)

/-- 'flagstonelaw5.SubjectWith': WHATEVER THE INPUT: true; the input reads as it did. -/
def subjectWithSpec : ChangeSpec := { name := "subjectWith", fn := fun _ => fun
  | [d1, d2, d3, d4] => { results := [.lit (.bool true)], args := [d1, d2, d3, d4] }
  | _ => none }
def subjectWithRow : OpenClaim := { program := "ytcbnefeedoabeaagreatdoor", sum := "4aa50baaacff09c87e2e0d1a0137f9be8286ac86e5676eec2a173a547fd8cfc3", func := "flagstone/flagstonelaw5.SubjectWith", spec := "subjectWith", inPlace := ["internal/bytealg.CountString", "internal/bytealg.IndexByteString", "internal/bytealg.IndexString", "internal/abi.NoEscape", "internal/bytealg.MakeNoZero", "internal/bytealg.abigen_runtime_cmpstring"], unfollowed := true, recurses := true, named := ["flagstone/text.reservedWords", "unicode/utf8.first", "unicode/utf8.acceptRanges", "internal/bytealg.MaxLen", "flagstone/flagstonedraw.versions", "flagstone/flagstonedraw.lists", "flagstone/flagstonedraw.texts"], apart := false, laid := [("unicode/utf8.acceptRanges", laid_unicode_utf8_acceptRanges), ("flagstone/flagstonedraw.texts", laid_flagstone_flagstonedraw_texts), ("flagstone/flagstonedraw.versions", laid_flagstone_flagstonedraw_versions), ("flagstone/flagstonedraw.lists", laid_flagstone_flagstonedraw_lists), ("flagstone/text.reservedWords", laid_flagstone_text_reservedWords), ("unicode/utf8.first", laid_unicode_utf8_first)] }
def SubjectWithSaid : Prop := subjectWithRow.holds Tryz.pinned (OpenSpec.ofChange subjectWithSpec)

/-- ITS FALSE NEIGHBOUR: 'it returns false'. Refute it at one input. -/
def subjectWithWrong : ChangeSpec := { name := "subjectWith", fn := fun _ => fun
  | [d1, d2, d3, d4] => { results := [.lit (.bool false)], args := [d1, d2, d3, d4] }
  | _ => none }
def SubjectWithWrongFalsely : Prop := subjectWithRow.holds Tryz.pinned (OpenSpec.ofChange subjectWithWrong)

/-- 'flagstonelaw5.SubjectTrip': WHATEVER THE INPUT: true; the input reads as it did. -/
def subjectTripSpec : ChangeSpec := { name := "subjectTrip", fn := fun _ => fun
  | [d1, d2] => { results := [.lit (.bool true)], args := [d1, d2] }
  | _ => none }
def subjectTripRow : OpenClaim := { program := "ytcbnefeedoabeaagreatdoor", sum := "4aa50baaacff09c87e2e0d1a0137f9be8286ac86e5676eec2a173a547fd8cfc3", func := "flagstone/flagstonelaw5.SubjectTrip", spec := "subjectTrip", inPlace := ["internal/bytealg.CountString", "internal/bytealg.IndexByteString", "internal/bytealg.IndexString", "internal/abi.NoEscape", "internal/bytealg.MakeNoZero"], unfollowed := true, recurses := true, named := ["flagstone/text.reservedWords", "unicode/utf8.first", "unicode/utf8.acceptRanges", "internal/bytealg.MaxLen", "flagstone/flagstonedraw.versions", "flagstone/flagstonedraw.lists", "flagstone/flagstonedraw.texts"], apart := false, laid := [("unicode/utf8.acceptRanges", laid_unicode_utf8_acceptRanges), ("flagstone/flagstonedraw.texts", laid_flagstone_flagstonedraw_texts), ("flagstone/flagstonedraw.versions", laid_flagstone_flagstonedraw_versions), ("flagstone/flagstonedraw.lists", laid_flagstone_flagstonedraw_lists), ("flagstone/text.reservedWords", laid_flagstone_text_reservedWords), ("unicode/utf8.first", laid_unicode_utf8_first)] }
def SubjectTripSaid : Prop := subjectTripRow.holds Tryz.pinned (OpenSpec.ofChange subjectTripSpec)

/-- ITS FALSE NEIGHBOUR: 'it returns false'. Refute it at one input. -/
def subjectTripWrong : ChangeSpec := { name := "subjectTrip", fn := fun _ => fun
  | [d1, d2] => { results := [.lit (.bool false)], args := [d1, d2] }
  | _ => none }
def SubjectTripWrongFalsely : Prop := subjectTripRow.holds Tryz.pinned (OpenSpec.ofChange subjectTripWrong)

/-- 'flagstonelaw5.SubjectDecodes': WHATEVER THE INPUT: true; the input reads as it did. -/
def subjectDecodesSpec : ChangeSpec := { name := "subjectDecodes", fn := fun _ => fun
  | [d1, d2, d3, d4] => { results := [.lit (.bool true)], args := [d1, d2, d3, d4] }
  | _ => none }
def subjectDecodesRow : OpenClaim := { program := "ytcbnefeedoabeaagreatdoor", sum := "4aa50baaacff09c87e2e0d1a0137f9be8286ac86e5676eec2a173a547fd8cfc3", func := "flagstone/flagstonelaw5.SubjectDecodes", spec := "subjectDecodes", inPlace := ["internal/bytealg.CountString", "internal/bytealg.IndexByteString", "internal/bytealg.IndexString", "internal/abi.NoEscape", "internal/bytealg.MakeNoZero"], unfollowed := true, recurses := true, named := ["flagstone/text.reservedWords", "unicode/utf8.first", "unicode/utf8.acceptRanges", "internal/bytealg.MaxLen", "flagstone/flagstonedraw.versions", "flagstone/flagstonedraw.lists", "flagstone/flagstonedraw.texts"], apart := false, laid := [("unicode/utf8.acceptRanges", laid_unicode_utf8_acceptRanges), ("flagstone/flagstonedraw.texts", laid_flagstone_flagstonedraw_texts), ("flagstone/flagstonedraw.versions", laid_flagstone_flagstonedraw_versions), ("flagstone/flagstonedraw.lists", laid_flagstone_flagstonedraw_lists), ("flagstone/text.reservedWords", laid_flagstone_text_reservedWords), ("unicode/utf8.first", laid_unicode_utf8_first)] }
def SubjectDecodesSaid : Prop := subjectDecodesRow.holds Tryz.pinned (OpenSpec.ofChange subjectDecodesSpec)

/-- ITS FALSE NEIGHBOUR: 'it returns false'. Refute it at one input. -/
def subjectDecodesWrong : ChangeSpec := { name := "subjectDecodes", fn := fun _ => fun
  | [d1, d2, d3, d4] => { results := [.lit (.bool false)], args := [d1, d2, d3, d4] }
  | _ => none }
def SubjectDecodesWrongFalsely : Prop := subjectDecodesRow.holds Tryz.pinned (OpenSpec.ofChange subjectDecodesWrong)

/- THE SECOND FORM. 'bulk': how many values and letters a reading holds, each counted each time it is reached (what is shared counts as often as it is met; a slice's spare places count too). A statement '..UptoSaid' is the law's where the arguments, and the package variables that the reading takes, are together of bulk at most 1048576: NARROWER than '..Said'. Prove '..Said' where nothing that the law and all that it calls make is longer than what came in: it says more and counts as full. Else prove '..UptoSaid'. A law counts once. -/
mutual
def uptoBulk {H : Type} : DataW H → Nat
  | .lit (.string bytes) => bytes.length + 1
  | .lit _ => 1
  | .nil => 1
  | .ptr d => uptoBulk d + 1
  | .slice elems spare => uptoBulkAll elems + uptoBulkAll spare + 1
  | .agg parts => uptoBulkAll parts + 1
  | .iface _ d => uptoBulk d + 1
  | .map entries => uptoBulkEntries entries + 1
  | .held _ => 1
def uptoBulkAll {H : Type} : List (DataW H) → Nat
  | [] => 0
  | d :: r => uptoBulk d + uptoBulkAll r
def uptoBulkEntries {H : Type} : List (Lit × DataW H) → Nat
  | [] => 0
  | x :: r => uptoBulkEntry x + uptoBulkEntries r
def uptoBulkEntry {H : Type} : Lit × DataW H → Nat
  | (.string bytes, d) => bytes.length + uptoBulk d + 1
  | (_, d) => uptoBulk d + 1
 end
def uptoSmall : (H : Type) → List (DataW H) → Bool := fun _ ds => decide (uptoBulkAll ds ≤ 1048576)
def OpenSpec.upto (s : _root_.Go.ChangeSpec) : _root_.Go.OpenSpec := { _root_.Go.OpenSpec.ofChange s with cond := some uptoSmall }

/-- 'flagstonelaw5.SubjectJoins', WHERE WHAT IT READS IS OF BULK AT MOST 1048576: true; the input reads as it did. -/
def subjectJoinsUptoRow : OpenClaim := { program := "ytcbnefeedoabeaagreatdoor", sum := "4aa50baaacff09c87e2e0d1a0137f9be8286ac86e5676eec2a173a547fd8cfc3", func := "flagstone/flagstonelaw5.SubjectJoins", spec := "subjectJoins", inPlace := ["internal/bytealg.CountString", "internal/bytealg.IndexByteString", "internal/bytealg.IndexString", "internal/abi.NoEscape", "internal/bytealg.MakeNoZero", "internal/bytealg.abigen_runtime_cmpstring"], unfollowed := true, recurses := true, named := ["flagstone/text.reservedWords", "unicode/utf8.first", "unicode/utf8.acceptRanges", "internal/bytealg.MaxLen", "flagstone/flagstonedraw.versions", "flagstone/flagstonedraw.lists", "flagstone/flagstonedraw.texts"], apart := false, laid := [("unicode/utf8.acceptRanges", laid_unicode_utf8_acceptRanges), ("flagstone/flagstonedraw.texts", laid_flagstone_flagstonedraw_texts), ("flagstone/flagstonedraw.versions", laid_flagstone_flagstonedraw_versions), ("flagstone/flagstonedraw.lists", laid_flagstone_flagstonedraw_lists), ("flagstone/text.reservedWords", laid_flagstone_text_reservedWords), ("unicode/utf8.first", laid_unicode_utf8_first)], narrowed := true }
def SubjectJoinsUptoSaid : Prop := subjectJoinsUptoRow.holds Tryz.pinned (OpenSpec.upto subjectJoinsSpec)

/-- 'flagstonelaw5.SubjectWith', WHERE WHAT IT READS IS OF BULK AT MOST 1048576: true; the input reads as it did. -/
def subjectWithUptoRow : OpenClaim := { program := "ytcbnefeedoabeaagreatdoor", sum := "4aa50baaacff09c87e2e0d1a0137f9be8286ac86e5676eec2a173a547fd8cfc3", func := "flagstone/flagstonelaw5.SubjectWith", spec := "subjectWith", inPlace := ["internal/bytealg.CountString", "internal/bytealg.IndexByteString", "internal/bytealg.IndexString", "internal/abi.NoEscape", "internal/bytealg.MakeNoZero", "internal/bytealg.abigen_runtime_cmpstring"], unfollowed := true, recurses := true, named := ["flagstone/text.reservedWords", "unicode/utf8.first", "unicode/utf8.acceptRanges", "internal/bytealg.MaxLen", "flagstone/flagstonedraw.versions", "flagstone/flagstonedraw.lists", "flagstone/flagstonedraw.texts"], apart := false, laid := [("unicode/utf8.acceptRanges", laid_unicode_utf8_acceptRanges), ("flagstone/flagstonedraw.texts", laid_flagstone_flagstonedraw_texts), ("flagstone/flagstonedraw.versions", laid_flagstone_flagstonedraw_versions), ("flagstone/flagstonedraw.lists", laid_flagstone_flagstonedraw_lists), ("flagstone/text.reservedWords", laid_flagstone_text_reservedWords), ("unicode/utf8.first", laid_unicode_utf8_first)], narrowed := true }
def SubjectWithUptoSaid : Prop := subjectWithUptoRow.holds Tryz.pinned (OpenSpec.upto subjectWithSpec)

/-- 'flagstonelaw5.SubjectTrip', WHERE WHAT IT READS IS OF BULK AT MOST 1048576: true; the input reads as it did. -/
def subjectTripUptoRow : OpenClaim := { program := "ytcbnefeedoabeaagreatdoor", sum := "4aa50baaacff09c87e2e0d1a0137f9be8286ac86e5676eec2a173a547fd8cfc3", func := "flagstone/flagstonelaw5.SubjectTrip", spec := "subjectTrip", inPlace := ["internal/bytealg.CountString", "internal/bytealg.IndexByteString", "internal/bytealg.IndexString", "internal/abi.NoEscape", "internal/bytealg.MakeNoZero"], unfollowed := true, recurses := true, named := ["flagstone/text.reservedWords", "unicode/utf8.first", "unicode/utf8.acceptRanges", "internal/bytealg.MaxLen", "flagstone/flagstonedraw.versions", "flagstone/flagstonedraw.lists", "flagstone/flagstonedraw.texts"], apart := false, laid := [("unicode/utf8.acceptRanges", laid_unicode_utf8_acceptRanges), ("flagstone/flagstonedraw.texts", laid_flagstone_flagstonedraw_texts), ("flagstone/flagstonedraw.versions", laid_flagstone_flagstonedraw_versions), ("flagstone/flagstonedraw.lists", laid_flagstone_flagstonedraw_lists), ("flagstone/text.reservedWords", laid_flagstone_text_reservedWords), ("unicode/utf8.first", laid_unicode_utf8_first)], narrowed := true }
def SubjectTripUptoSaid : Prop := subjectTripUptoRow.holds Tryz.pinned (OpenSpec.upto subjectTripSpec)

/-- 'flagstonelaw5.SubjectDecodes', WHERE WHAT IT READS IS OF BULK AT MOST 1048576: true; the input reads as it did. -/
def subjectDecodesUptoRow : OpenClaim := { program := "ytcbnefeedoabeaagreatdoor", sum := "4aa50baaacff09c87e2e0d1a0137f9be8286ac86e5676eec2a173a547fd8cfc3", func := "flagstone/flagstonelaw5.SubjectDecodes", spec := "subjectDecodes", inPlace := ["internal/bytealg.CountString", "internal/bytealg.IndexByteString", "internal/bytealg.IndexString", "internal/abi.NoEscape", "internal/bytealg.MakeNoZero"], unfollowed := true, recurses := true, named := ["flagstone/text.reservedWords", "unicode/utf8.first", "unicode/utf8.acceptRanges", "internal/bytealg.MaxLen", "flagstone/flagstonedraw.versions", "flagstone/flagstonedraw.lists", "flagstone/flagstonedraw.texts"], apart := false, laid := [("unicode/utf8.acceptRanges", laid_unicode_utf8_acceptRanges), ("flagstone/flagstonedraw.texts", laid_flagstone_flagstonedraw_texts), ("flagstone/flagstonedraw.versions", laid_flagstone_flagstonedraw_versions), ("flagstone/flagstonedraw.lists", laid_flagstone_flagstonedraw_lists), ("flagstone/text.reservedWords", laid_flagstone_text_reservedWords), ("unicode/utf8.first", laid_unicode_utf8_first)], narrowed := true }
def SubjectDecodesUptoSaid : Prop := subjectDecodesUptoRow.holds Tryz.pinned (OpenSpec.upto subjectDecodesSpec)

end Rows
end Go.Proofs.YtcbnefeedoabeaaGreatDoor
