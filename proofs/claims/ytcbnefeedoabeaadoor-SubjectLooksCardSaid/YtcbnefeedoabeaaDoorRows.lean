/-
  NARROWER THAN 'FOR EVERY INPUT', by the rows' own cells (each row's printed sentence says how): SubjectChecks: laid · SubjectLooks: laid · SubjectCanonical: laid.
  DERIVED. THE GIVEN ROWS OF THIS SEAT. 3 by the template 'for every input the law returns true; each argument reads behind the call as it read before'; 0 by the template 'total and deterministic' (their statements: YtcbnefeedoabeaaDoorTotals.lean).
  GIVEN WITH THE SEED: the statements are not yours to turn. If you find one false, say at which input.
  Laid BY PROGRAM, IN A SANDBOX (cutbox-rows.mjs): the forced cells as the released guide's own fill.sh prints them over the translation af2fb59dee7ef992… (all of the seat's roots in one cut). By AI agents, Wed Nov 11 2026. No macro, syntax, notation, axiom, sorry.
-/
import Derived.Test.YtcbnefeedoabeaaDoorChecked
import GoSem.PinnedTables
import GoSem.Claim
import GoSem.ClaimJoined
import GoSem.ClaimMapViews
import Derived.JoinedTies
import Derived.KernelRfl
namespace Go.Proofs.YtcbnefeedoabeaaDoor
/- THE CELL 'sum', in the pinned program and in every row, IS THE sha256 OF THE DUMP (.gsa) THAT YtcbnefeedoabeaaDoorProg.lean LOADS. Nothing in Lean hashes anything: it is a label: what it is worth is what the hold of that sum in a sandbox is worth. -/
noncomputable def Tryd.pinned : Pinned := { name := "ytcbnefeedoabeaadoor", sum := "af2fb59dee7ef992f6830a14c6ed681fb9feaf0906c0454001ae4a3e4cae0ded", checked := Tryd.checked }
namespace Rows
def none {H : Type} : Left H := { results := [], args := [] }

/- WHAT THE LISTED PACKAGE-LEVEL VARIABLES READ AS WHEN THE CALL BEGINS. Each datum BY PROGRAM (the guide's laid-datum.mjs) off the statement by which the dump's own 'gosem.cut.vars' lays the variable. In a bare row this is a premise. The card (YtcbnefeedoabeaaDoorCards.lean) ties it to the program's text. -/
def laid_unicode_utf8_acceptRanges {H : Type} : DataW H := .agg [.agg [.lit (.int .u8 128), .lit (.int .u8 191)], .agg [.lit (.int .u8 160), .lit (.int .u8 191)], .agg [.lit (.int .u8 128), .lit (.int .u8 159)], .agg [.lit (.int .u8 144), .lit (.int .u8 191)], .agg [.lit (.int .u8 128), .lit (.int .u8 143)], .agg [.lit (.int .u8 0), .lit (.int .u8 0)], .agg [.lit (.int .u8 0), .lit (.int .u8 0)], .agg [.lit (.int .u8 0), .lit (.int .u8 0)], .agg [.lit (.int .u8 0), .lit (.int .u8 0)], .agg [.lit (.int .u8 0), .lit (.int .u8 0)], .agg [.lit (.int .u8 0), .lit (.int .u8 0)], .agg [.lit (.int .u8 0), .lit (.int .u8 0)], .agg [.lit (.int .u8 0), .lit (.int .u8 0)], .agg [.lit (.int .u8 0), .lit (.int .u8 0)], .agg [.lit (.int .u8 0), .lit (.int .u8 0)], .agg [.lit (.int .u8 0), .lit (.int .u8 0)]]
def laid_flagstone_flagstonedraw_texts {H : Type} : DataW H := .agg [.lit (.string [115, 101]), .lit (.string [100, 101]), .lit (.string [117, 115]), .lit (.string [112, 114, 111]), .lit (.string [102, 114, 101, 101]), .lit (.string []), .lit (.string [97, 34, 98]), .lit (.string [99, 92]), .lit (.string [195, 169]), .lit (.string [112, 114, 111, 115, 101]), .lit (.string [120, 32, 121])]
def laid_flagstone_flagstonedraw_versions {H : Type} : DataW H := .agg [.lit (.string [49, 46, 48, 46, 48]), .lit (.string [49, 46, 50, 46, 51]), .lit (.string [49, 46, 49, 48, 46, 48]), .lit (.string [50, 46, 48, 46, 49]), .lit (.string [48, 46, 48, 46, 48]), .lit (.string [57, 57, 57, 57, 57, 57, 46, 48, 46, 57, 57, 57, 57, 57, 57])]
def laid_flagstone_flagstonedraw_lists {H : Type} : DataW H := .agg [.slice [] [], .slice [.lit (.string [112, 114, 111])] [], .slice [.lit (.string [100, 101]), .lit (.string [115, 101])] [], .slice [.lit (.string []), .lit (.string [102, 114, 101, 101]), .lit (.string [117, 115])] [], .slice [.lit (.string [120, 32, 121])] []]
def laid_flagstone_text_reservedWords {H : Type} : DataW H := .slice [.lit (.string [97, 110, 100]), .lit (.string [97, 114, 109, 115]), .lit (.string [97, 116, 116, 114, 105, 98, 117, 116, 101]), .lit (.string [98, 111, 111, 108]), .lit (.string [99, 108, 97, 105, 109, 115]), .lit (.string [99, 111, 110, 116, 97, 105, 110, 115]), .lit (.string [99, 111, 111, 108]), .lit (.string [99, 111, 111, 108, 105, 110, 103]), .lit (.string [100, 101, 102, 97, 117, 108, 116]), .lit (.string [100, 114, 97, 102, 116]), .lit (.string [101, 110, 100, 115]), .lit (.string [101, 120, 99, 108, 117, 100, 101]), .lit (.string [101, 120, 105, 115, 116, 115]), .lit (.string [101, 120, 112, 101, 114, 105, 109, 101, 110, 116]), .lit (.string [102, 97, 108, 115, 101]), .lit (.string [102, 108, 97, 103]), .lit (.string [104, 111, 108, 100, 111, 117, 116]), .lit (.string [105, 110]), .lit (.string [105, 110, 99, 108, 117, 100, 101]), .lit (.string [105, 115]), .lit (.string [108, 97, 121, 101, 114]), .lit (.string [108, 105, 115, 116]), .lit (.string [109, 101, 109, 98, 101, 114]), .lit (.string [110, 101, 101, 100, 115]), .lit (.string [110, 111, 116]), .lit (.string [110, 117, 109, 98, 101, 114]), .lit (.string [111, 102, 102]), .lit (.string [111, 110]), .lit (.string [111, 114]), .lit (.string [114, 117, 108, 101]), .lit (.string [114, 117, 110, 110, 105, 110, 103]), .lit (.string [115, 97, 108, 116]), .lit (.string [115, 101, 103, 109, 101, 110, 116]), .lit (.string [115, 101, 114, 118, 101]), .lit (.string [115, 101, 116, 116, 105, 110, 103, 115]), .lit (.string [115, 112, 108, 105, 116]), .lit (.string [115, 116, 97, 114, 116, 115]), .lit (.string [115, 116, 111, 112, 112, 101, 100]), .lit (.string [116, 97, 114, 103, 101, 116]), .lit (.string [116, 101, 120, 116]), .lit (.string [116, 111]), .lit (.string [116, 114, 117, 101]), .lit (.string [117, 110, 116, 105, 108]), .lit (.string [118, 97, 114, 105, 97, 116, 105, 111, 110, 115]), .lit (.string [118, 101, 114, 115, 105, 111, 110]), .lit (.string [119, 104, 101, 110])] []
/-- One of Go's own tables, pinned by name: the form's constant. -/
def laid_unicode_utf8_first : DataW Unit := Go.Pinned.utf8First

/-- 'flagstonelaw5.SubjectChecks': WHATEVER THE INPUT: true; the input reads as it did. -/
def subjectChecksSpec : ChangeSpec := { name := "subjectChecks", fn := fun _ => fun
  | [d1, d2] => { results := [.lit (.bool true)], args := [d1, d2] }
  | _ => none }
def subjectChecksRow : OpenClaim := { program := "ytcbnefeedoabeaadoor", sum := "af2fb59dee7ef992f6830a14c6ed681fb9feaf0906c0454001ae4a3e4cae0ded", func := "flagstone/flagstonelaw5.SubjectChecks", spec := "subjectChecks", inPlace := ["internal/bytealg.CountString", "internal/bytealg.IndexByteString", "internal/bytealg.IndexString", "internal/abi.NoEscape", "internal/bytealg.MakeNoZero"], named := ["flagstone/text.reservedWords", "unicode/utf8.first", "unicode/utf8.acceptRanges", "internal/bytealg.MaxLen", "flagstone/flagstonedraw.versions", "flagstone/flagstonedraw.lists", "flagstone/flagstonedraw.texts"], apart := false, laid := [("unicode/utf8.acceptRanges", laid_unicode_utf8_acceptRanges), ("flagstone/flagstonedraw.texts", laid_flagstone_flagstonedraw_texts), ("flagstone/flagstonedraw.versions", laid_flagstone_flagstonedraw_versions), ("flagstone/flagstonedraw.lists", laid_flagstone_flagstonedraw_lists), ("flagstone/text.reservedWords", laid_flagstone_text_reservedWords), ("unicode/utf8.first", laid_unicode_utf8_first)] }
def SubjectChecksSaid : Prop := subjectChecksRow.holds Tryd.pinned (OpenSpec.ofChange subjectChecksSpec)

/-- ITS FALSE NEIGHBOUR: 'it returns false'. Refute it at one input. -/
def subjectChecksWrong : ChangeSpec := { name := "subjectChecks", fn := fun _ => fun
  | [d1, d2] => { results := [.lit (.bool false)], args := [d1, d2] }
  | _ => none }
def SubjectChecksWrongFalsely : Prop := subjectChecksRow.holds Tryd.pinned (OpenSpec.ofChange subjectChecksWrong)

/-- 'flagstonelaw5.SubjectLooks': WHATEVER THE INPUT: true; the input reads as it did. -/
def subjectLooksSpec : ChangeSpec := { name := "subjectLooks", fn := fun _ => fun
  | [d1, d2, d3, d4] => { results := [.lit (.bool true)], args := [d1, d2, d3, d4] }
  | _ => none }
def subjectLooksRow : OpenClaim := { program := "ytcbnefeedoabeaadoor", sum := "af2fb59dee7ef992f6830a14c6ed681fb9feaf0906c0454001ae4a3e4cae0ded", func := "flagstone/flagstonelaw5.SubjectLooks", spec := "subjectLooks", inPlace := ["internal/bytealg.CountString", "internal/bytealg.IndexByteString", "internal/bytealg.IndexString", "internal/abi.NoEscape", "internal/bytealg.MakeNoZero"], unfollowed := true, recurses := true, named := ["flagstone/text.reservedWords", "unicode/utf8.first", "unicode/utf8.acceptRanges", "internal/bytealg.MaxLen", "flagstone/flagstonedraw.versions", "flagstone/flagstonedraw.lists", "flagstone/flagstonedraw.texts"], apart := false, laid := [("unicode/utf8.acceptRanges", laid_unicode_utf8_acceptRanges), ("flagstone/flagstonedraw.texts", laid_flagstone_flagstonedraw_texts), ("flagstone/flagstonedraw.versions", laid_flagstone_flagstonedraw_versions), ("flagstone/flagstonedraw.lists", laid_flagstone_flagstonedraw_lists), ("flagstone/text.reservedWords", laid_flagstone_text_reservedWords), ("unicode/utf8.first", laid_unicode_utf8_first)] }
def SubjectLooksSaid : Prop := subjectLooksRow.holds Tryd.pinned (OpenSpec.ofChange subjectLooksSpec)

/-- ITS FALSE NEIGHBOUR: 'it returns false'. Refute it at one input. -/
def subjectLooksWrong : ChangeSpec := { name := "subjectLooks", fn := fun _ => fun
  | [d1, d2, d3, d4] => { results := [.lit (.bool false)], args := [d1, d2, d3, d4] }
  | _ => none }
def SubjectLooksWrongFalsely : Prop := subjectLooksRow.holds Tryd.pinned (OpenSpec.ofChange subjectLooksWrong)

/-- 'flagstonelaw5.SubjectCanonical': WHATEVER THE INPUT: true; the input reads as it did. -/
def subjectCanonicalSpec : ChangeSpec := { name := "subjectCanonical", fn := fun _ => fun
  | [d1, d2, d3, d4] => { results := [.lit (.bool true)], args := [d1, d2, d3, d4] }
  | _ => none }
def subjectCanonicalRow : OpenClaim := { program := "ytcbnefeedoabeaadoor", sum := "af2fb59dee7ef992f6830a14c6ed681fb9feaf0906c0454001ae4a3e4cae0ded", func := "flagstone/flagstonelaw5.SubjectCanonical", spec := "subjectCanonical", inPlace := ["internal/bytealg.CountString", "internal/bytealg.IndexByteString", "internal/bytealg.IndexString", "internal/abi.NoEscape", "internal/bytealg.MakeNoZero"], named := ["flagstone/text.reservedWords", "unicode/utf8.first", "unicode/utf8.acceptRanges", "internal/bytealg.MaxLen", "flagstone/flagstonedraw.versions", "flagstone/flagstonedraw.lists", "flagstone/flagstonedraw.texts"], apart := false, laid := [("unicode/utf8.acceptRanges", laid_unicode_utf8_acceptRanges), ("flagstone/flagstonedraw.texts", laid_flagstone_flagstonedraw_texts), ("flagstone/flagstonedraw.versions", laid_flagstone_flagstonedraw_versions), ("flagstone/flagstonedraw.lists", laid_flagstone_flagstonedraw_lists), ("flagstone/text.reservedWords", laid_flagstone_text_reservedWords), ("unicode/utf8.first", laid_unicode_utf8_first)] }
def SubjectCanonicalSaid : Prop := subjectCanonicalRow.holds Tryd.pinned (OpenSpec.ofChange subjectCanonicalSpec)

/-- ITS FALSE NEIGHBOUR: 'it returns false'. Refute it at one input. -/
def subjectCanonicalWrong : ChangeSpec := { name := "subjectCanonical", fn := fun _ => fun
  | [d1, d2, d3, d4] => { results := [.lit (.bool false)], args := [d1, d2, d3, d4] }
  | _ => none }
def SubjectCanonicalWrongFalsely : Prop := subjectCanonicalRow.holds Tryd.pinned (OpenSpec.ofChange subjectCanonicalWrong)

/- THE SECOND FORM. 'bulk': how many values and letters a reading holds, each counted each time it is reached (what is shared counts as often as it is met; a slice's spare places count too). A statement '..UptoSaid' is the law's where the arguments, and the package variables that the reading takes, are together of bulk at most 1048576: NARROWER than '..Said'. Prove '..Said' where nothing that the law and all that it calls make is longer than what came in: it says more and counts as full. Else prove '..UptoSaid'. A law counts once. -/
mutual
def uptoBulk {H : Type} : DataW H → Nat
  | .lit (.string bytes) => bytes.length + 1
  | .lit _ => 1
  | .nil => 1
  | .ptr d => uptoBulk d + 1
  | .slice elems spare => uptoBulkAll elems + uptoBulkAll spare + 1
  | .agg parts => uptoBulkAll parts + 1
  | .iface _ d => uptoBulk d + 1
  | .map entries => uptoBulkEntries entries + 1
  | .held _ => 1
def uptoBulkAll {H : Type} : List (DataW H) → Nat
  | [] => 0
  | d :: r => uptoBulk d + uptoBulkAll r
def uptoBulkEntries {H : Type} : List (Lit × DataW H) → Nat
  | [] => 0
  | x :: r => uptoBulkEntry x + uptoBulkEntries r
def uptoBulkEntry {H : Type} : Lit × DataW H → Nat
  | (.string bytes, d) => bytes.length + uptoBulk d + 1
  | (_, d) => uptoBulk d + 1
 end
def uptoSmall : (H : Type) → List (DataW H) → Bool := fun _ ds => decide (uptoBulkAll ds ≤ 1048576)
def OpenSpec.upto (s : _root_.Go.ChangeSpec) : _root_.Go.OpenSpec := { _root_.Go.OpenSpec.ofChange s with cond := some uptoSmall }

/-- 'flagstonelaw5.SubjectChecks', WHERE WHAT IT READS IS OF BULK AT MOST 1048576: true; the input reads as it did. -/
def subjectChecksUptoRow : OpenClaim := { program := "ytcbnefeedoabeaadoor", sum := "af2fb59dee7ef992f6830a14c6ed681fb9feaf0906c0454001ae4a3e4cae0ded", func := "flagstone/flagstonelaw5.SubjectChecks", spec := "subjectChecks", inPlace := ["internal/bytealg.CountString", "internal/bytealg.IndexByteString", "internal/bytealg.IndexString", "internal/abi.NoEscape", "internal/bytealg.MakeNoZero"], named := ["flagstone/text.reservedWords", "unicode/utf8.first", "unicode/utf8.acceptRanges", "internal/bytealg.MaxLen", "flagstone/flagstonedraw.versions", "flagstone/flagstonedraw.lists", "flagstone/flagstonedraw.texts"], apart := false, laid := [("unicode/utf8.acceptRanges", laid_unicode_utf8_acceptRanges), ("flagstone/flagstonedraw.texts", laid_flagstone_flagstonedraw_texts), ("flagstone/flagstonedraw.versions", laid_flagstone_flagstonedraw_versions), ("flagstone/flagstonedraw.lists", laid_flagstone_flagstonedraw_lists), ("flagstone/text.reservedWords", laid_flagstone_text_reservedWords), ("unicode/utf8.first", laid_unicode_utf8_first)], narrowed := true }
def SubjectChecksUptoSaid : Prop := subjectChecksUptoRow.holds Tryd.pinned (OpenSpec.upto subjectChecksSpec)

/-- 'flagstonelaw5.SubjectLooks', WHERE WHAT IT READS IS OF BULK AT MOST 1048576: true; the input reads as it did. -/
def subjectLooksUptoRow : OpenClaim := { program := "ytcbnefeedoabeaadoor", sum := "af2fb59dee7ef992f6830a14c6ed681fb9feaf0906c0454001ae4a3e4cae0ded", func := "flagstone/flagstonelaw5.SubjectLooks", spec := "subjectLooks", inPlace := ["internal/bytealg.CountString", "internal/bytealg.IndexByteString", "internal/bytealg.IndexString", "internal/abi.NoEscape", "internal/bytealg.MakeNoZero"], unfollowed := true, recurses := true, named := ["flagstone/text.reservedWords", "unicode/utf8.first", "unicode/utf8.acceptRanges", "internal/bytealg.MaxLen", "flagstone/flagstonedraw.versions", "flagstone/flagstonedraw.lists", "flagstone/flagstonedraw.texts"], apart := false, laid := [("unicode/utf8.acceptRanges", laid_unicode_utf8_acceptRanges), ("flagstone/flagstonedraw.texts", laid_flagstone_flagstonedraw_texts), ("flagstone/flagstonedraw.versions", laid_flagstone_flagstonedraw_versions), ("flagstone/flagstonedraw.lists", laid_flagstone_flagstonedraw_lists), ("flagstone/text.reservedWords", laid_flagstone_text_reservedWords), ("unicode/utf8.first", laid_unicode_utf8_first)], narrowed := true }
def SubjectLooksUptoSaid : Prop := subjectLooksUptoRow.holds Tryd.pinned (OpenSpec.upto subjectLooksSpec)

/-- 'flagstonelaw5.SubjectCanonical', WHERE WHAT IT READS IS OF BULK AT MOST 1048576: true; the input reads as it did. -/
def subjectCanonicalUptoRow : OpenClaim := { program := "ytcbnefeedoabeaadoor", sum := "af2fb59dee7ef992f6830a14c6ed681fb9feaf0906c0454001ae4a3e4cae0ded", func := "flagstone/flagstonelaw5.SubjectCanonical", spec := "subjectCanonical", inPlace := ["internal/bytealg.CountString", "internal/bytealg.IndexByteString", "internal/bytealg.IndexString", "internal/abi.NoEscape", "internal/bytealg.MakeNoZero"], named := ["flagstone/text.reservedWords", "unicode/utf8.first", "unicode/utf8.acceptRanges", "internal/bytealg.MaxLen", "flagstone/flagstonedraw.versions", "flagstone/flagstonedraw.lists", "flagstone/flagstonedraw.texts"], apart := false, laid := [("unicode/utf8.acceptRanges", laid_unicode_utf8_acceptRanges), ("flagstone/flagstonedraw.texts", laid_flagstone_flagstonedraw_texts), ("flagstone/flagstonedraw.versions", laid_flagstone_flagstonedraw_versions), ("flagstone/flagstonedraw.lists", laid_flagstone_flagstonedraw_lists), ("flagstone/text.reservedWords", laid_flagstone_text_reservedWords), ("unicode/utf8.first", laid_unicode_utf8_first)], narrowed := true }
def SubjectCanonicalUptoSaid : Prop := subjectCanonicalUptoRow.holds Tryd.pinned (OpenSpec.upto subjectCanonicalSpec)

end Rows
end Go.Proofs.YtcbnefeedoabeaaDoor
