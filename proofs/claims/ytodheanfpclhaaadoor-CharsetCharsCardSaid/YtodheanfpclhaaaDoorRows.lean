/-
  NARROWER THAN 'FOR EVERY INPUT', by the rows' own cells (each row's printed sentence says how): CharsetTexts: laid · CharsetBack: laid · CharsetChars: laid · CharsetJoins: laid.
  DERIVED. THE GIVEN ROWS OF THIS SEAT. 4 by the template 'for every input the law returns true; each argument reads behind the call as it read before'; 0 by the template 'total and deterministic' (their statements: YtodheanfpclhaaaDoorTotals.lean).
  GIVEN WITH THE SEED: the statements are not yours to turn. If you find one false, say at which input.
  Laid BY PROGRAM, IN A SANDBOX (cutbox-rows.mjs): the forced cells as the released guide's own fill.sh prints them over the translation de26dc7ce15c42af… (all of the seat's roots in one cut). By AI agents, Wed Nov 11 2026. No macro, syntax, notation, axiom, sorry.
-/
import Derived.Test.YtodheanfpclhaaaDoorChecked
import GoSem.PinnedTables
import GoSem.Claim
import GoSem.ClaimJoined
import GoSem.ClaimMapViews
import Derived.JoinedTies
import Derived.KernelRfl
namespace Go.Proofs.YtodheanfpclhaaaDoor
/- THE CELL 'sum', in the pinned program and in every row, IS THE sha256 OF THE DUMP (.gsa) THAT YtodheanfpclhaaaDoorProg.lean LOADS. Nothing in Lean hashes anything: it is a label: what it is worth is what the hold of that sum in a sandbox is worth. -/
noncomputable def Tryd.pinned : Pinned := { name := "ytodheanfpclhaaadoor", sum := "de26dc7ce15c42af3d6e5f6cb34a1c1f4bc6d2462686e769aa3e4ffe432c6441", checked := Tryd.checked }
namespace Rows
def none {H : Type} : Left H := { results := [], args := [] }

/- WHAT THE LISTED PACKAGE-LEVEL VARIABLES READ AS WHEN THE CALL BEGINS. Each datum BY PROGRAM (the guide's laid-datum.mjs) off the statement by which the dump's own 'gosem.cut.vars' lays the variable. In a bare row this is a premise. The card (YtodheanfpclhaaaDoorCards.lean) ties it to the program's text. -/
def laid_unicode_utf8_acceptRanges {H : Type} : DataW H := .agg [.agg [.lit (.int .u8 128), .lit (.int .u8 191)], .agg [.lit (.int .u8 160), .lit (.int .u8 191)], .agg [.lit (.int .u8 128), .lit (.int .u8 159)], .agg [.lit (.int .u8 144), .lit (.int .u8 191)], .agg [.lit (.int .u8 128), .lit (.int .u8 143)], .agg [.lit (.int .u8 0), .lit (.int .u8 0)], .agg [.lit (.int .u8 0), .lit (.int .u8 0)], .agg [.lit (.int .u8 0), .lit (.int .u8 0)], .agg [.lit (.int .u8 0), .lit (.int .u8 0)], .agg [.lit (.int .u8 0), .lit (.int .u8 0)], .agg [.lit (.int .u8 0), .lit (.int .u8 0)], .agg [.lit (.int .u8 0), .lit (.int .u8 0)], .agg [.lit (.int .u8 0), .lit (.int .u8 0)], .agg [.lit (.int .u8 0), .lit (.int .u8 0)], .agg [.lit (.int .u8 0), .lit (.int .u8 0)], .agg [.lit (.int .u8 0), .lit (.int .u8 0)]]
/-- One of Go's own tables, pinned by name: the form's constant. -/
def laid_unicode_utf8_first : DataW Unit := Go.Pinned.utf8First

/-- 'letterboxlaw08.CharsetTexts': WHATEVER THE INPUT: true; the input reads as it did. -/
def charsetTextsSpec : ChangeSpec := { name := "charsetTexts", fn := fun _ => fun
  | [d1, d2] => { results := [.lit (.bool true)], args := [d1, d2] }
  | _ => none }
def charsetTextsRow : OpenClaim := { program := "ytodheanfpclhaaadoor", sum := "de26dc7ce15c42af3d6e5f6cb34a1c1f4bc6d2462686e769aa3e4ffe432c6441", func := "letterbox/letterboxlaw08.CharsetTexts", spec := "charsetTexts", unfollowed := true, recurses := true, named := ["unicode/utf8.first", "unicode/utf8.acceptRanges"], apart := false, laid := [("unicode/utf8.acceptRanges", laid_unicode_utf8_acceptRanges), ("unicode/utf8.first", laid_unicode_utf8_first)] }
def CharsetTextsSaid : Prop := charsetTextsRow.holds Tryd.pinned (OpenSpec.ofChange charsetTextsSpec)

/-- ITS FALSE NEIGHBOUR: 'it returns false'. Refute it at one input. -/
def charsetTextsWrong : ChangeSpec := { name := "charsetTexts", fn := fun _ => fun
  | [d1, d2] => { results := [.lit (.bool false)], args := [d1, d2] }
  | _ => none }
def CharsetTextsWrongFalsely : Prop := charsetTextsRow.holds Tryd.pinned (OpenSpec.ofChange charsetTextsWrong)

/-- 'letterboxlaw08.CharsetBack': WHATEVER THE INPUT: true; the input reads as it did. -/
def charsetBackSpec : ChangeSpec := { name := "charsetBack", fn := fun _ => fun
  | [d1, d2] => { results := [.lit (.bool true)], args := [d1, d2] }
  | _ => none }
def charsetBackRow : OpenClaim := { program := "ytodheanfpclhaaadoor", sum := "de26dc7ce15c42af3d6e5f6cb34a1c1f4bc6d2462686e769aa3e4ffe432c6441", func := "letterbox/letterboxlaw08.CharsetBack", spec := "charsetBack", unfollowed := true, recurses := true, named := ["unicode/utf8.first", "unicode/utf8.acceptRanges"], apart := false, laid := [("unicode/utf8.acceptRanges", laid_unicode_utf8_acceptRanges), ("unicode/utf8.first", laid_unicode_utf8_first)] }
def CharsetBackSaid : Prop := charsetBackRow.holds Tryd.pinned (OpenSpec.ofChange charsetBackSpec)

/-- ITS FALSE NEIGHBOUR: 'it returns false'. Refute it at one input. -/
def charsetBackWrong : ChangeSpec := { name := "charsetBack", fn := fun _ => fun
  | [d1, d2] => { results := [.lit (.bool false)], args := [d1, d2] }
  | _ => none }
def CharsetBackWrongFalsely : Prop := charsetBackRow.holds Tryd.pinned (OpenSpec.ofChange charsetBackWrong)

/-- 'letterboxlaw08.CharsetChars': WHATEVER THE INPUT: true; the input reads as it did. -/
def charsetCharsSpec : ChangeSpec := { name := "charsetChars", fn := fun _ => fun
  | [d1, d2] => { results := [.lit (.bool true)], args := [d1, d2] }
  | _ => none }
def charsetCharsRow : OpenClaim := { program := "ytodheanfpclhaaadoor", sum := "de26dc7ce15c42af3d6e5f6cb34a1c1f4bc6d2462686e769aa3e4ffe432c6441", func := "letterbox/letterboxlaw08.CharsetChars", spec := "charsetChars", unfollowed := true, recurses := true, named := ["unicode/utf8.first", "unicode/utf8.acceptRanges"], apart := false, laid := [("unicode/utf8.acceptRanges", laid_unicode_utf8_acceptRanges), ("unicode/utf8.first", laid_unicode_utf8_first)] }
def CharsetCharsSaid : Prop := charsetCharsRow.holds Tryd.pinned (OpenSpec.ofChange charsetCharsSpec)

/-- ITS FALSE NEIGHBOUR: 'it returns false'. Refute it at one input. -/
def charsetCharsWrong : ChangeSpec := { name := "charsetChars", fn := fun _ => fun
  | [d1, d2] => { results := [.lit (.bool false)], args := [d1, d2] }
  | _ => none }
def CharsetCharsWrongFalsely : Prop := charsetCharsRow.holds Tryd.pinned (OpenSpec.ofChange charsetCharsWrong)

/-- 'letterboxlaw08.CharsetJoins': WHATEVER THE INPUT: true; the input reads as it did. -/
def charsetJoinsSpec : ChangeSpec := { name := "charsetJoins", fn := fun _ => fun
  | [d1, d2, d3] => { results := [.lit (.bool true)], args := [d1, d2, d3] }
  | _ => none }
def charsetJoinsRow : OpenClaim := { program := "ytodheanfpclhaaadoor", sum := "de26dc7ce15c42af3d6e5f6cb34a1c1f4bc6d2462686e769aa3e4ffe432c6441", func := "letterbox/letterboxlaw08.CharsetJoins", spec := "charsetJoins", unfollowed := true, recurses := true, named := ["unicode/utf8.first", "unicode/utf8.acceptRanges"], apart := false, laid := [("unicode/utf8.acceptRanges", laid_unicode_utf8_acceptRanges), ("unicode/utf8.first", laid_unicode_utf8_first)] }
def CharsetJoinsSaid : Prop := charsetJoinsRow.holds Tryd.pinned (OpenSpec.ofChange charsetJoinsSpec)

/-- ITS FALSE NEIGHBOUR: 'it returns false'. Refute it at one input. -/
def charsetJoinsWrong : ChangeSpec := { name := "charsetJoins", fn := fun _ => fun
  | [d1, d2, d3] => { results := [.lit (.bool false)], args := [d1, d2, d3] }
  | _ => none }
def CharsetJoinsWrongFalsely : Prop := charsetJoinsRow.holds Tryd.pinned (OpenSpec.ofChange charsetJoinsWrong)

/- THE SECOND FORM. 'bulk': how many values and letters a reading holds, each counted each time it is reached (what is shared counts as often as it is met; a slice's spare places count too). A statement '..UptoSaid' is the law's where the arguments, and the package variables that the reading takes, are together of bulk at most 1048576: NARROWER than '..Said'. Prove '..Said' where nothing that the law and all that it calls make is longer than what came in: it says more and counts as full. Else prove '..UptoSaid'. A law counts once. -/
mutual
def uptoBulk {H : Type} : DataW H → Nat
  | .lit (.string bytes) => bytes.length + 1
  | .lit _ => 1
  | .nil => 1
  | .ptr d => uptoBulk d + 1
  | .slice elems spare => uptoBulkAll elems + uptoBulkAll spare + 1
  | .agg parts => uptoBulkAll parts + 1
  | .iface _ d => uptoBulk d + 1
  | .map entries => uptoBulkEntries entries + 1
  | .held _ => 1
def uptoBulkAll {H : Type} : List (DataW H) → Nat
  | [] => 0
  | d :: r => uptoBulk d + uptoBulkAll r
def uptoBulkEntries {H : Type} : List (Lit × DataW H) → Nat
  | [] => 0
  | x :: r => uptoBulkEntry x + uptoBulkEntries r
def uptoBulkEntry {H : Type} : Lit × DataW H → Nat
  | (.string bytes, d) => bytes.length + uptoBulk d + 1
  | (_, d) => uptoBulk d + 1
 end
def uptoSmall : (H : Type) → List (DataW H) → Bool := fun _ ds => decide (uptoBulkAll ds ≤ 1048576)
def OpenSpec.upto (s : _root_.Go.ChangeSpec) : _root_.Go.OpenSpec := { _root_.Go.OpenSpec.ofChange s with cond := some uptoSmall }

/-- 'letterboxlaw08.CharsetTexts', WHERE WHAT IT READS IS OF BULK AT MOST 1048576: true; the input reads as it did. -/
def charsetTextsUptoRow : OpenClaim := { program := "ytodheanfpclhaaadoor", sum := "de26dc7ce15c42af3d6e5f6cb34a1c1f4bc6d2462686e769aa3e4ffe432c6441", func := "letterbox/letterboxlaw08.CharsetTexts", spec := "charsetTexts", unfollowed := true, recurses := true, named := ["unicode/utf8.first", "unicode/utf8.acceptRanges"], apart := false, laid := [("unicode/utf8.acceptRanges", laid_unicode_utf8_acceptRanges), ("unicode/utf8.first", laid_unicode_utf8_first)], narrowed := true }
def CharsetTextsUptoSaid : Prop := charsetTextsUptoRow.holds Tryd.pinned (OpenSpec.upto charsetTextsSpec)

/-- 'letterboxlaw08.CharsetBack', WHERE WHAT IT READS IS OF BULK AT MOST 1048576: true; the input reads as it did. -/
def charsetBackUptoRow : OpenClaim := { program := "ytodheanfpclhaaadoor", sum := "de26dc7ce15c42af3d6e5f6cb34a1c1f4bc6d2462686e769aa3e4ffe432c6441", func := "letterbox/letterboxlaw08.CharsetBack", spec := "charsetBack", unfollowed := true, recurses := true, named := ["unicode/utf8.first", "unicode/utf8.acceptRanges"], apart := false, laid := [("unicode/utf8.acceptRanges", laid_unicode_utf8_acceptRanges), ("unicode/utf8.first", laid_unicode_utf8_first)], narrowed := true }
def CharsetBackUptoSaid : Prop := charsetBackUptoRow.holds Tryd.pinned (OpenSpec.upto charsetBackSpec)

/-- 'letterboxlaw08.CharsetChars', WHERE WHAT IT READS IS OF BULK AT MOST 1048576: true; the input reads as it did. -/
def charsetCharsUptoRow : OpenClaim := { program := "ytodheanfpclhaaadoor", sum := "de26dc7ce15c42af3d6e5f6cb34a1c1f4bc6d2462686e769aa3e4ffe432c6441", func := "letterbox/letterboxlaw08.CharsetChars", spec := "charsetChars", unfollowed := true, recurses := true, named := ["unicode/utf8.first", "unicode/utf8.acceptRanges"], apart := false, laid := [("unicode/utf8.acceptRanges", laid_unicode_utf8_acceptRanges), ("unicode/utf8.first", laid_unicode_utf8_first)], narrowed := true }
def CharsetCharsUptoSaid : Prop := charsetCharsUptoRow.holds Tryd.pinned (OpenSpec.upto charsetCharsSpec)

/-- 'letterboxlaw08.CharsetJoins', WHERE WHAT IT READS IS OF BULK AT MOST 1048576: true; the input reads as it did. -/
def charsetJoinsUptoRow : OpenClaim := { program := "ytodheanfpclhaaadoor", sum := "de26dc7ce15c42af3d6e5f6cb34a1c1f4bc6d2462686e769aa3e4ffe432c6441", func := "letterbox/letterboxlaw08.CharsetJoins", spec := "charsetJoins", unfollowed := true, recurses := true, named := ["unicode/utf8.first", "unicode/utf8.acceptRanges"], apart := false, laid := [("unicode/utf8.acceptRanges", laid_unicode_utf8_acceptRanges), ("unicode/utf8.first", laid_unicode_utf8_first)], narrowed := true }
def CharsetJoinsUptoSaid : Prop := charsetJoinsUptoRow.holds Tryd.pinned (OpenSpec.upto charsetJoinsSpec)

end Rows
end Go.Proofs.YtodheanfpclhaaaDoor
