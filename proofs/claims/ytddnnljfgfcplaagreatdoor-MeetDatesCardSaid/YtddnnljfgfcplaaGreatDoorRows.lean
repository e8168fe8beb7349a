/-
  NARROWER THAN 'FOR EVERY INPUT', by the rows' own cells (each row's printed sentence says how): MeetBack: laid · MeetApart: laid · MeetDates: laid · MeetLines: laid · MeetAlike: laid.
  DERIVED. THE GIVEN ROWS OF THIS SEAT. 5 by the template 'for every input the law returns true; each argument reads behind the call as it read before'; 0 by the template 'total and deterministic' (their statements: YtddnnljfgfcplaaGreatDoorTotals.lean).
  GIVEN WITH THE SEED: the statements are not yours to turn. If you find one false, say at which input.
  Laid BY PROGRAM, IN A SANDBOX (cutbox-rows.mjs): the forced cells as the released guide's own fill.sh prints them over the translation a01be33cefc8842d… (all of the seat's roots in one cut). By AI agents, Wed Nov 11 2026. No macro, syntax, notation, axiom, sorry.
-/
import Derived.Test.YtddnnljfgfcplaaGreatDoorChecked
import GoSem.PinnedTables
import GoSem.Claim
import GoSem.ClaimJoined
import GoSem.ClaimMapViews
import Derived.JoinedTies
import Derived.KernelRfl
namespace Go.Proofs.YtddnnljfgfcplaaGreatDoor
/- THE CELL 'sum', in the pinned program and in every row, IS THE sha256 OF THE DUMP (.gsa) THAT YtddnnljfgfcplaaGreatDoorProg.lean LOADS. Nothing in Lean hashes anything: it is a label: what it is worth is what the hold of that sum in a sandbox is worth. -/
noncomputable def Tryz.pinned : Pinned := { name := "ytddnnljfgfcplaagreatdoor", sum := "a01be33cefc8842d953018602aa416b44fc48236e30e93fcb6a3f1e04d0bc1b8", checked := Tryz.checked }
namespace Rows
def none {H : Type} : Left H := { results := [], args := [] }

/- WHAT THE LISTED PACKAGE-LEVEL VARIABLES READ AS WHEN THE CALL BEGINS. Each datum BY PROGRAM (the guide's laid-datum.mjs) off the statement by which the dump's own 'gosem.cut.vars' lays the variable. In a bare row this is a premise. The card (YtddnnljfgfcplaaGreatDoorCards.lean) ties it to the program's text. -/
def laid_math_bits_deBruijn32tab {H : Type} : DataW H := .agg [.lit (.int .u8 0), .lit (.int .u8 1), .lit (.int .u8 28), .lit (.int .u8 2), .lit (.int .u8 29), .lit (.int .u8 14), .lit (.int .u8 24), .lit (.int .u8 3), .lit (.int .u8 30), .lit (.int .u8 22), .lit (.int .u8 20), .lit (.int .u8 15), .lit (.int .u8 25), .lit (.int .u8 17), .lit (.int .u8 4), .lit (.int .u8 8), .lit (.int .u8 31), .lit (.int .u8 27), .lit (.int .u8 13), .lit (.int .u8 23), .lit (.int .u8 21), .lit (.int .u8 19), .lit (.int .u8 16), .lit (.int .u8 7), .lit (.int .u8 26), .lit (.int .u8 12), .lit (.int .u8 18), .lit (.int .u8 6), .lit (.int .u8 11), .lit (.int .u8 5), .lit (.int .u8 10), .lit (.int .u8 9)]
def laid_math_bits_deBruijn64tab {H : Type} : DataW H := .agg [.lit (.int .u8 0), .lit (.int .u8 1), .lit (.int .u8 56), .lit (.int .u8 2), .lit (.int .u8 57), .lit (.int .u8 49), .lit (.int .u8 28), .lit (.int .u8 3), .lit (.int .u8 61), .lit (.int .u8 58), .lit (.int .u8 42), .lit (.int .u8 50), .lit (.int .u8 38), .lit (.int .u8 29), .lit (.int .u8 17), .lit (.int .u8 4), .lit (.int .u8 62), .lit (.int .u8 47), .lit (.int .u8 59), .lit (.int .u8 36), .lit (.int .u8 45), .lit (.int .u8 43), .lit (.int .u8 51), .lit (.int .u8 22), .lit (.int .u8 53), .lit (.int .u8 39), .lit (.int .u8 33), .lit (.int .u8 30), .lit (.int .u8 24), .lit (.int .u8 18), .lit (.int .u8 12), .lit (.int .u8 5), .lit (.int .u8 63), .lit (.int .u8 55), .lit (.int .u8 48), .lit (.int .u8 27), .lit (.int .u8 60), .lit (.int .u8 41), .lit (.int .u8 37), .lit (.int .u8 16), .lit (.int .u8 46), .lit (.int .u8 35), .lit (.int .u8 44), .lit (.int .u8 21), .lit (.int .u8 52), .lit (.int .u8 32), .lit (.int .u8 23), .lit (.int .u8 11), .lit (.int .u8 54), .lit (.int .u8 26), .lit (.int .u8 40), .lit (.int .u8 15), .lit (.int .u8 34), .lit (.int .u8 20), .lit (.int .u8 31), .lit (.int .u8 10), .lit (.int .u8 25), .lit (.int .u8 14), .lit (.int .u8 19), .lit (.int .u8 9), .lit (.int .u8 13), .lit (.int .u8 8), .lit (.int .u8 7), .lit (.int .u8 6)]
def laid_internal_strconv_uint64pow10 {H : Type} : DataW H := .agg [.lit (.int .u64 1), .lit (.int .u64 10), .lit (.int .u64 100), .lit (.int .u64 1000), .lit (.int .u64 10000), .lit (.int .u64 100000), .lit (.int .u64 1000000), .lit (.int .u64 10000000), .lit (.int .u64 100000000), .lit (.int .u64 1000000000), .lit (.int .u64 10000000000), .lit (.int .u64 100000000000), .lit (.int .u64 1000000000000), .lit (.int .u64 10000000000000), .lit (.int .u64 100000000000000), .lit (.int .u64 1000000000000000), .lit (.int .u64 10000000000000000), .lit (.int .u64 100000000000000000), .lit (.int .u64 1000000000000000000), .lit (.int .u64 10000000000000000000)]
def laid_unicode_utf8_acceptRanges {H : Type} : DataW H := .agg [.agg [.lit (.int .u8 128), .lit (.int .u8 191)], .agg [.lit (.int .u8 160), .lit (.int .u8 191)], .agg [.lit (.int .u8 128), .lit (.int .u8 159)], .agg [.lit (.int .u8 144), .lit (.int .u8 191)], .agg [.lit (.int .u8 128), .lit (.int .u8 143)], .agg [.lit (.int .u8 0), .lit (.int .u8 0)], .agg [.lit (.int .u8 0), .lit (.int .u8 0)], .agg [.lit (.int .u8 0), .lit (.int .u8 0)], .agg [.lit (.int .u8 0), .lit (.int .u8 0)], .agg [.lit (.int .u8 0), .lit (.int .u8 0)], .agg [.lit (.int .u8 0), .lit (.int .u8 0)], .agg [.lit (.int .u8 0), .lit (.int .u8 0)], .agg [.lit (.int .u8 0), .lit (.int .u8 0)], .agg [.lit (.int .u8 0), .lit (.int .u8 0)], .agg [.lit (.int .u8 0), .lit (.int .u8 0)], .agg [.lit (.int .u8 0), .lit (.int .u8 0)]]
def laid_strconv_ErrRange {H : Type} : DataW H := .iface "*errors.errorString" (.ptr (.agg [.lit (.string [118, 97, 108, 117, 101, 32, 111, 117, 116, 32, 111, 102, 32, 114, 97, 110, 103, 101])]))
def laid_strconv_ErrSyntax {H : Type} : DataW H := .iface "*errors.errorString" (.ptr (.agg [.lit (.string [105, 110, 118, 97, 108, 105, 100, 32, 115, 121, 110, 116, 97, 120])]))
def laid_convoker_rule_words {H : Type} : DataW H := .agg [.lit (.string [89, 69, 65, 82, 76, 89]), .lit (.string [77, 79, 78, 84, 72, 76, 89]), .lit (.string [87, 69, 69, 75, 76, 89]), .lit (.string [68, 65, 73, 76, 89]), .lit (.string [72, 79, 85, 82, 76, 89]), .lit (.string [77, 73, 78, 85, 84, 69, 76, 89]), .lit (.string [83, 69, 67, 79, 78, 68, 76, 89])]
def laid_convoker_rule_weekdays {H : Type} : DataW H := .agg [.lit (.string [77, 79]), .lit (.string [84, 85]), .lit (.string [87, 69]), .lit (.string [84, 72]), .lit (.string [70, 82]), .lit (.string [83, 65]), .lit (.string [83, 85])]
def laid_convoker_meet_heads {H : Type} : DataW H := .agg [.lit (.string [68, 84, 83, 84, 65, 82, 84, 59, 84, 90, 73, 68, 61]), .lit (.string [68, 85, 82, 65, 84, 73, 79, 78, 58]), .lit (.string [82, 82, 85, 76, 69, 58]), .lit (.string [82, 68, 65, 84, 69, 58]), .lit (.string [69, 88, 68, 65, 84, 69, 58])]
/-- One of Go's own tables, pinned by name: the form's constant. -/
def laid_unicode_utf8_first : DataW Unit := Go.Pinned.utf8First

/-- 'voklaw9.MeetBack': WHATEVER THE INPUT: true; the input reads as it did. -/
def meetBackSpec : ChangeSpec := { name := "meetBack", fn := fun _ => fun
  | [d1, d2] => { results := [.lit (.bool true)], args := [d1, d2] }
  | _ => none }
def meetBackRow : OpenClaim := { program := "ytddnnljfgfcplaagreatdoor", sum := "a01be33cefc8842d953018602aa416b44fc48236e30e93fcb6a3f1e04d0bc1b8", func := "convoker/voklaw9.MeetBack", spec := "meetBack", inPlace := ["internal/bytealg.IndexByte", "internal/bytealg.Index", "internal/bytealg.IndexByteString", "internal/bytealg.IndexString", "internal/bytealg.CountString", "internal/abi.NoEscape", "internal/bytealg.MakeNoZero"], unfollowed := true, recurses := true, named := ["internal/bytealg.MaxLen", "convoker/meet.heads", "strconv.ErrSyntax", "strconv.ErrRange", "internal/strconv.uint64pow10", "math/bits.deBruijn32tab", "math/bits.deBruijn64tab", "unicode/utf8.first", "unicode/utf8.acceptRanges", "convoker/rule.words", "convoker/rule.weekdays"], apart := false, laid := [("math/bits.deBruijn32tab", laid_math_bits_deBruijn32tab), ("math/bits.deBruijn64tab", laid_math_bits_deBruijn64tab), ("internal/strconv.uint64pow10", laid_internal_strconv_uint64pow10), ("unicode/utf8.acceptRanges", laid_unicode_utf8_acceptRanges), ("strconv.ErrRange", laid_strconv_ErrRange), ("strconv.ErrSyntax", laid_strconv_ErrSyntax), ("convoker/rule.words", laid_convoker_rule_words), ("convoker/rule.weekdays", laid_convoker_rule_weekdays), ("convoker/meet.heads", laid_convoker_meet_heads), ("unicode/utf8.first", laid_unicode_utf8_first)] }
def MeetBackSaid : Prop := meetBackRow.holds Tryz.pinned (OpenSpec.ofChange meetBackSpec)

/-- ITS FALSE NEIGHBOUR: 'it returns false'. Refute it at one input. -/
def meetBackWrong : ChangeSpec := { name := "meetBack", fn := fun _ => fun
  | [d1, d2] => { results := [.lit (.bool false)], args := [d1, d2] }
  | _ => none }
def MeetBackWrongFalsely : Prop := meetBackRow.holds Tryz.pinned (OpenSpec.ofChange meetBackWrong)

/-- 'voklaw9.MeetApart': WHATEVER THE INPUT: true; the input reads as it did. -/
def meetApartSpec : ChangeSpec := { name := "meetApart", fn := fun _ => fun
  | [d1, d2, d3] => { results := [.lit (.bool true)], args := [d1, d2, d3] }
  | _ => none }
def meetApartRow : OpenClaim := { program := "ytddnnljfgfcplaagreatdoor", sum := "a01be33cefc8842d953018602aa416b44fc48236e30e93fcb6a3f1e04d0bc1b8", func := "convoker/voklaw9.MeetApart", spec := "meetApart", inPlace := ["internal/bytealg.IndexByte", "internal/bytealg.Index", "internal/bytealg.IndexByteString", "internal/bytealg.IndexString", "internal/bytealg.CountString"], unfollowed := true, recurses := true, named := ["internal/bytealg.MaxLen", "convoker/meet.heads", "strconv.ErrSyntax", "strconv.ErrRange", "internal/strconv.uint64pow10", "math/bits.deBruijn32tab", "math/bits.deBruijn64tab", "unicode/utf8.first", "unicode/utf8.acceptRanges", "convoker/rule.words", "convoker/rule.weekdays"], apart := false, laid := [("math/bits.deBruijn32tab", laid_math_bits_deBruijn32tab), ("math/bits.deBruijn64tab", laid_math_bits_deBruijn64tab), ("internal/strconv.uint64pow10", laid_internal_strconv_uint64pow10), ("unicode/utf8.acceptRanges", laid_unicode_utf8_acceptRanges), ("strconv.ErrRange", laid_strconv_ErrRange), ("strconv.ErrSyntax", laid_strconv_ErrSyntax), ("convoker/rule.words", laid_convoker_rule_words), ("convoker/rule.weekdays", laid_convoker_rule_weekdays), ("convoker/meet.heads", laid_convoker_meet_heads), ("unicode/utf8.first", laid_unicode_utf8_first)] }
def MeetApartSaid : Prop := meetApartRow.holds Tryz.pinned (OpenSpec.ofChange meetApartSpec)

/-- ITS FALSE NEIGHBOUR: 'it returns false'. Refute it at one input. -/
def meetApartWrong : ChangeSpec := { name := "meetApart", fn := fun _ => fun
  | [d1, d2, d3] => { results := [.lit (.bool false)], args := [d1, d2, d3] }
  | _ => none }
def MeetApartWrongFalsely : Prop := meetApartRow.holds Tryz.pinned (OpenSpec.ofChange meetApartWrong)

/-- 'voklaw9.MeetDates': WHATEVER THE INPUT: true; the input reads as it did. -/
def meetDatesSpec : ChangeSpec := { name := "meetDates", fn := fun _ => fun
  | [d1, d2, d3] => { results := [.lit (.bool true)], args := [d1, d2, d3] }
  | _ => none }
def meetDatesRow : OpenClaim := { program := "ytddnnljfgfcplaagreatdoor", sum := "a01be33cefc8842d953018602aa416b44fc48236e30e93fcb6a3f1e04d0bc1b8", func := "convoker/voklaw9.MeetDates", spec := "meetDates", inPlace := ["internal/bytealg.IndexByte", "internal/bytealg.Index", "internal/bytealg.IndexByteString", "internal/bytealg.IndexString", "internal/bytealg.CountString"], unfollowed := true, recurses := true, named := ["internal/bytealg.MaxLen", "convoker/meet.heads", "strconv.ErrSyntax", "strconv.ErrRange", "internal/strconv.uint64pow10", "math/bits.deBruijn32tab", "math/bits.deBruijn64tab", "unicode/utf8.first", "unicode/utf8.acceptRanges", "convoker/rule.words", "convoker/rule.weekdays"], apart := false, laid := [("math/bits.deBruijn32tab", laid_math_bits_deBruijn32tab), ("math/bits.deBruijn64tab", laid_math_bits_deBruijn64tab), ("internal/strconv.uint64pow10", laid_internal_strconv_uint64pow10), ("unicode/utf8.acceptRanges", laid_unicode_utf8_acceptRanges), ("strconv.ErrRange", laid_strconv_ErrRange), ("strconv.ErrSyntax", laid_strconv_ErrSyntax), ("convoker/rule.words", laid_convoker_rule_words), ("convoker/rule.weekdays", laid_convoker_rule_weekdays), ("convoker/meet.heads", laid_convoker_meet_heads), ("unicode/utf8.first", laid_unicode_utf8_first)] }
def MeetDatesSaid : Prop := meetDatesRow.holds Tryz.pinned (OpenSpec.ofChange meetDatesSpec)

/-- ITS FALSE NEIGHBOUR: 'it returns false'. Refute it at one input. -/
def meetDatesWrong : ChangeSpec := { name := "meetDates", fn := fun _ => fun
  | [d1, d2, d3] => { results := [.lit (.bool false)], args := [d1, d2, d3] }
  | _ => none }
def MeetDatesWrongFalsely : Prop := meetDatesRow.holds Tryz.pinned (OpenSpec.ofChange meetDatesWrong)

/-- 'voklaw9.MeetLines': WHATEVER THE INPUT: true; the input reads as it did. -/
def meetLinesSpec : ChangeSpec := { name := "meetLines", fn := fun _ => fun
  | [d1, d2, d3] => { results := [.lit (.bool true)], args := [d1, d2, d3] }
  | _ => none }
def meetLinesRow : OpenClaim := { program := "ytddnnljfgfcplaagreatdoor", sum := "a01be33cefc8842d953018602aa416b44fc48236e30e93fcb6a3f1e04d0bc1b8", func := "convoker/voklaw9.MeetLines", spec := "meetLines", inPlace := ["internal/bytealg.IndexByte", "internal/bytealg.Index", "internal/bytealg.IndexByteString", "internal/bytealg.IndexString", "internal/bytealg.CountString", "internal/abi.NoEscape", "internal/bytealg.MakeNoZero"], unfollowed := true, recurses := true, named := ["internal/bytealg.MaxLen", "convoker/meet.heads", "strconv.ErrSyntax", "strconv.ErrRange", "internal/strconv.uint64pow10", "math/bits.deBruijn32tab", "math/bits.deBruijn64tab", "unicode/utf8.first", "unicode/utf8.acceptRanges", "convoker/rule.words", "convoker/rule.weekdays"], apart := false, laid := [("math/bits.deBruijn32tab", laid_math_bits_deBruijn32tab), ("math/bits.deBruijn64tab", laid_math_bits_deBruijn64tab), ("internal/strconv.uint64pow10", laid_internal_strconv_uint64pow10), ("unicode/utf8.acceptRanges", laid_unicode_utf8_acceptRanges), ("strconv.ErrRange", laid_strconv_ErrRange), ("strconv.ErrSyntax", laid_strconv_ErrSyntax), ("convoker/rule.words", laid_convoker_rule_words), ("convoker/rule.weekdays", laid_convoker_rule_weekdays), ("convoker/meet.heads", laid_convoker_meet_heads), ("unicode/utf8.first", laid_unicode_utf8_first)] }
def MeetLinesSaid : Prop := meetLinesRow.holds Tryz.pinned (OpenSpec.ofChange meetLinesSpec)

/-- ITS FALSE NEIGHBOUR: 'it returns false'. Refute it at one input. -/
def meetLinesWrong : ChangeSpec := { name := "meetLines", fn := fun _ => fun
  | [d1, d2, d3] => { results := [.lit (.bool false)], args := [d1, d2, d3] }
  | _ => none }
def MeetLinesWrongFalsely : Prop := meetLinesRow.holds Tryz.pinned (OpenSpec.ofChange meetLinesWrong)

/-- 'voklaw9.MeetAlike': WHATEVER THE INPUT: true; the input reads as it did. -/
def meetAlikeSpec : ChangeSpec := { name := "meetAlike", fn := fun _ => fun
  | [d1, d2] => { results := [.lit (.bool true)], args := [d1, d2] }
  | _ => none }
def meetAlikeRow : OpenClaim := { program := "ytddnnljfgfcplaagreatdoor", sum := "a01be33cefc8842d953018602aa416b44fc48236e30e93fcb6a3f1e04d0bc1b8", func := "convoker/voklaw9.MeetAlike", spec := "meetAlike", inPlace := ["internal/bytealg.IndexByte", "internal/bytealg.Index", "internal/bytealg.IndexByteString", "internal/bytealg.IndexString", "internal/bytealg.CountString", "internal/abi.NoEscape", "internal/bytealg.MakeNoZero"], unfollowed := true, recurses := true, named := ["internal/bytealg.MaxLen", "convoker/meet.heads", "strconv.ErrSyntax", "strconv.ErrRange", "internal/strconv.uint64pow10", "math/bits.deBruijn32tab", "math/bits.deBruijn64tab", "unicode/utf8.first", "unicode/utf8.acceptRanges", "convoker/rule.words", "convoker/rule.weekdays"], apart := false, laid := [("math/bits.deBruijn32tab", laid_math_bits_deBruijn32tab), ("math/bits.deBruijn64tab", laid_math_bits_deBruijn64tab), ("internal/strconv.uint64pow10", laid_internal_strconv_uint64pow10), ("unicode/utf8.acceptRanges", laid_unicode_utf8_acceptRanges), ("strconv.ErrRange", laid_strconv_ErrRange), ("strconv.ErrSyntax", laid_strconv_ErrSyntax), ("convoker/rule.words", laid_convoker_rule_words), ("convoker/rule.weekdays", laid_convoker_rule_weekdays), ("convoker/meet.heads", laid_convoker_meet_heads), ("unicode/utf8.first", laid_unicode_utf8_first)] }
def MeetAlikeSaid : Prop := meetAlikeRow.holds Tryz.pinned (OpenSpec.ofChange meetAlikeSpec)

/-- ITS FALSE NEIGHBOUR: 'it returns false'. Refute it at one input. -/
def meetAlikeWrong : ChangeSpec := { name := "meetAlike", fn := fun _ => fun
  | [d1, d2] => { results := [.lit (.bool false)], args := [d1, d2] }
  | _ => none }
def MeetAlikeWrongFalsely : Prop := meetAlikeRow.holds Tryz.pinned (OpenSpec.ofChange meetAlikeWrong)

/- THE SECOND FORM. 'bulk': how many values and letters a reading holds, each counted each time it is reached (what is shared counts as often as it is met; a slice's spare places count too). A statement '..UptoSaid' is the law's where the arguments, and the package variables that the reading takes, are together of bulk at most 1048576: NARROWER than '..Said'. Prove '..Said' where nothing that the law and all that it calls make is longer than what came in: it says more and counts as full. Else prove '..UptoSaid'. A law counts once. -/
mutual
def uptoBulk {H : Type} : DataW H → Nat
  | .lit (.string bytes) => bytes.length + 1
  | .lit _ => 1
  | .nil => 1
  | .ptr d => uptoBulk d + 1
  | .slice elems spare => uptoBulkAll elems + uptoBulkAll spare + 1
  | .agg parts => uptoBulkAll parts + 1
  | .iface _ d => uptoBulk d + 1
  | .map entries => uptoBulkEntries entries + 1
  | .held _ => 1
def uptoBulkAll {H : Type} : List (DataW H) → Nat
  | [] => 0
  | d :: r => uptoBulk d + uptoBulkAll r
def uptoBulkEntries {H : Type} : List (Lit × DataW H) → Nat
  | [] => 0
  | x :: r => uptoBulkEntry x + uptoBulkEntries r
def uptoBulkEntry {H : Type} : Lit × DataW H → Nat
  | (.string bytes, d) => bytes.length + uptoBulk d + 1
  | (_, d) => uptoBulk d + 1
 end
def uptoSmall : (H : Type) → List (DataW H) → Bool := fun _ ds => decide (uptoBulkAll ds ≤ 1048576)
def OpenSpec.upto (s : _root_.Go.ChangeSpec) : _root_.Go.OpenSpec := { _root_.Go.OpenSpec.ofChange s with cond := some uptoSmall }

/-- 'voklaw9.MeetBack', WHERE WHAT IT READS IS OF BULK AT MOST 1048576: true; the input reads as it did. -/
def meetBackUptoRow : OpenClaim := { program := "ytddnnljfgfcplaagreatdoor", sum := "a01be33cefc8842d953018602aa416b44fc48236e30e93fcb6a3f1e04d0bc1b8", func := "convoker/voklaw9.MeetBack", spec := "meetBack", inPlace := ["internal/bytealg.IndexByte", "internal/bytealg.Index", "internal/bytealg.IndexByteString", "internal/bytealg.IndexString", "internal/bytealg.CountString", "internal/abi.NoEscape", "internal/bytealg.MakeNoZero"], unfollowed := true, recurses := true, named := ["internal/bytealg.MaxLen", "convoker/meet.heads", "strconv.ErrSyntax", "strconv.ErrRange", "internal/strconv.uint64pow10", "math/bits.deBruijn32tab", "math/bits.deBruijn64tab", "unicode/utf8.first", "unicode/utf8.acceptRanges", "convoker/rule.words", "convoker/rule.weekdays"], apart := false, laid := [("math/bits.deBruijn32tab", laid_math_bits_deBruijn32tab), ("math/bits.deBruijn64tab", laid_math_bits_deBruijn64tab), ("internal/strconv.uint64pow10", laid_internal_strconv_uint64pow10), ("unicode/utf8.acceptRanges", laid_unicode_utf8_acceptRanges), ("strconv.ErrRange", laid_strconv_ErrRange), ("strconv.ErrSyntax", laid_strconv_ErrSyntax), ("convoker/rule.words", laid_convoker_rule_words), ("convoker/rule.weekdays", laid_convoker_rule_weekdays), ("convoker/meet.heads", laid_convoker_meet_heads), ("unicode/utf8.first", laid_unicode_utf8_first)], narrowed := true }
def MeetBackUptoSaid : Prop := meetBackUptoRow.holds Tryz.pinned (OpenSpec.upto meetBackSpec)

/-- 'voklaw9.MeetApart', WHERE WHAT IT READS IS OF BULK AT MOST 1048576: true; the input reads as it did. -/
def meetApartUptoRow : OpenClaim := { program := "ytddnnljfgfcplaagreatdoor", sum := "a01be33cefc8842d953018602aa416b44fc48236e30e93fcb6a3f1e04d0bc1b8", func := "convoker/voklaw9.MeetApart", spec := "meetApart", inPlace := ["internal/bytealg.IndexByte", "internal/bytealg.Index", "internal/bytealg.IndexByteString", "internal/bytealg.IndexString", "internal/bytealg.CountString"], unfollowed := true, recurses := true, named := ["internal/bytealg.MaxLen", "convoker/meet.heads", "strconv.ErrSyntax", "strconv.ErrRange", "internal/strconv.uint64pow10", "math/bits.deBruijn32tab", "math/bits.deBruijn64tab", "unicode/utf8.first", "unicode/utf8.acceptRanges", "convoker/rule.words", "convoker/rule.weekdays"], apart := false, laid := [("math/bits.deBruijn32tab", laid_math_bits_deBruijn32tab), ("math/bits.deBruijn64tab", laid_math_bits_deBruijn64tab), ("internal/strconv.uint64pow10", laid_internal_strconv_uint64pow10), ("unicode/utf8.acceptRanges", laid_unicode_utf8_acceptRanges), ("strconv.ErrRange", laid_strconv_ErrRange), ("strconv.ErrSyntax", laid_strconv_ErrSyntax), ("convoker/rule.words", laid_convoker_rule_words), ("convoker/rule.weekdays", laid_convoker_rule_weekdays), ("convoker/meet.heads", laid_convoker_meet_heads), ("unicode/utf8.first", laid_unicode_utf8_first)], narrowed := true }
def MeetApartUptoSaid : Prop := meetApartUptoRow.holds Tryz.pinned (OpenSpec.upto meetApartSpec)

/-- 'voklaw9.MeetDates', WHERE WHAT IT READS IS OF BULK AT MOST 1048576: true; the input reads as it did. -/
def meetDatesUptoRow : OpenClaim := { program := "ytddnnljfgfcplaagreatdoor", sum := "a01be33cefc8842d953018602aa416b44fc48236e30e93fcb6a3f1e04d0bc1b8", func := "convoker/voklaw9.MeetDates", spec := "meetDates", inPlace := ["internal/bytealg.IndexByte", "internal/bytealg.Index", "internal/bytealg.IndexByteString", "internal/bytealg.IndexString", "internal/bytealg.CountString"], unfollowed := true, recurses := true, named := ["internal/bytealg.MaxLen", "convoker/meet.heads", "strconv.ErrSyntax", "strconv.ErrRange", "internal/strconv.uint64pow10", "math/bits.deBruijn32tab", "math/bits.deBruijn64tab", "unicode/utf8.first", "unicode/utf8.acceptRanges", "convoker/rule.words", "convoker/rule.weekdays"], apart := false, laid := [("math/bits.deBruijn32tab", laid_math_bits_deBruijn32tab), ("math/bits.deBruijn64tab", laid_math_bits_deBruijn64tab), ("internal/strconv.uint64pow10", laid_internal_strconv_uint64pow10), ("unicode/utf8.acceptRanges", laid_unicode_utf8_acceptRanges), ("strconv.ErrRange", laid_strconv_ErrRange), ("strconv.ErrSyntax", laid_strconv_ErrSyntax), ("convoker/rule.words", laid_convoker_rule_words), ("convoker/rule.weekdays", laid_convoker_rule_weekdays), ("convoker/meet.heads", laid_convoker_meet_heads), ("unicode/utf8.first", laid_unicode_utf8_first)], narrowed := true }
def MeetDatesUptoSaid : Prop := meetDatesUptoRow.holds Tryz.pinned (OpenSpec.upto meetDatesSpec)

/-- 'voklaw9.MeetLines', WHERE WHAT IT READS IS OF BULK AT MOST 1048576: true; the input reads as it did. -/
def meetLinesUptoRow : OpenClaim := { program := "ytddnnljfgfcplaagreatdoor", sum := "a01be33cefc8842d953018602aa416b44fc48236e30e93fcb6a3f1e04d0bc1b8", func := "convoker/voklaw9.MeetLines", spec := "meetLines", inPlace := ["internal/bytealg.IndexByte", "internal/bytealg.Index", "internal/bytealg.IndexByteString", "internal/bytealg.IndexString", "internal/bytealg.CountString", "internal/abi.NoEscape", "internal/bytealg.MakeNoZero"], unfollowed := true, recurses := true, named := ["internal/bytealg.MaxLen", "convoker/meet.heads", "strconv.ErrSyntax", "strconv.ErrRange", "internal/strconv.uint64pow10", "math/bits.deBruijn32tab", "math/bits.deBruijn64tab", "unicode/utf8.first", "unicode/utf8.acceptRanges", "convoker/rule.words", "convoker/rule.weekdays"], apart := false, laid := [("math/bits.deBruijn32tab", laid_math_bits_deBruijn32tab), ("math/bits.deBruijn64tab", laid_math_bits_deBruijn64tab), ("internal/strconv.uint64pow10", laid_internal_strconv_uint64pow10), ("unicode/utf8.acceptRanges", laid_unicode_utf8_acceptRanges), ("strconv.ErrRange", laid_strconv_ErrRange), ("strconv.ErrSyntax", laid_strconv_ErrSyntax), ("convoker/rule.words", laid_convoker_rule_words), ("convoker/rule.weekdays", laid_convoker_rule_weekdays), ("convoker/meet.heads", laid_convoker_meet_heads), ("unicode/utf8.first", laid_unicode_utf8_first)], narrowed := true }
def MeetLinesUptoSaid : Prop := meetLinesUptoRow.holds Tryz.pinned (OpenSpec.upto meetLinesSpec)

/-- 'voklaw9.MeetAlike', WHERE WHAT IT READS IS OF BULK AT MOST 1048576: true; the input reads as it did. -/
def meetAlikeUptoRow : OpenClaim := { program := "ytddnnljfgfcplaagreatdoor", sum := "a01be33cefc8842d953018602aa416b44fc48236e30e93fcb6a3f1e04d0bc1b8", func := "convoker/voklaw9.MeetAlike", spec := "meetAlike", inPlace := ["internal/bytealg.IndexByte", "internal/bytealg.Index", "internal/bytealg.IndexByteString", "internal/bytealg.IndexString", "internal/bytealg.CountString", "internal/abi.NoEscape", "internal/bytealg.MakeNoZero"], unfollowed := true, recurses := true, named := ["internal/bytealg.MaxLen", "convoker/meet.heads", "strconv.ErrSyntax", "strconv.ErrRange", "internal/strconv.uint64pow10", "math/bits.deBruijn32tab", "math/bits.deBruijn64tab", "unicode/utf8.first", "unicode/utf8.acceptRanges", "convoker/rule.words", "convoker/rule.weekdays"], apart := false, laid := [("math/bits.deBruijn32tab", laid_math_bits_deBruijn32tab), ("math/bits.deBruijn64tab", laid_math_bits_deBruijn64tab), ("internal/strconv.uint64pow10", laid_internal_strconv_uint64pow10), ("unicode/utf8.acceptRanges", laid_unicode_utf8_acceptRanges), ("strconv.ErrRange", laid_strconv_ErrRange), ("strconv.ErrSyntax", laid_strconv_ErrSyntax), ("convoker/rule.words", laid_convoker_rule_words), ("convoker/rule.weekdays", laid_convoker_rule_weekdays), ("convoker/meet.heads", laid_convoker_meet_heads), ("unicode/utf8.first", laid_unicode_utf8_first)], narrowed := true }
def MeetAlikeUptoSaid : Prop := meetAlikeUptoRow.holds Tryz.pinned (OpenSpec.upto meetAlikeSpec)

end Rows
end Go.Proofs.YtddnnljfgfcplaaGreatDoor
