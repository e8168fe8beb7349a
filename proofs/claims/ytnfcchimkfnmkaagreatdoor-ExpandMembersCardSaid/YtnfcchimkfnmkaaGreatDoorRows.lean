/-
  NARROWER THAN 'FOR EVERY INPUT', by the rows' own cells (each row's printed sentence says how): ExpandLists: laid · ExpandMembers: laid · ExpandFronts: laid · ExpandNext: laid · ExpandEvery: laid · ExpandUntil: laid · ExpandLater: laid · ExpandMost: laid.
  DERIVED. THE GIVEN ROWS OF THIS SEAT. 8 by the template 'for every input the law returns true; each argument reads behind the call as it read before'; 0 by the template 'total and deterministic' (their statements: YtnfcchimkfnmkaaGreatDoorTotals.lean).
  GIVEN WITH THE SEED: the statements are not yours to turn. If you find one false, say at which input.
  Laid BY PROGRAM, IN A SANDBOX (cutbox-rows.mjs): the forced cells as the released guide's own fill.sh prints them over the translation 4982e661b533988c… (all of the seat's roots in one cut). By AI agents, Wed Nov 11 2026. No macro, syntax, notation, axiom, sorry.
-/
import Derived.Test.YtnfcchimkfnmkaaGreatDoorChecked
import GoSem.PinnedTables
import GoSem.Claim
import GoSem.ClaimJoined
import GoSem.ClaimMapViews
import Derived.JoinedTies
import Derived.KernelRfl
namespace Go.Proofs.YtnfcchimkfnmkaaGreatDoor
/- THE CELL 'sum', in the pinned program and in every row, IS THE sha256 OF THE DUMP (.gsa) THAT YtnfcchimkfnmkaaGreatDoorProg.lean LOADS. Nothing in Lean hashes anything: it is a label: what it is worth is what the hold of that sum in a sandbox is worth. -/
noncomputable def Tryz.pinned : Pinned := { name := "ytnfcchimkfnmkaagreatdoor", sum := "4982e661b533988c45abba8371d898b9ea4aff10982bdb39b83d7f847ff150ff", checked := Tryz.checked }
namespace Rows
def none {H : Type} : Left H := { results := [], args := [] }

/- WHAT THE LISTED PACKAGE-LEVEL VARIABLES READ AS WHEN THE CALL BEGINS. Each datum BY PROGRAM (the guide's laid-datum.mjs) off the statement by which the dump's own 'gosem.cut.vars' lays the variable. In a bare row this is a premise. The card (YtnfcchimkfnmkaaGreatDoorCards.lean) ties it to the program's text. -/
def laid_math_bits_deBruijn32tab {H : Type} : DataW H := .agg [.lit (.int .u8 0), .lit (.int .u8 1), .lit (.int .u8 28), .lit (.int .u8 2), .lit (.int .u8 29), .lit (.int .u8 14), .lit (.int .u8 24), .lit (.int .u8 3), .lit (.int .u8 30), .lit (.int .u8 22), .lit (.int .u8 20), .lit (.int .u8 15), .lit (.int .u8 25), .lit (.int .u8 17), .lit (.int .u8 4), .lit (.int .u8 8), .lit (.int .u8 31), .lit (.int .u8 27), .lit (.int .u8 13), .lit (.int .u8 23), .lit (.int .u8 21), .lit (.int .u8 19), .lit (.int .u8 16), .lit (.int .u8 7), .lit (.int .u8 26), .lit (.int .u8 12), .lit (.int .u8 18), .lit (.int .u8 6), .lit (.int .u8 11), .lit (.int .u8 5), .lit (.int .u8 10), .lit (.int .u8 9)]
def laid_math_bits_deBruijn64tab {H : Type} : DataW H := .agg [.lit (.int .u8 0), .lit (.int .u8 1), .lit (.int .u8 56), .lit (.int .u8 2), .lit (.int .u8 57), .lit (.int .u8 49), .lit (.int .u8 28), .lit (.int .u8 3), .lit (.int .u8 61), .lit (.int .u8 58), .lit (.int .u8 42), .lit (.int .u8 50), .lit (.int .u8 38), .lit (.int .u8 29), .lit (.int .u8 17), .lit (.int .u8 4), .lit (.int .u8 62), .lit (.int .u8 47), .lit (.int .u8 59), .lit (.int .u8 36), .lit (.int .u8 45), .lit (.int .u8 43), .lit (.int .u8 51), .lit (.int .u8 22), .lit (.int .u8 53), .lit (.int .u8 39), .lit (.int .u8 33), .lit (.int .u8 30), .lit (.int .u8 24), .lit (.int .u8 18), .lit (.int .u8 12), .lit (.int .u8 5), .lit (.int .u8 63), .lit (.int .u8 55), .lit (.int .u8 48), .lit (.int .u8 27), .lit (.int .u8 60), .lit (.int .u8 41), .lit (.int .u8 37), .lit (.int .u8 16), .lit (.int .u8 46), .lit (.int .u8 35), .lit (.int .u8 44), .lit (.int .u8 21), .lit (.int .u8 52), .lit (.int .u8 32), .lit (.int .u8 23), .lit (.int .u8 11), .lit (.int .u8 54), .lit (.int .u8 26), .lit (.int .u8 40), .lit (.int .u8 15), .lit (.int .u8 34), .lit (.int .u8 20), .lit (.int .u8 31), .lit (.int .u8 10), .lit (.int .u8 25), .lit (.int .u8 14), .lit (.int .u8 19), .lit (.int .u8 9), .lit (.int .u8 13), .lit (.int .u8 8), .lit (.int .u8 7), .lit (.int .u8 6)]
def laid_internal_strconv_uint64pow10 {H : Type} : DataW H := .agg [.lit (.int .u64 1), .lit (.int .u64 10), .lit (.int .u64 100), .lit (.int .u64 1000), .lit (.int .u64 10000), .lit (.int .u64 100000), .lit (.int .u64 1000000), .lit (.int .u64 10000000), .lit (.int .u64 100000000), .lit (.int .u64 1000000000), .lit (.int .u64 10000000000), .lit (.int .u64 100000000000), .lit (.int .u64 1000000000000), .lit (.int .u64 10000000000000), .lit (.int .u64 100000000000000), .lit (.int .u64 1000000000000000), .lit (.int .u64 10000000000000000), .lit (.int .u64 100000000000000000), .lit (.int .u64 1000000000000000000), .lit (.int .u64 10000000000000000000)]
def laid_unicode_utf8_acceptRanges {H : Type} : DataW H := .agg [.agg [.lit (.int .u8 128), .lit (.int .u8 191)], .agg [.lit (.int .u8 160), .lit (.int .u8 191)], .agg [.lit (.int .u8 128), .lit (.int .u8 159)], .agg [.lit (.int .u8 144), .lit (.int .u8 191)], .agg [.lit (.int .u8 128), .lit (.int .u8 143)], .agg [.lit (.int .u8 0), .lit (.int .u8 0)], .agg [.lit (.int .u8 0), .lit (.int .u8 0)], .agg [.lit (.int .u8 0), .lit (.int .u8 0)], .agg [.lit (.int .u8 0), .lit (.int .u8 0)], .agg [.lit (.int .u8 0), .lit (.int .u8 0)], .agg [.lit (.int .u8 0), .lit (.int .u8 0)], .agg [.lit (.int .u8 0), .lit (.int .u8 0)], .agg [.lit (.int .u8 0), .lit (.int .u8 0)], .agg [.lit (.int .u8 0), .lit (.int .u8 0)], .agg [.lit (.int .u8 0), .lit (.int .u8 0)], .agg [.lit (.int .u8 0), .lit (.int .u8 0)]]
def laid_strconv_ErrRange {H : Type} : DataW H := .iface "*errors.errorString" (.ptr (.agg [.lit (.string [118, 97, 108, 117, 101, 32, 111, 117, 116, 32, 111, 102, 32, 114, 97, 110, 103, 101])]))
def laid_strconv_ErrSyntax {H : Type} : DataW H := .iface "*errors.errorString" (.ptr (.agg [.lit (.string [105, 110, 118, 97, 108, 105, 100, 32, 115, 121, 110, 116, 97, 120])]))
def laid_convoker_rule_words {H : Type} : DataW H := .agg [.lit (.string [89, 69, 65, 82, 76, 89]), .lit (.string [77, 79, 78, 84, 72, 76, 89]), .lit (.string [87, 69, 69, 75, 76, 89]), .lit (.string [68, 65, 73, 76, 89]), .lit (.string [72, 79, 85, 82, 76, 89]), .lit (.string [77, 73, 78, 85, 84, 69, 76, 89]), .lit (.string [83, 69, 67, 79, 78, 68, 76, 89])]
def laid_convoker_rule_weekdays {H : Type} : DataW H := .agg [.lit (.string [77, 79]), .lit (.string [84, 85]), .lit (.string [87, 69]), .lit (.string [84, 72]), .lit (.string [70, 82]), .lit (.string [83, 65]), .lit (.string [83, 85])]
/-- One of Go's own tables, pinned by name: the form's constant. -/
def laid_unicode_utf8_first : DataW Unit := Go.Pinned.utf8First

/-- 'voklaw8.ExpandLists': WHATEVER THE INPUT: true; the input reads as it did. -/
def expandListsSpec : ChangeSpec := { name := "expandLists", fn := fun _ => fun
  | [d1, d2, d3, d4, d5] => { results := [.lit (.bool true)], args := [d1, d2, d3, d4, d5] }
  | _ => none }
def expandListsRow : OpenClaim := { program := "ytnfcchimkfnmkaagreatdoor", sum := "4982e661b533988c45abba8371d898b9ea4aff10982bdb39b83d7f847ff150ff", func := "convoker/voklaw8.ExpandLists", spec := "expandLists", inPlace := ["internal/bytealg.CountString", "internal/bytealg.IndexByteString", "internal/bytealg.IndexString"], unfollowed := true, recurses := true, named := ["unicode/utf8.first", "unicode/utf8.acceptRanges", "internal/bytealg.MaxLen", "convoker/rule.words", "strconv.ErrSyntax", "strconv.ErrRange", "internal/strconv.uint64pow10", "math/bits.deBruijn32tab", "math/bits.deBruijn64tab", "convoker/rule.weekdays"], apart := false, laid := [("math/bits.deBruijn32tab", laid_math_bits_deBruijn32tab), ("math/bits.deBruijn64tab", laid_math_bits_deBruijn64tab), ("internal/strconv.uint64pow10", laid_internal_strconv_uint64pow10), ("unicode/utf8.acceptRanges", laid_unicode_utf8_acceptRanges), ("strconv.ErrRange", laid_strconv_ErrRange), ("strconv.ErrSyntax", laid_strconv_ErrSyntax), ("convoker/rule.words", laid_convoker_rule_words), ("convoker/rule.weekdays", laid_convoker_rule_weekdays), ("unicode/utf8.first", laid_unicode_utf8_first)] }
def ExpandListsSaid : Prop := expandListsRow.holds Tryz.pinned (OpenSpec.ofChange expandListsSpec)

/-- ITS FALSE NEIGHBOUR: 'it returns false'. Refute it at one input. -/
def expandListsWrong : ChangeSpec := { name := "expandLists", fn := fun _ => fun
  | [d1, d2, d3, d4, d5] => { results := [.lit (.bool false)], args := [d1, d2, d3, d4, d5] }
  | _ => none }
def ExpandListsWrongFalsely : Prop := expandListsRow.holds Tryz.pinned (OpenSpec.ofChange expandListsWrong)

/-- 'voklaw8.ExpandMembers': WHATEVER THE INPUT: true; the input reads as it did. -/
def expandMembersSpec : ChangeSpec := { name := "expandMembers", fn := fun _ => fun
  | [d1, d2, d3, d4] => { results := [.lit (.bool true)], args := [d1, d2, d3, d4] }
  | _ => none }
def expandMembersRow : OpenClaim := { program := "ytnfcchimkfnmkaagreatdoor", sum := "4982e661b533988c45abba8371d898b9ea4aff10982bdb39b83d7f847ff150ff", func := "convoker/voklaw8.ExpandMembers", spec := "expandMembers", inPlace := ["internal/bytealg.CountString", "internal/bytealg.IndexByteString", "internal/bytealg.IndexString"], unfollowed := true, recurses := true, named := ["unicode/utf8.first", "unicode/utf8.acceptRanges", "internal/bytealg.MaxLen", "convoker/rule.words", "strconv.ErrSyntax", "strconv.ErrRange", "internal/strconv.uint64pow10", "math/bits.deBruijn32tab", "math/bits.deBruijn64tab", "convoker/rule.weekdays"], apart := false, laid := [("math/bits.deBruijn32tab", laid_math_bits_deBruijn32tab), ("math/bits.deBruijn64tab", laid_math_bits_deBruijn64tab), ("internal/strconv.uint64pow10", laid_internal_strconv_uint64pow10), ("unicode/utf8.acceptRanges", laid_unicode_utf8_acceptRanges), ("strconv.ErrRange", laid_strconv_ErrRange), ("strconv.ErrSyntax", laid_strconv_ErrSyntax), ("convoker/rule.words", laid_convoker_rule_words), ("convoker/rule.weekdays", laid_convoker_rule_weekdays), ("unicode/utf8.first", laid_unicode_utf8_first)] }
def ExpandMembersSaid : Prop := expandMembersRow.holds Tryz.pinned (OpenSpec.ofChange expandMembersSpec)

/-- ITS FALSE NEIGHBOUR: 'it returns false'. Refute it at one input. -/
def expandMembersWrong : ChangeSpec := { name := "expandMembers", fn := fun _ => fun
  | [d1, d2, d3, d4] => { results := [.lit (.bool false)], args := [d1, d2, d3, d4] }
  | _ => none }
def ExpandMembersWrongFalsely : Prop := expandMembersRow.holds Tryz.pinned (OpenSpec.ofChange expandMembersWrong)

/-- 'voklaw8.ExpandFronts': WHATEVER THE INPUT: true; the input reads as it did. -/
def expandFrontsSpec : ChangeSpec := { name := "expandFronts", fn := fun _ => fun
  | [d1, d2, d3, d4, d5] => { results := [.lit (.bool true)], args := [d1, d2, d3, d4, d5] }
  | _ => none }
def expandFrontsRow : OpenClaim := { program := "ytnfcchimkfnmkaagreatdoor", sum := "4982e661b533988c45abba8371d898b9ea4aff10982bdb39b83d7f847ff150ff", func := "convoker/voklaw8.ExpandFronts", spec := "expandFronts", inPlace := ["internal/bytealg.CountString", "internal/bytealg.IndexByteString", "internal/bytealg.IndexString"], unfollowed := true, recurses := true, named := ["unicode/utf8.first", "unicode/utf8.acceptRanges", "internal/bytealg.MaxLen", "convoker/rule.words", "strconv.ErrSyntax", "strconv.ErrRange", "internal/strconv.uint64pow10", "math/bits.deBruijn32tab", "math/bits.deBruijn64tab", "convoker/rule.weekdays"], apart := false, laid := [("math/bits.deBruijn32tab", laid_math_bits_deBruijn32tab), ("math/bits.deBruijn64tab", laid_math_bits_deBruijn64tab), ("internal/strconv.uint64pow10", laid_internal_strconv_uint64pow10), ("unicode/utf8.acceptRanges", laid_unicode_utf8_acceptRanges), ("strconv.ErrRange", laid_strconv_ErrRange), ("strconv.ErrSyntax", laid_strconv_ErrSyntax), ("convoker/rule.words", laid_convoker_rule_words), ("convoker/rule.weekdays", laid_convoker_rule_weekdays), ("unicode/utf8.first", laid_unicode_utf8_first)] }
def ExpandFrontsSaid : Prop := expandFrontsRow.holds Tryz.pinned (OpenSpec.ofChange expandFrontsSpec)

/-- ITS FALSE NEIGHBOUR: 'it returns false'. Refute it at one input. -/
def expandFrontsWrong : ChangeSpec := { name := "expandFronts", fn := fun _ => fun
  | [d1, d2, d3, d4, d5] => { results := [.lit (.bool false)], args := [d1, d2, d3, d4, d5] }
  | _ => none }
def ExpandFrontsWrongFalsely : Prop := expandFrontsRow.holds Tryz.pinned (OpenSpec.ofChange expandFrontsWrong)

/-- 'voklaw8.ExpandNext': WHATEVER THE INPUT: true; the input reads as it did. -/
def expandNextSpec : ChangeSpec := { name := "expandNext", fn := fun _ => fun
  | [d1, d2, d3, d4] => { results := [.lit (.bool true)], args := [d1, d2, d3, d4] }
  | _ => none }
def expandNextRow : OpenClaim := { program := "ytnfcchimkfnmkaagreatdoor", sum := "4982e661b533988c45abba8371d898b9ea4aff10982bdb39b83d7f847ff150ff", func := "convoker/voklaw8.ExpandNext", spec := "expandNext", inPlace := ["internal/bytealg.CountString", "internal/bytealg.IndexByteString", "internal/bytealg.IndexString"], unfollowed := true, recurses := true, named := ["unicode/utf8.first", "unicode/utf8.acceptRanges", "internal/bytealg.MaxLen", "convoker/rule.words", "strconv.ErrSyntax", "strconv.ErrRange", "internal/strconv.uint64pow10", "math/bits.deBruijn32tab", "math/bits.deBruijn64tab", "convoker/rule.weekdays"], apart := false, laid := [("math/bits.deBruijn32tab", laid_math_bits_deBruijn32tab), ("math/bits.deBruijn64tab", laid_math_bits_deBruijn64tab), ("internal/strconv.uint64pow10", laid_internal_strconv_uint64pow10), ("unicode/utf8.acceptRanges", laid_unicode_utf8_acceptRanges), ("strconv.ErrRange", laid_strconv_ErrRange), ("strconv.ErrSyntax", laid_strconv_ErrSyntax), ("convoker/rule.words", laid_convoker_rule_words), ("convoker/rule.weekdays", laid_convoker_rule_weekdays), ("unicode/utf8.first", laid_unicode_utf8_first)] }
def ExpandNextSaid : Prop := expandNextRow.holds Tryz.pinned (OpenSpec.ofChange expandNextSpec)

/-- ITS FALSE NEIGHBOUR: 'it returns false'. Refute it at one input. -/
def expandNextWrong : ChangeSpec := { name := "expandNext", fn := fun _ => fun
  | [d1, d2, d3, d4] => { results := [.lit (.bool false)], args := [d1, d2, d3, d4] }
  | _ => none }
def ExpandNextWrongFalsely : Prop := expandNextRow.holds Tryz.pinned (OpenSpec.ofChange expandNextWrong)

/-- 'voklaw8.ExpandEvery': WHATEVER THE INPUT: true; the input reads as it did. -/
def expandEverySpec : ChangeSpec := { name := "expandEvery", fn := fun _ => fun
  | [d1, d2, d3, d4] => { results := [.lit (.bool true)], args := [d1, d2, d3, d4] }
  | _ => none }
def expandEveryRow : OpenClaim := { program := "ytnfcchimkfnmkaagreatdoor", sum := "4982e661b533988c45abba8371d898b9ea4aff10982bdb39b83d7f847ff150ff", func := "convoker/voklaw8.ExpandEvery", spec := "expandEvery", inPlace := ["internal/bytealg.CountString", "internal/bytealg.IndexByteString", "internal/bytealg.IndexString"], unfollowed := true, recurses := true, named := ["unicode/utf8.first", "unicode/utf8.acceptRanges", "internal/bytealg.MaxLen", "convoker/rule.words", "strconv.ErrSyntax", "strconv.ErrRange", "internal/strconv.uint64pow10", "math/bits.deBruijn32tab", "math/bits.deBruijn64tab", "convoker/rule.weekdays"], apart := false, laid := [("math/bits.deBruijn32tab", laid_math_bits_deBruijn32tab), ("math/bits.deBruijn64tab", laid_math_bits_deBruijn64tab), ("internal/strconv.uint64pow10", laid_internal_strconv_uint64pow10), ("unicode/utf8.acceptRanges", laid_unicode_utf8_acceptRanges), ("strconv.ErrRange", laid_strconv_ErrRange), ("strconv.ErrSyntax", laid_strconv_ErrSyntax), ("convoker/rule.words", laid_convoker_rule_words), ("convoker/rule.weekdays", laid_convoker_rule_weekdays), ("unicode/utf8.first", laid_unicode_utf8_first)] }
def ExpandEverySaid : Prop := expandEveryRow.holds Tryz.pinned (OpenSpec.ofChange expandEverySpec)

/-- ITS FALSE NEIGHBOUR: 'it returns false'. Refute it at one input. -/
def expandEveryWrong : ChangeSpec := { name := "expandEvery", fn := fun _ => fun
  | [d1, d2, d3, d4] => { results := [.lit (.bool false)], args := [d1, d2, d3, d4] }
  | _ => none }
def ExpandEveryWrongFalsely : Prop := expandEveryRow.holds Tryz.pinned (OpenSpec.ofChange expandEveryWrong)

/-- 'voklaw8.ExpandUntil': WHATEVER THE INPUT: true; the input reads as it did. -/
def expandUntilSpec : ChangeSpec := { name := "expandUntil", fn := fun _ => fun
  | [d1, d2, d3, d4] => { results := [.lit (.bool true)], args := [d1, d2, d3, d4] }
  | _ => none }
def expandUntilRow : OpenClaim := { program := "ytnfcchimkfnmkaagreatdoor", sum := "4982e661b533988c45abba8371d898b9ea4aff10982bdb39b83d7f847ff150ff", func := "convoker/voklaw8.ExpandUntil", spec := "expandUntil", inPlace := ["internal/bytealg.CountString", "internal/bytealg.IndexByteString", "internal/bytealg.IndexString"], unfollowed := true, recurses := true, named := ["unicode/utf8.first", "unicode/utf8.acceptRanges", "internal/bytealg.MaxLen", "convoker/rule.words", "strconv.ErrSyntax", "strconv.ErrRange", "internal/strconv.uint64pow10", "math/bits.deBruijn32tab", "math/bits.deBruijn64tab", "convoker/rule.weekdays"], apart := false, laid := [("math/bits.deBruijn32tab", laid_math_bits_deBruijn32tab), ("math/bits.deBruijn64tab", laid_math_bits_deBruijn64tab), ("internal/strconv.uint64pow10", laid_internal_strconv_uint64pow10), ("unicode/utf8.acceptRanges", laid_unicode_utf8_acceptRanges), ("strconv.ErrRange", laid_strconv_ErrRange), ("strconv.ErrSyntax", laid_strconv_ErrSyntax), ("convoker/rule.words", laid_convoker_rule_words), ("convoker/rule.weekdays", laid_convoker_rule_weekdays), ("unicode/utf8.first", laid_unicode_utf8_first)] }
def ExpandUntilSaid : Prop := expandUntilRow.holds Tryz.pinned (OpenSpec.ofChange expandUntilSpec)

/-- ITS FALSE NEIGHBOUR: 'it returns false'. Refute it at one input. -/
def expandUntilWrong : ChangeSpec := { name := "expandUntil", fn := fun _ => fun
  | [d1, d2, d3, d4] => { results := [.lit (.bool false)], args := [d1, d2, d3, d4] }
  | _ => none }
def ExpandUntilWrongFalsely : Prop := expandUntilRow.holds Tryz.pinned (OpenSpec.ofChange expandUntilWrong)

/-- 'voklaw8.ExpandLater': WHATEVER THE INPUT: true; the input reads as it did. -/
def expandLaterSpec : ChangeSpec := { name := "expandLater", fn := fun _ => fun
  | [d1, d2, d3, d4] => { results := [.lit (.bool true)], args := [d1, d2, d3, d4] }
  | _ => none }
def expandLaterRow : OpenClaim := { program := "ytnfcchimkfnmkaagreatdoor", sum := "4982e661b533988c45abba8371d898b9ea4aff10982bdb39b83d7f847ff150ff", func := "convoker/voklaw8.ExpandLater", spec := "expandLater", inPlace := ["internal/bytealg.CountString", "internal/bytealg.IndexByteString", "internal/bytealg.IndexString"], unfollowed := true, recurses := true, named := ["unicode/utf8.first", "unicode/utf8.acceptRanges", "internal/bytealg.MaxLen", "convoker/rule.words", "strconv.ErrSyntax", "strconv.ErrRange", "internal/strconv.uint64pow10", "math/bits.deBruijn32tab", "math/bits.deBruijn64tab", "convoker/rule.weekdays"], apart := false, laid := [("math/bits.deBruijn32tab", laid_math_bits_deBruijn32tab), ("math/bits.deBruijn64tab", laid_math_bits_deBruijn64tab), ("internal/strconv.uint64pow10", laid_internal_strconv_uint64pow10), ("unicode/utf8.acceptRanges", laid_unicode_utf8_acceptRanges), ("strconv.ErrRange", laid_strconv_ErrRange), ("strconv.ErrSyntax", laid_strconv_ErrSyntax), ("convoker/rule.words", laid_convoker_rule_words), ("convoker/rule.weekdays", laid_convoker_rule_weekdays), ("unicode/utf8.first", laid_unicode_utf8_first)] }
def ExpandLaterSaid : Prop := expandLaterRow.holds Tryz.pinned (OpenSpec.ofChange expandLaterSpec)

/-- ITS FALSE NEIGHBOUR: 'it returns false'. Refute it at one input. -/
def expandLaterWrong : ChangeSpec := { name := "expandLater", fn := fun _ => fun
  | [d1, d2, d3, d4] => { results := [.lit (.bool false)], args := [d1, d2, d3, d4] }
  | _ => none }
def ExpandLaterWrongFalsely : Prop := expandLaterRow.holds Tryz.pinned (OpenSpec.ofChange expandLaterWrong)

/-- 'voklaw8.ExpandMost': WHATEVER THE INPUT: true; the input reads as it did. -/
def expandMostSpec : ChangeSpec := { name := "expandMost", fn := fun _ => fun
  | [d1, d2, d3] => { results := [.lit (.bool true)], args := [d1, d2, d3] }
  | _ => none }
def expandMostRow : OpenClaim := { program := "ytnfcchimkfnmkaagreatdoor", sum := "4982e661b533988c45abba8371d898b9ea4aff10982bdb39b83d7f847ff150ff", func := "convoker/voklaw8.ExpandMost", spec := "expandMost", inPlace := ["internal/bytealg.CountString", "internal/bytealg.IndexByteString", "internal/bytealg.IndexString"], unfollowed := true, recurses := true, named := ["unicode/utf8.first", "unicode/utf8.acceptRanges", "internal/bytealg.MaxLen", "convoker/rule.words", "strconv.ErrSyntax", "strconv.ErrRange", "internal/strconv.uint64pow10", "math/bits.deBruijn32tab", "math/bits.deBruijn64tab", "convoker/rule.weekdays"], apart := false, laid := [("math/bits.deBruijn32tab", laid_math_bits_deBruijn32tab), ("math/bits.deBruijn64tab", laid_math_bits_deBruijn64tab), ("internal/strconv.uint64pow10", laid_internal_strconv_uint64pow10), ("unicode/utf8.acceptRanges", laid_unicode_utf8_acceptRanges), ("strconv.ErrRange", laid_strconv_ErrRange), ("strconv.ErrSyntax", laid_strconv_ErrSyntax), ("convoker/rule.words", laid_convoker_rule_words), ("convoker/rule.weekdays", laid_convoker_rule_weekdays), ("unicode/utf8.first", laid_unicode_utf8_first)] }
def ExpandMostSaid : Prop := expandMostRow.holds Tryz.pinned (OpenSpec.ofChange expandMostSpec)

/-- ITS FALSE NEIGHBOUR: 'it returns false'. Refute it at one input. -/
def expandMostWrong : ChangeSpec := { name := "expandMost", fn := fun _ => fun
  | [d1, d2, d3] => { results := [.lit (.bool false)], args := [d1, d2, d3] }
  | _ => none }
def ExpandMostWrongFalsely : Prop := expandMostRow.holds Tryz.pinned (OpenSpec.ofChange expandMostWrong)

/- THE SECOND FORM. 'bulk': how many values and letters a reading holds, each counted each time it is reached (what is shared counts as often as it is met; a slice's spare places count too). A statement '..UptoSaid' is the law's where the arguments, and the package variables that the reading takes, are together of bulk at most 1048576: NARROWER than '..Said'. Prove '..Said' where nothing that the law and all that it calls make is longer than what came in: it says more and counts as full. Else prove '..UptoSaid'. A law counts once. -/
mutual
def uptoBulk {H : Type} : DataW H → Nat
  | .lit (.string bytes) => bytes.length + 1
  | .lit _ => 1
  | .nil => 1
  | .ptr d => uptoBulk d + 1
  | .slice elems spare => uptoBulkAll elems + uptoBulkAll spare + 1
  | .agg parts => uptoBulkAll parts + 1
  | .iface _ d => uptoBulk d + 1
  | .map entries => uptoBulkEntries entries + 1
  | .held _ => 1
def uptoBulkAll {H : Type} : List (DataW H) → Nat
  | [] => 0
  | d :: r => uptoBulk d + uptoBulkAll r
def uptoBulkEntries {H : Type} : List (Lit × DataW H) → Nat
  | [] => 0
  | x :: r => uptoBulkEntry x + uptoBulkEntries r
def uptoBulkEntry {H : Type} : Lit × DataW H → Nat
  | (.string bytes, d) => bytes.length + uptoBulk d + 1
  | (_, d) => uptoBulk d + 1
 end
def uptoSmall : (H : Type) → List (DataW H) → Bool := fun _ ds => decide (uptoBulkAll ds ≤ 1048576)
def OpenSpec.upto (s : _root_.Go.ChangeSpec) : _root_.Go.OpenSpec := { _root_.Go.OpenSpec.ofChange s with cond := some uptoSmall }

/-- 'voklaw8.ExpandLists', WHERE WHAT IT READS IS OF BULK AT MOST 1048576: true; the input reads as it did. -/
def expandListsUptoRow : OpenClaim := { program := "ytnfcchimkfnmkaagreatdoor", sum := "4982e661b533988c45abba8371d898b9ea4aff10982bdb39b83d7f847ff150ff", func := "convoker/voklaw8.ExpandLists", spec := "expandLists", inPlace := ["internal/bytealg.CountString", "internal/bytealg.IndexByteString", "internal/bytealg.IndexString"], unfollowed := true, recurses := true, named := ["unicode/utf8.first", "unicode/utf8.acceptRanges", "internal/bytealg.MaxLen", "convoker/rule.words", "strconv.ErrSyntax", "strconv.ErrRange", "internal/strconv.uint64pow10", "math/bits.deBruijn32tab", "math/bits.deBruijn64tab", "convoker/rule.weekdays"], apart := false, laid := [("math/bits.deBruijn32tab", laid_math_bits_deBruijn32tab), ("math/bits.deBruijn64tab", laid_math_bits_deBruijn64tab), ("internal/strconv.uint64pow10", laid_internal_strconv_uint64pow10), ("unicode/utf8.acceptRanges", laid_unicode_utf8_acceptRanges), ("strconv.ErrRange", laid_strconv_ErrRange), ("strconv.ErrSyntax", laid_strconv_ErrSyntax), ("convoker/rule.words", laid_convoker_rule_words), ("convoker/rule.weekdays", laid_convoker_rule_weekdays), ("unicode/utf8.first", laid_unicode_utf8_first)], narrowed := true }
def ExpandListsUptoSaid : Prop := expandListsUptoRow.holds Tryz.pinned (OpenSpec.upto expandListsSpec)

/-- 'voklaw8.ExpandMembers', WHERE WHAT IT READS IS OF BULK AT MOST 1048576: true; the input reads as it did. -/
def expandMembersUptoRow : OpenClaim := { program := "ytnfcchimkfnmkaagreatdoor", sum := "4982e661b533988c45abba8371d898b9ea4aff10982bdb39b83d7f847ff150ff", func := "convoker/voklaw8.ExpandMembers", spec := "expandMembers", inPlace := ["internal/bytealg.CountString", "internal/bytealg.IndexByteString", "internal/bytealg.IndexString"], unfollowed := true, recurses := true, named := ["unicode/utf8.first", "unicode/utf8.acceptRanges", "internal/bytealg.MaxLen", "convoker/rule.words", "strconv.ErrSyntax", "strconv.ErrRange", "internal/strconv.uint64pow10", "math/bits.deBruijn32tab", "math/bits.deBruijn64tab", "convoker/rule.weekdays"], apart := false, laid := [("math/bits.deBruijn32tab", laid_math_bits_deBruijn32tab), ("math/bits.deBruijn64tab", laid_math_bits_deBruijn64tab), ("internal/strconv.uint64pow10", laid_internal_strconv_uint64pow10), ("unicode/utf8.acceptRanges", laid_unicode_utf8_acceptRanges), ("strconv.ErrRange", laid_strconv_ErrRange), ("strconv.ErrSyntax", laid_strconv_ErrSyntax), ("convoker/rule.words", laid_convoker_rule_words), ("convoker/rule.weekdays", laid_convoker_rule_weekdays), ("unicode/utf8.first", laid_unicode_utf8_first)], narrowed := true }
def ExpandMembersUptoSaid : Prop := expandMembersUptoRow.holds Tryz.pinned (OpenSpec.upto expandMembersSpec)

/-- 'voklaw8.ExpandFronts', WHERE WHAT IT READS IS OF BULK AT MOST 1048576: true; the input reads as it did. -/
def expandFrontsUptoRow : OpenClaim := { program := "ytnfcchimkfnmkaagreatdoor", sum := "4982e661b533988c45abba8371d898b9ea4aff10982bdb39b83d7f847ff150ff", func := "convoker/voklaw8.ExpandFronts", spec := "expandFronts", inPlace := ["internal/bytealg.CountString", "internal/bytealg.IndexByteString", "internal/bytealg.IndexString"], unfollowed := true, recurses := true, named := ["unicode/utf8.first", "unicode/utf8.acceptRanges", "internal/bytealg.MaxLen", "convoker/rule.words", "strconv.ErrSyntax", "strconv.ErrRange", "internal/strconv.uint64pow10", "math/bits.deBruijn32tab", "math/bits.deBruijn64tab", "convoker/rule.weekdays"], apart := false, laid := [("math/bits.deBruijn32tab", laid_math_bits_deBruijn32tab), ("math/bits.deBruijn64tab", laid_math_bits_deBruijn64tab), ("internal/strconv.uint64pow10", laid_internal_strconv_uint64pow10), ("unicode/utf8.acceptRanges", laid_unicode_utf8_acceptRanges), ("strconv.ErrRange", laid_strconv_ErrRange), ("strconv.ErrSyntax", laid_strconv_ErrSyntax), ("convoker/rule.words", laid_convoker_rule_words), ("convoker/rule.weekdays", laid_convoker_rule_weekdays), ("unicode/utf8.first", laid_unicode_utf8_first)], narrowed := true }
def ExpandFrontsUptoSaid : Prop := expandFrontsUptoRow.holds Tryz.pinned (OpenSpec.upto expandFrontsSpec)

/-- 'voklaw8.ExpandNext', WHERE WHAT IT READS IS OF BULK AT MOST 1048576: true; the input reads as it did. -/
def expandNextUptoRow : OpenClaim := { program := "ytnfcchimkfnmkaagreatdoor", sum := "4982e661b533988c45abba8371d898b9ea4aff10982bdb39b83d7f847ff150ff", func := "convoker/voklaw8.ExpandNext", spec := "expandNext", inPlace := ["internal/bytealg.CountString", "internal/bytealg.IndexByteString", "internal/bytealg.IndexString"], unfollowed := true, recurses := true, named := ["unicode/utf8.first", "unicode/utf8.acceptRanges", "internal/bytealg.MaxLen", "convoker/rule.words", "strconv.ErrSyntax", "strconv.ErrRange", "internal/strconv.uint64pow10", "math/bits.deBruijn32tab", "math/bits.deBruijn64tab", "convoker/rule.weekdays"], apart := false, laid := [("math/bits.deBruijn32tab", laid_math_bits_deBruijn32tab), ("math/bits.deBruijn64tab", laid_math_bits_deBruijn64tab), ("internal/strconv.uint64pow10", laid_internal_strconv_uint64pow10), ("unicode/utf8.acceptRanges", laid_unicode_utf8_acceptRanges), ("strconv.ErrRange", laid_strconv_ErrRange), ("strconv.ErrSyntax", laid_strconv_ErrSyntax), ("convoker/rule.words", laid_convoker_rule_words), ("convoker/rule.weekdays", laid_convoker_rule_weekdays), ("unicode/utf8.first", laid_unicode_utf8_first)], narrowed := true }
def ExpandNextUptoSaid : Prop := expandNextUptoRow.holds Tryz.pinned (OpenSpec.upto expandNextSpec)

/-- 'voklaw8.ExpandEvery', WHERE WHAT IT READS IS OF BULK AT MOST 1048576: true; the input reads as it did. -/
def expandEveryUptoRow : OpenClaim := { program := "ytnfcchimkfnmkaagreatdoor", sum := "4982e661b533988c45abba8371d898b9ea4aff10982bdb39b83d7f847ff150ff", func := "convoker/voklaw8.ExpandEvery", spec := "expandEvery", inPlace := ["internal/bytealg.CountString", "internal/bytealg.IndexByteString", "internal/bytealg.IndexString"], unfollowed := true, recurses := true, named := ["unicode/utf8.first", "unicode/utf8.acceptRanges", "internal/bytealg.MaxLen", "convoker/rule.words", "strconv.ErrSyntax", "strconv.ErrRange", "internal/strconv.uint64pow10", "math/bits.deBruijn32tab", "math/bits.deBruijn64tab", "convoker/rule.weekdays"], apart := false, laid := [("math/bits.deBruijn32tab", laid_math_bits_deBruijn32tab), ("math/bits.deBruijn64tab", laid_math_bits_deBruijn64tab), ("internal/strconv.uint64pow10", laid_internal_strconv_uint64pow10), ("unicode/utf8.acceptRanges", laid_unicode_utf8_acceptRanges), ("strconv.ErrRange", laid_strconv_ErrRange), ("strconv.ErrSyntax", laid_strconv_ErrSyntax), ("convoker/rule.words", laid_convoker_rule_words), ("convoker/rule.weekdays", laid_convoker_rule_weekdays), ("unicode/utf8.first", laid_unicode_utf8_first)], narrowed := true }
def ExpandEveryUptoSaid : Prop := expandEveryUptoRow.holds Tryz.pinned (OpenSpec.upto expandEverySpec)

/-- 'voklaw8.ExpandUntil', WHERE WHAT IT READS IS OF BULK AT MOST 1048576: true; the input reads as it did. -/
def expandUntilUptoRow : OpenClaim := { program := "ytnfcchimkfnmkaagreatdoor", sum := "4982e661b533988c45abba8371d898b9ea4aff10982bdb39b83d7f847ff150ff", func := "convoker/voklaw8.ExpandUntil", spec := "expandUntil", inPlace := ["internal/bytealg.CountString", "internal/bytealg.IndexByteString", "internal/bytealg.IndexString"], unfollowed := true, recurses := true, named := ["unicode/utf8.first", "unicode/utf8.acceptRanges", "internal/bytealg.MaxLen", "convoker/rule.words", "strconv.ErrSyntax", "strconv.ErrRange", "internal/strconv.uint64pow10", "math/bits.deBruijn32tab", "math/bits.deBruijn64tab", "convoker/rule.weekdays"], apart := false, laid := [("math/bits.deBruijn32tab", laid_math_bits_deBruijn32tab), ("math/bits.deBruijn64tab", laid_math_bits_deBruijn64tab), ("internal/strconv.uint64pow10", laid_internal_strconv_uint64pow10), ("unicode/utf8.acceptRanges", laid_unicode_utf8_acceptRanges), ("strconv.ErrRange", laid_strconv_ErrRange), ("strconv.ErrSyntax", laid_strconv_ErrSyntax), ("convoker/rule.words", laid_convoker_rule_words), ("convoker/rule.weekdays", laid_convoker_rule_weekdays), ("unicode/utf8.first", laid_unicode_utf8_first)], narrowed := true }
def ExpandUntilUptoSaid : Prop := expandUntilUptoRow.holds Tryz.pinned (OpenSpec.upto expandUntilSpec)

/-- 'voklaw8.ExpandLater', WHERE WHAT IT READS IS OF BULK AT MOST 1048576: true; the input reads as it did. -/
def expandLaterUptoRow : OpenClaim := { program := "ytnfcchimkfnmkaagreatdoor", sum := "4982e661b533988c45abba8371d898b9ea4aff10982bdb39b83d7f847ff150ff", func := "convoker/voklaw8.ExpandLater", spec := "expandLater", inPlace := ["internal/bytealg.CountString", "internal/bytealg.IndexByteString", "internal/bytealg.IndexString"], unfollowed := true, recurses := true, named := ["unicode/utf8.first", "unicode/utf8.acceptRanges", "internal/bytealg.MaxLen", "convoker/rule.words", "strconv.ErrSyntax", "strconv.ErrRange", "internal/strconv.uint64pow10", "math/bits.deBruijn32tab", "math/bits.deBruijn64tab", "convoker/rule.weekdays"], apart := false, laid := [("math/bits.deBruijn32tab", laid_math_bits_deBruijn32tab), ("math/bits.deBruijn64tab", laid_math_bits_deBruijn64tab), ("internal/strconv.uint64pow10", laid_internal_strconv_uint64pow10), ("unicode/utf8.acceptRanges", laid_unicode_utf8_acceptRanges), ("strconv.ErrRange", laid_strconv_ErrRange), ("strconv.ErrSyntax", laid_strconv_ErrSyntax), ("convoker/rule.words", laid_convoker_rule_words), ("convoker/rule.weekdays", laid_convoker_rule_weekdays), ("unicode/utf8.first", laid_unicode_utf8_first)], narrowed := true }
def ExpandLaterUptoSaid : Prop := expandLaterUptoRow.holds Tryz.pinned (OpenSpec.upto expandLaterSpec)

/-- 'voklaw8.ExpandMost', WHERE WHAT IT READS IS OF BULK AT MOST 1048576: true; the input reads as it did. -/
def expandMostUptoRow : OpenClaim := { program := "ytnfcchimkfnmkaagreatdoor", sum := "4982e661b533988c45abba8371d898b9ea4aff10982bdb39b83d7f847ff150ff", func := "convoker/voklaw8.ExpandMost", spec := "expandMost", inPlace := ["internal/bytealg.CountString", "internal/bytealg.IndexByteString", "internal/bytealg.IndexString"], unfollowed := true, recurses := true, named := ["unicode/utf8.first", "unicode/utf8.acceptRanges", "internal/bytealg.MaxLen", "convoker/rule.words", "strconv.ErrSyntax", "strconv.ErrRange", "internal/strconv.uint64pow10", "math/bits.deBruijn32tab", "math/bits.deBruijn64tab", "convoker/rule.weekdays"], apart := false, laid := [("math/bits.deBruijn32tab", laid_math_bits_deBruijn32tab), ("math/bits.deBruijn64tab", laid_math_bits_deBruijn64tab), ("internal/strconv.uint64pow10", laid_internal_strconv_uint64pow10), ("unicode/utf8.acceptRanges", laid_unicode_utf8_acceptRanges), ("strconv.ErrRange", laid_strconv_ErrRange), ("strconv.ErrSyntax", laid_strconv_ErrSyntax), ("convoker/rule.words", laid_convoker_rule_words), ("convoker/rule.weekdays", laid_convoker_rule_weekdays), ("unicode/utf8.first", laid_unicode_utf8_first)], narrowed := true }
def ExpandMostUptoSaid : Prop := expandMostUptoRow.holds Tryz.pinned (OpenSpec.upto expandMostSpec)

end Rows
end Go.Proofs.YtnfcchimkfnmkaaGreatDoor
