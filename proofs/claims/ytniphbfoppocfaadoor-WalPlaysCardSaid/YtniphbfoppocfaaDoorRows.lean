/-
  NARROWER THAN 'FOR EVERY INPUT', by the rows' own cells (each row's printed sentence says how): WalPlays: laid · WalKeeps: laid · WalFile: laid · WalAgain: laid · WalLong: laid.
  DERIVED. THE GIVEN ROWS OF THIS SEAT. 5 by the template 'for every input the law returns true; each argument reads behind the call as it read before'; 0 by the template 'total and deterministic' (their statements: YtniphbfoppocfaaDoorTotals.lean).
  GIVEN WITH THE SEED: the statements are not yours to turn. If you find one false, say at which input.
  Laid BY PROGRAM, IN A SANDBOX (cutbox-rows.mjs): the forced cells as the released guide's own fill.sh prints them over the translation 47e9024543ed2b9f… (all of the seat's roots in one cut). By AI agents, Wed Nov 11 2026. No macro, syntax, notation, axiom, sorry.
-/
import Derived.Test.YtniphbfoppocfaaDoorChecked
import GoSem.Claim
import GoSem.ClaimJoined
import GoSem.ClaimMapViews
import Derived.JoinedTies
import Derived.KernelRfl
namespace Go.Proofs.YtniphbfoppocfaaDoor
/- THE CELL 'sum', in the pinned program and in every row, IS THE sha256 OF THE DUMP (.gsa) THAT YtniphbfoppocfaaDoorProg.lean LOADS. Nothing in Lean hashes anything: it is a label: what it is worth is what the hold of that sum in a sandbox is worth. -/
noncomputable def Tryd.pinned : Pinned := { name := "ytniphbfoppocfaadoor", sum := "47e9024543ed2b9f7973e746126e04e737026eb314b9bdc5e0fc0f62ed615901", checked := Tryd.checked }
namespace Rows
def none {H : Type} : Left H := { results := [], args := [] }

/- WHAT THE LISTED PACKAGE-LEVEL VARIABLES READ AS WHEN THE CALL BEGINS. Each datum BY PROGRAM (the guide's laid-datum.mjs) off the statement by which the dump's own 'gosem.cut.vars' lays the variable. In a bare row this is a premise. The card (YtniphbfoppocfaaDoorCards.lean) ties it to the program's text. -/
def laid_convoker_frame_rests {H : Type} : DataW H := .agg [.lit (.int .u32 0), .lit (.int .u32 498536548), .lit (.int .u32 997073096), .lit (.int .u32 651767980), .lit (.int .u32 1994146192), .lit (.int .u32 1802195444), .lit (.int .u32 1303535960), .lit (.int .u32 1342533948), .lit (.int .u32 3988292384), .lit (.int .u32 4027552580), .lit (.int .u32 3604390888), .lit (.int .u32 3412177804), .lit (.int .u32 2607071920), .lit (.int .u32 2262029012), .lit (.int .u32 2685067896), .lit (.int .u32 3183342108)]

/-- 'voklaw15.WalPlays': WHATEVER THE INPUT: true; the input reads as it did. -/
def walPlaysSpec : ChangeSpec := { name := "walPlays", fn := fun _ => fun
  | [d1, d2, d3] => { results := [.lit (.bool true)], args := [d1, d2, d3] }
  | _ => none }
def walPlaysRow : OpenClaim := { program := "ytniphbfoppocfaadoor", sum := "47e9024543ed2b9f7973e746126e04e737026eb314b9bdc5e0fc0f62ed615901", func := "convoker/voklaw15.WalPlays", spec := "walPlays", named := ["convoker/frame.rests"], apart := false, laid := [("convoker/frame.rests", laid_convoker_frame_rests)] }
def WalPlaysSaid : Prop := walPlaysRow.holds Tryd.pinned (OpenSpec.ofChange walPlaysSpec)

/-- ITS FALSE NEIGHBOUR: 'it returns false'. Refute it at one input. -/
def walPlaysWrong : ChangeSpec := { name := "walPlays", fn := fun _ => fun
  | [d1, d2, d3] => { results := [.lit (.bool false)], args := [d1, d2, d3] }
  | _ => none }
def WalPlaysWrongFalsely : Prop := walPlaysRow.holds Tryd.pinned (OpenSpec.ofChange walPlaysWrong)

/-- 'voklaw15.WalKeeps': WHATEVER THE INPUT: true; the input reads as it did. -/
def walKeepsSpec : ChangeSpec := { name := "walKeeps", fn := fun _ => fun
  | [d1, d2, d3] => { results := [.lit (.bool true)], args := [d1, d2, d3] }
  | _ => none }
def walKeepsRow : OpenClaim := { program := "ytniphbfoppocfaadoor", sum := "47e9024543ed2b9f7973e746126e04e737026eb314b9bdc5e0fc0f62ed615901", func := "convoker/voklaw15.WalKeeps", spec := "walKeeps", named := ["convoker/frame.rests"], apart := false, laid := [("convoker/frame.rests", laid_convoker_frame_rests)] }
def WalKeepsSaid : Prop := walKeepsRow.holds Tryd.pinned (OpenSpec.ofChange walKeepsSpec)

/-- ITS FALSE NEIGHBOUR: 'it returns false'. Refute it at one input. -/
def walKeepsWrong : ChangeSpec := { name := "walKeeps", fn := fun _ => fun
  | [d1, d2, d3] => { results := [.lit (.bool false)], args := [d1, d2, d3] }
  | _ => none }
def WalKeepsWrongFalsely : Prop := walKeepsRow.holds Tryd.pinned (OpenSpec.ofChange walKeepsWrong)

/-- 'voklaw15.WalFile': WHATEVER THE INPUT: true; the input reads as it did. -/
def walFileSpec : ChangeSpec := { name := "walFile", fn := fun _ => fun
  | [d1, d2, d3] => { results := [.lit (.bool true)], args := [d1, d2, d3] }
  | _ => none }
def walFileRow : OpenClaim := { program := "ytniphbfoppocfaadoor", sum := "47e9024543ed2b9f7973e746126e04e737026eb314b9bdc5e0fc0f62ed615901", func := "convoker/voklaw15.WalFile", spec := "walFile", named := ["convoker/frame.rests"], apart := false, laid := [("convoker/frame.rests", laid_convoker_frame_rests)] }
def WalFileSaid : Prop := walFileRow.holds Tryd.pinned (OpenSpec.ofChange walFileSpec)

/-- ITS FALSE NEIGHBOUR: 'it returns false'. Refute it at one input. -/
def walFileWrong : ChangeSpec := { name := "walFile", fn := fun _ => fun
  | [d1, d2, d3] => { results := [.lit (.bool false)], args := [d1, d2, d3] }
  | _ => none }
def WalFileWrongFalsely : Prop := walFileRow.holds Tryd.pinned (OpenSpec.ofChange walFileWrong)

/-- 'voklaw15.WalAgain': WHATEVER THE INPUT: true; the input reads as it did. -/
def walAgainSpec : ChangeSpec := { name := "walAgain", fn := fun _ => fun
  | [d1, d2] => { results := [.lit (.bool true)], args := [d1, d2] }
  | _ => none }
def walAgainRow : OpenClaim := { program := "ytniphbfoppocfaadoor", sum := "47e9024543ed2b9f7973e746126e04e737026eb314b9bdc5e0fc0f62ed615901", func := "convoker/voklaw15.WalAgain", spec := "walAgain", named := ["convoker/frame.rests"], apart := false, laid := [("convoker/frame.rests", laid_convoker_frame_rests)] }
def WalAgainSaid : Prop := walAgainRow.holds Tryd.pinned (OpenSpec.ofChange walAgainSpec)

/-- ITS FALSE NEIGHBOUR: 'it returns false'. Refute it at one input. -/
def walAgainWrong : ChangeSpec := { name := "walAgain", fn := fun _ => fun
  | [d1, d2] => { results := [.lit (.bool false)], args := [d1, d2] }
  | _ => none }
def WalAgainWrongFalsely : Prop := walAgainRow.holds Tryd.pinned (OpenSpec.ofChange walAgainWrong)

/-- 'voklaw15.WalLong': WHATEVER THE INPUT: true; the input reads as it did. -/
def walLongSpec : ChangeSpec := { name := "walLong", fn := fun _ => fun
  | [d1, d2] => { results := [.lit (.bool true)], args := [d1, d2] }
  | _ => none }
def walLongRow : OpenClaim := { program := "ytniphbfoppocfaadoor", sum := "47e9024543ed2b9f7973e746126e04e737026eb314b9bdc5e0fc0f62ed615901", func := "convoker/voklaw15.WalLong", spec := "walLong", named := ["convoker/frame.rests"], apart := false, laid := [("convoker/frame.rests", laid_convoker_frame_rests)] }
def WalLongSaid : Prop := walLongRow.holds Tryd.pinned (OpenSpec.ofChange walLongSpec)

/-- ITS FALSE NEIGHBOUR: 'it returns false'. Refute it at one input. -/
def walLongWrong : ChangeSpec := { name := "walLong", fn := fun _ => fun
  | [d1, d2] => { results := [.lit (.bool false)], args := [d1, d2] }
  | _ => none }
def WalLongWrongFalsely : Prop := walLongRow.holds Tryd.pinned (OpenSpec.ofChange walLongWrong)

/- THE SECOND FORM. 'bulk': how many values and letters a reading holds, each counted each time it is reached (what is shared counts as often as it is met; a slice's spare places count too). A statement '..UptoSaid' is the law's where the arguments, and the package variables that the reading takes, are together of bulk at most 1048576: NARROWER than '..Said'. Prove '..Said' where nothing that the law and all that it calls make is longer than what came in: it says more and counts as full. Else prove '..UptoSaid'. A law counts once. -/
mutual
def uptoBulk {H : Type} : DataW H → Nat
  | .lit (.string bytes) => bytes.length + 1
  | .lit _ => 1
  | .nil => 1
  | .ptr d => uptoBulk d + 1
  | .slice elems spare => uptoBulkAll elems + uptoBulkAll spare + 1
  | .agg parts => uptoBulkAll parts + 1
  | .iface _ d => uptoBulk d + 1
  | .map entries => uptoBulkEntries entries + 1
  | .held _ => 1
def uptoBulkAll {H : Type} : List (DataW H) → Nat
  | [] => 0
  | d :: r => uptoBulk d + uptoBulkAll r
def uptoBulkEntries {H : Type} : List (Lit × DataW H) → Nat
  | [] => 0
  | x :: r => uptoBulkEntry x + uptoBulkEntries r
def uptoBulkEntry {H : Type} : Lit × DataW H → Nat
  | (.string bytes, d) => bytes.length + uptoBulk d + 1
  | (_, d) => uptoBulk d + 1
 end
def uptoSmall : (H : Type) → List (DataW H) → Bool := fun _ ds => decide (uptoBulkAll ds ≤ 1048576)
def OpenSpec.upto (s : _root_.Go.ChangeSpec) : _root_.Go.OpenSpec := { _root_.Go.OpenSpec.ofChange s with cond := some uptoSmall }

/-- 'voklaw15.WalPlays', WHERE WHAT IT READS IS OF BULK AT MOST 1048576: true; the input reads as it did. -/
def walPlaysUptoRow : OpenClaim := { program := "ytniphbfoppocfaadoor", sum := "47e9024543ed2b9f7973e746126e04e737026eb314b9bdc5e0fc0f62ed615901", func := "convoker/voklaw15.WalPlays", spec := "walPlays", named := ["convoker/frame.rests"], apart := false, laid := [("convoker/frame.rests", laid_convoker_frame_rests)], narrowed := true }
def WalPlaysUptoSaid : Prop := walPlaysUptoRow.holds Tryd.pinned (OpenSpec.upto walPlaysSpec)

/-- 'voklaw15.WalKeeps', WHERE WHAT IT READS IS OF BULK AT MOST 1048576: true; the input reads as it did. -/
def walKeepsUptoRow : OpenClaim := { program := "ytniphbfoppocfaadoor", sum := "47e9024543ed2b9f7973e746126e04e737026eb314b9bdc5e0fc0f62ed615901", func := "convoker/voklaw15.WalKeeps", spec := "walKeeps", named := ["convoker/frame.rests"], apart := false, laid := [("convoker/frame.rests", laid_convoker_frame_rests)], narrowed := true }
def WalKeepsUptoSaid : Prop := walKeepsUptoRow.holds Tryd.pinned (OpenSpec.upto walKeepsSpec)

/-- 'voklaw15.WalFile', WHERE WHAT IT READS IS OF BULK AT MOST 1048576: true; the input reads as it did. -/
def walFileUptoRow : OpenClaim := { program := "ytniphbfoppocfaadoor", sum := "47e9024543ed2b9f7973e746126e04e737026eb314b9bdc5e0fc0f62ed615901", func := "convoker/voklaw15.WalFile", spec := "walFile", named := ["convoker/frame.rests"], apart := false, laid := [("convoker/frame.rests", laid_convoker_frame_rests)], narrowed := true }
def WalFileUptoSaid : Prop := walFileUptoRow.holds Tryd.pinned (OpenSpec.upto walFileSpec)

/-- 'voklaw15.WalAgain', WHERE WHAT IT READS IS OF BULK AT MOST 1048576: true; the input reads as it did. -/
def walAgainUptoRow : OpenClaim := { program := "ytniphbfoppocfaadoor", sum := "47e9024543ed2b9f7973e746126e04e737026eb314b9bdc5e0fc0f62ed615901", func := "convoker/voklaw15.WalAgain", spec := "walAgain", named := ["convoker/frame.rests"], apart := false, laid := [("convoker/frame.rests", laid_convoker_frame_rests)], narrowed := true }
def WalAgainUptoSaid : Prop := walAgainUptoRow.holds Tryd.pinned (OpenSpec.upto walAgainSpec)

/-- 'voklaw15.WalLong', WHERE WHAT IT READS IS OF BULK AT MOST 1048576: true; the input reads as it did. -/
def walLongUptoRow : OpenClaim := { program := "ytniphbfoppocfaadoor", sum := "47e9024543ed2b9f7973e746126e04e737026eb314b9bdc5e0fc0f62ed615901", func := "convoker/voklaw15.WalLong", spec := "walLong", named := ["convoker/frame.rests"], apart := false, laid := [("convoker/frame.rests", laid_convoker_frame_rests)], narrowed := true }
def WalLongUptoSaid : Prop := walLongUptoRow.holds Tryd.pinned (OpenSpec.upto walLongSpec)

end Rows
end Go.Proofs.YtniphbfoppocfaaDoor
