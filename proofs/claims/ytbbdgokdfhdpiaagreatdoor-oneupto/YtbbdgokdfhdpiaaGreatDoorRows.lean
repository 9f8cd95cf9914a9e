/-
  NARROWER THAN 'FOR EVERY INPUT', by the rows' own cells (each row's printed sentence says how): Checks: laid · Records: laid · Rounds: laid · Alone: laid · Falls: laid · One: laid · Kept: laid · Lively: laid · All: laid.
  DERIVED. THE GIVEN ROWS OF THIS SEAT. 9 by the template 'for every input the law returns true; each argument reads behind the call as it read before'; 0 by the template 'total and deterministic' (their statements: YtbbdgokdfhdpiaaGreatDoorTotals.lean).
  GIVEN WITH THE SEED: the statements are not yours to turn. If you find one false, say at which input.
  Laid BY PROGRAM, IN A SANDBOX (cutbox-rows.mjs): the forced cells as the released guide's own fill.sh prints them over the translation a5dde887fa843009… (all of the seat's roots in one cut). By AI agents, Wed Nov 11 2026. No macro, syntax, notation, axiom, sorry.
-/
import Derived.Test.YtbbdgokdfhdpiaaGreatDoorChecked
import GoSem.Claim
import GoSem.ClaimJoined
import GoSem.ClaimMapViews
import Derived.JoinedTies
import Derived.KernelRfl
namespace Go.Proofs.YtbbdgokdfhdpiaaGreatDoor
/- THE CELL 'sum', in the pinned program and in every row, IS THE sha256 OF THE DUMP (.gsa) THAT YtbbdgokdfhdpiaaGreatDoorProg.lean LOADS. Nothing in Lean hashes anything: it is a label: what it is worth is what the hold of that sum in a sandbox is worth. -/
noncomputable def Tryz.pinned : Pinned := { name := "ytbbdgokdfhdpiaagreatdoor", sum := "a5dde887fa843009ea87ff119f06504abbda31a824eb793f2e5ba00db37cbc87", checked := Tryz.checked }
namespace Rows
def none {H : Type} : Left H := { results := [], args := [] }

/- WHAT THE LISTED PACKAGE-LEVEL VARIABLES READ AS WHEN THE CALL BEGINS. Each datum BY PROGRAM (the guide's laid-datum.mjs) off the statement by which the dump's own 'gosem.cut.vars' lays the variable. In a bare row this is a premise. The card (YtbbdgokdfhdpiaaGreatDoorCards.lean) ties it to the program's text. -/
def laid_errors_errorType {H : Type} : DataW H := .iface "internal/reflectlite.rtype" (.agg [.ptr (.lit (.string [101, 114, 114, 111, 114]))])
def laid_mooring_disk_ErrRoom {H : Type} : DataW H := .iface "*errors.errorString" (.ptr (.agg [.lit (.string [110, 111, 32, 114, 111, 111, 109])]))

/-- 'mooringlaw.Checks': WHATEVER THE INPUT: true; the input reads as it did. -/
def checksSpec : ChangeSpec := { name := "checks", fn := fun _ => fun
  | [d] => { results := [.lit (.bool true)], args := [d] }
  | _ => none }
def checksRow : OpenClaim := { program := "ytbbdgokdfhdpiaagreatdoor", sum := "a5dde887fa843009ea87ff119f06504abbda31a824eb793f2e5ba00db37cbc87", func := "mooring/mooringlaw.Checks", spec := "checks", inPlace := ["maps.clone", "internal/abi.NoEscape", "internal/reflectlite.TypeOf", "internal/reflectlite.ValueOf", "(internal/reflectlite.Value).Type", "(internal/reflectlite.Value).IsNil", "(internal/reflectlite.Value).Elem", "(internal/reflectlite.Value).Set"], unfollowed := true, recurses := true, named := ["mooring/disk.ErrRoom", "errors.errorType"], apart := false, laid := [("errors.errorType", laid_errors_errorType), ("mooring/disk.ErrRoom", laid_mooring_disk_ErrRoom)] }
def ChecksSaid : Prop := checksRow.holds Tryz.pinned (OpenSpec.ofChange checksSpec)

/-- ITS FALSE NEIGHBOUR: 'it returns false'. Refute it at one input. -/
def checksWrong : ChangeSpec := { name := "checks", fn := fun _ => fun
  | [d] => { results := [.lit (.bool false)], args := [d] }
  | _ => none }
def ChecksWrongFalsely : Prop := checksRow.holds Tryz.pinned (OpenSpec.ofChange checksWrong)

/-- 'mooringlaw.Records': WHATEVER THE INPUT: true; the input reads as it did. -/
def recordsSpec : ChangeSpec := { name := "records", fn := fun _ => fun
  | [d] => { results := [.lit (.bool true)], args := [d] }
  | _ => none }
def recordsRow : OpenClaim := { program := "ytbbdgokdfhdpiaagreatdoor", sum := "a5dde887fa843009ea87ff119f06504abbda31a824eb793f2e5ba00db37cbc87", func := "mooring/mooringlaw.Records", spec := "records", inPlace := ["maps.clone", "internal/abi.NoEscape", "internal/reflectlite.TypeOf", "internal/reflectlite.ValueOf", "(internal/reflectlite.Value).Type", "(internal/reflectlite.Value).IsNil", "(internal/reflectlite.Value).Elem", "(internal/reflectlite.Value).Set"], unfollowed := true, recurses := true, named := ["mooring/disk.ErrRoom", "errors.errorType"], apart := false, laid := [("errors.errorType", laid_errors_errorType), ("mooring/disk.ErrRoom", laid_mooring_disk_ErrRoom)] }
def RecordsSaid : Prop := recordsRow.holds Tryz.pinned (OpenSpec.ofChange recordsSpec)

/-- ITS FALSE NEIGHBOUR: 'it returns false'. Refute it at one input. -/
def recordsWrong : ChangeSpec := { name := "records", fn := fun _ => fun
  | [d] => { results := [.lit (.bool false)], args := [d] }
  | _ => none }
def RecordsWrongFalsely : Prop := recordsRow.holds Tryz.pinned (OpenSpec.ofChange recordsWrong)

/-- 'mooringlaw.Rounds': WHATEVER THE INPUT: true; the input reads as it did. -/
def roundsSpec : ChangeSpec := { name := "rounds", fn := fun _ => fun
  | [d] => { results := [.lit (.bool true)], args := [d] }
  | _ => none }
def roundsRow : OpenClaim := { program := "ytbbdgokdfhdpiaagreatdoor", sum := "a5dde887fa843009ea87ff119f06504abbda31a824eb793f2e5ba00db37cbc87", func := "mooring/mooringlaw.Rounds", spec := "rounds", inPlace := ["maps.clone", "internal/abi.NoEscape", "internal/reflectlite.TypeOf", "internal/reflectlite.ValueOf", "(internal/reflectlite.Value).Type", "(internal/reflectlite.Value).IsNil", "(internal/reflectlite.Value).Elem", "(internal/reflectlite.Value).Set"], unfollowed := true, recurses := true, named := ["mooring/disk.ErrRoom", "errors.errorType"], apart := false, laid := [("errors.errorType", laid_errors_errorType), ("mooring/disk.ErrRoom", laid_mooring_disk_ErrRoom)] }
def RoundsSaid : Prop := roundsRow.holds Tryz.pinned (OpenSpec.ofChange roundsSpec)

/-- ITS FALSE NEIGHBOUR: 'it returns false'. Refute it at one input. -/
def roundsWrong : ChangeSpec := { name := "rounds", fn := fun _ => fun
  | [d] => { results := [.lit (.bool false)], args := [d] }
  | _ => none }
def RoundsWrongFalsely : Prop := roundsRow.holds Tryz.pinned (OpenSpec.ofChange roundsWrong)

/-- 'mooringkeep.Alone': WHATEVER THE INPUT: true; the input reads as it did. -/
def aloneSpec : ChangeSpec := { name := "alone", fn := fun _ => fun
  | [d1, d2] => { results := [.lit (.bool true)], args := [d1, d2] }
  | _ => none }
def aloneRow : OpenClaim := { program := "ytbbdgokdfhdpiaagreatdoor", sum := "a5dde887fa843009ea87ff119f06504abbda31a824eb793f2e5ba00db37cbc87", func := "mooring/mooringkeep.Alone", spec := "alone", inPlace := ["maps.clone", "internal/abi.NoEscape", "internal/reflectlite.TypeOf", "internal/reflectlite.ValueOf", "(internal/reflectlite.Value).Type", "(internal/reflectlite.Value).IsNil", "(internal/reflectlite.Value).Elem", "(internal/reflectlite.Value).Set"], unfollowed := true, recurses := true, named := ["mooring/disk.ErrRoom", "errors.errorType"], apart := false, laid := [("errors.errorType", laid_errors_errorType), ("mooring/disk.ErrRoom", laid_mooring_disk_ErrRoom)] }
def AloneSaid : Prop := aloneRow.holds Tryz.pinned (OpenSpec.ofChange aloneSpec)

/-- ITS FALSE NEIGHBOUR: 'it returns false'. Refute it at one input. -/
def aloneWrong : ChangeSpec := { name := "alone", fn := fun _ => fun
  | [d1, d2] => { results := [.lit (.bool false)], args := [d1, d2] }
  | _ => none }
def AloneWrongFalsely : Prop := aloneRow.holds Tryz.pinned (OpenSpec.ofChange aloneWrong)

/-- 'mooringlaw.Falls': WHATEVER THE INPUT: true; the input reads as it did. -/
def fallsSpec : ChangeSpec := { name := "falls", fn := fun _ => fun
  | [d] => { results := [.lit (.bool true)], args := [d] }
  | _ => none }
def fallsRow : OpenClaim := { program := "ytbbdgokdfhdpiaagreatdoor", sum := "a5dde887fa843009ea87ff119f06504abbda31a824eb793f2e5ba00db37cbc87", func := "mooring/mooringlaw.Falls", spec := "falls", inPlace := ["maps.clone", "internal/abi.NoEscape", "internal/reflectlite.TypeOf", "internal/reflectlite.ValueOf", "(internal/reflectlite.Value).Type", "(internal/reflectlite.Value).IsNil", "(internal/reflectlite.Value).Elem", "(internal/reflectlite.Value).Set"], unfollowed := true, recurses := true, named := ["mooring/disk.ErrRoom", "errors.errorType"], apart := false, laid := [("errors.errorType", laid_errors_errorType), ("mooring/disk.ErrRoom", laid_mooring_disk_ErrRoom)] }
def FallsSaid : Prop := fallsRow.holds Tryz.pinned (OpenSpec.ofChange fallsSpec)

/-- ITS FALSE NEIGHBOUR: 'it returns false'. Refute it at one input. -/
def fallsWrong : ChangeSpec := { name := "falls", fn := fun _ => fun
  | [d] => { results := [.lit (.bool false)], args := [d] }
  | _ => none }
def FallsWrongFalsely : Prop := fallsRow.holds Tryz.pinned (OpenSpec.ofChange fallsWrong)

/-- 'mooringkeep.One': WHATEVER THE INPUT: true; the input reads as it did. -/
def oneSpec : ChangeSpec := { name := "one", fn := fun _ => fun
  | [d1, d2] => { results := [.lit (.bool true)], args := [d1, d2] }
  | _ => none }
def oneRow : OpenClaim := { program := "ytbbdgokdfhdpiaagreatdoor", sum := "a5dde887fa843009ea87ff119f06504abbda31a824eb793f2e5ba00db37cbc87", func := "mooring/mooringkeep.One", spec := "one", inPlace := ["maps.clone", "internal/abi.NoEscape", "internal/reflectlite.TypeOf", "internal/reflectlite.ValueOf", "(internal/reflectlite.Value).Type", "(internal/reflectlite.Value).IsNil", "(internal/reflectlite.Value).Elem", "(internal/reflectlite.Value).Set"], unfollowed := true, recurses := true, named := ["mooring/disk.ErrRoom", "errors.errorType"], apart := false, laid := [("errors.errorType", laid_errors_errorType), ("mooring/disk.ErrRoom", laid_mooring_disk_ErrRoom)] }
def OneSaid : Prop := oneRow.holds Tryz.pinned (OpenSpec.ofChange oneSpec)

/-- ITS FALSE NEIGHBOUR: 'it returns false'. Refute it at one input. -/
def oneWrong : ChangeSpec := { name := "one", fn := fun _ => fun
  | [d1, d2] => { results := [.lit (.bool false)], args := [d1, d2] }
  | _ => none }
def OneWrongFalsely : Prop := oneRow.holds Tryz.pinned (OpenSpec.ofChange oneWrong)

/-- 'mooringkeep.Kept': WHATEVER THE INPUT: true; the input reads as it did. -/
def keptSpec : ChangeSpec := { name := "kept", fn := fun _ => fun
  | [d1, d2, d3] => { results := [.lit (.bool true)], args := [d1, d2, d3] }
  | _ => none }
def keptRow : OpenClaim := { program := "ytbbdgokdfhdpiaagreatdoor", sum := "a5dde887fa843009ea87ff119f06504abbda31a824eb793f2e5ba00db37cbc87", func := "mooring/mooringkeep.Kept", spec := "kept", inPlace := ["maps.clone", "internal/abi.NoEscape", "internal/reflectlite.TypeOf", "internal/reflectlite.ValueOf", "(internal/reflectlite.Value).Type", "(internal/reflectlite.Value).IsNil", "(internal/reflectlite.Value).Elem", "(internal/reflectlite.Value).Set"], unfollowed := true, recurses := true, named := ["mooring/disk.ErrRoom", "errors.errorType"], apart := false, laid := [("errors.errorType", laid_errors_errorType), ("mooring/disk.ErrRoom", laid_mooring_disk_ErrRoom)] }
def KeptSaid : Prop := keptRow.holds Tryz.pinned (OpenSpec.ofChange keptSpec)

/-- ITS FALSE NEIGHBOUR: 'it returns false'. Refute it at one input. -/
def keptWrong : ChangeSpec := { name := "kept", fn := fun _ => fun
  | [d1, d2, d3] => { results := [.lit (.bool false)], args := [d1, d2, d3] }
  | _ => none }
def KeptWrongFalsely : Prop := keptRow.holds Tryz.pinned (OpenSpec.ofChange keptWrong)

/-- 'mooringkeep.Lively': WHATEVER THE INPUT: true; the input reads as it did. -/
def livelySpec : ChangeSpec := { name := "lively", fn := fun _ => fun
  | [d1, d2, d3, d4] => { results := [.lit (.bool true)], args := [d1, d2, d3, d4] }
  | _ => none }
def livelyRow : OpenClaim := { program := "ytbbdgokdfhdpiaagreatdoor", sum := "a5dde887fa843009ea87ff119f06504abbda31a824eb793f2e5ba00db37cbc87", func := "mooring/mooringkeep.Lively", spec := "lively", inPlace := ["maps.clone", "internal/abi.NoEscape", "internal/reflectlite.TypeOf", "internal/reflectlite.ValueOf", "(internal/reflectlite.Value).Type", "(internal/reflectlite.Value).IsNil", "(internal/reflectlite.Value).Elem", "(internal/reflectlite.Value).Set"], unfollowed := true, recurses := true, named := ["mooring/disk.ErrRoom", "errors.errorType"], apart := false, laid := [("errors.errorType", laid_errors_errorType), ("mooring/disk.ErrRoom", laid_mooring_disk_ErrRoom)] }
def LivelySaid : Prop := livelyRow.holds Tryz.pinned (OpenSpec.ofChange livelySpec)

/-- ITS FALSE NEIGHBOUR: 'it returns false'. Refute it at one input. -/
def livelyWrong : ChangeSpec := { name := "lively", fn := fun _ => fun
  | [d1, d2, d3, d4] => { results := [.lit (.bool false)], args := [d1, d2, d3, d4] }
  | _ => none }
def LivelyWrongFalsely : Prop := livelyRow.holds Tryz.pinned (OpenSpec.ofChange livelyWrong)

/-- 'mooringlaw.All': WHATEVER THE INPUT: true; the input reads as it did. -/
def allSpec : ChangeSpec := { name := "all", fn := fun _ => fun
  | [d] => { results := [.lit (.bool true)], args := [d] }
  | _ => none }
def allRow : OpenClaim := { program := "ytbbdgokdfhdpiaagreatdoor", sum := "a5dde887fa843009ea87ff119f06504abbda31a824eb793f2e5ba00db37cbc87", func := "mooring/mooringlaw.All", spec := "all", inPlace := ["maps.clone", "internal/abi.NoEscape", "internal/reflectlite.TypeOf", "internal/reflectlite.ValueOf", "(internal/reflectlite.Value).Type", "(internal/reflectlite.Value).IsNil", "(internal/reflectlite.Value).Elem", "(internal/reflectlite.Value).Set"], unfollowed := true, recurses := true, named := ["mooring/disk.ErrRoom", "errors.errorType"], apart := false, laid := [("errors.errorType", laid_errors_errorType), ("mooring/disk.ErrRoom", laid_mooring_disk_ErrRoom)] }
def AllSaid : Prop := allRow.holds Tryz.pinned (OpenSpec.ofChange allSpec)

/-- ITS FALSE NEIGHBOUR: 'it returns false'. Refute it at one input. -/
def allWrong : ChangeSpec := { name := "all", fn := fun _ => fun
  | [d] => { results := [.lit (.bool false)], args := [d] }
  | _ => none }
def AllWrongFalsely : Prop := allRow.holds Tryz.pinned (OpenSpec.ofChange allWrong)

/- THE SECOND FORM. 'bulk': how many values and letters a reading holds, each counted each time it is reached (what is shared counts as often as it is met; a slice's spare places count too). A statement '..UptoSaid' is the law's where the arguments, and the package variables that the reading takes, are together of bulk at most 1048576: NARROWER than '..Said'. Prove '..Said' where nothing that the law and all that it calls make is longer than what came in: it says more and counts as full. Else prove '..UptoSaid'. A law counts once. -/
mutual
def uptoBulk {H : Type} : DataW H → Nat
  | .lit (.string bytes) => bytes.length + 1
  | .lit _ => 1
  | .nil => 1
  | .ptr d => uptoBulk d + 1
  | .slice elems spare => uptoBulkAll elems + uptoBulkAll spare + 1
  | .agg parts => uptoBulkAll parts + 1
  | .iface _ d => uptoBulk d + 1
  | .map entries => uptoBulkEntries entries + 1
  | .held _ => 1
def uptoBulkAll {H : Type} : List (DataW H) → Nat
  | [] => 0
  | d :: r => uptoBulk d + uptoBulkAll r
def uptoBulkEntries {H : Type} : List (Lit × DataW H) → Nat
  | [] => 0
  | x :: r => uptoBulkEntry x + uptoBulkEntries r
def uptoBulkEntry {H : Type} : Lit × DataW H → Nat
  | (.string bytes, d) => bytes.length + uptoBulk d + 1
  | (_, d) => uptoBulk d + 1
 end
def uptoSmall : (H : Type) → List (DataW H) → Bool := fun _ ds => decide (uptoBulkAll ds ≤ 1048576)
def OpenSpec.upto (s : _root_.Go.ChangeSpec) : _root_.Go.OpenSpec := { _root_.Go.OpenSpec.ofChange s with cond := some uptoSmall }

/-- 'mooringlaw.Checks', WHERE WHAT IT READS IS OF BULK AT MOST 1048576: true; the input reads as it did. -/
def checksUptoRow : OpenClaim := { program := "ytbbdgokdfhdpiaagreatdoor", sum := "a5dde887fa843009ea87ff119f06504abbda31a824eb793f2e5ba00db37cbc87", func := "mooring/mooringlaw.Checks", spec := "checks", inPlace := ["maps.clone", "internal/abi.NoEscape", "internal/reflectlite.TypeOf", "internal/reflectlite.ValueOf", "(internal/reflectlite.Value).Type", "(internal/reflectlite.Value).IsNil", "(internal/reflectlite.Value).Elem", "(internal/reflectlite.Value).Set"], unfollowed := true, recurses := true, named := ["mooring/disk.ErrRoom", "errors.errorType"], apart := false, laid := [("errors.errorType", laid_errors_errorType), ("mooring/disk.ErrRoom", laid_mooring_disk_ErrRoom)], narrowed := true }
def ChecksUptoSaid : Prop := checksUptoRow.holds Tryz.pinned (OpenSpec.upto checksSpec)

/-- 'mooringlaw.Records', WHERE WHAT IT READS IS OF BULK AT MOST 1048576: true; the input reads as it did. -/
def recordsUptoRow : OpenClaim := { program := "ytbbdgokdfhdpiaagreatdoor", sum := "a5dde887fa843009ea87ff119f06504abbda31a824eb793f2e5ba00db37cbc87", func := "mooring/mooringlaw.Records", spec := "records", inPlace := ["maps.clone", "internal/abi.NoEscape", "internal/reflectlite.TypeOf", "internal/reflectlite.ValueOf", "(internal/reflectlite.Value).Type", "(internal/reflectlite.Value).IsNil", "(internal/reflectlite.Value).Elem", "(internal/reflectlite.Value).Set"], unfollowed := true, recurses := true, named := ["mooring/disk.ErrRoom", "errors.errorType"], apart := false, laid := [("errors.errorType", laid_errors_errorType), ("mooring/disk.ErrRoom", laid_mooring_disk_ErrRoom)], narrowed := true }
def RecordsUptoSaid : Prop := recordsUptoRow.holds Tryz.pinned (OpenSpec.upto recordsSpec)

/-- 'mooringlaw.Rounds', WHERE WHAT IT READS IS OF BULK AT MOST 1048576: true; the input reads as it did. -/
def roundsUptoRow : OpenClaim := { program := "ytbbdgokdfhdpiaagreatdoor", sum := "a5dde887fa843009ea87ff119f06504abbda31a824eb793f2e5ba00db37cbc87", func := "mooring/mooringlaw.Rounds", spec := "rounds", inPlace := ["maps.clone", "internal/abi.NoEscape", "internal/reflectlite.TypeOf", "internal/reflectlite.ValueOf", "(internal/reflectlite.Value).Type", "(internal/reflectlite.Value).IsNil", "(internal/reflectlite.Value).Elem", "(internal/reflectlite.Value).Set"], unfollowed := true, recurses := true, named := ["mooring/disk.ErrRoom", "errors.errorType"], apart := false, laid := [("errors.errorType", laid_errors_errorType), ("mooring/disk.ErrRoom", laid_mooring_disk_ErrRoom)], narrowed := true }
def RoundsUptoSaid : Prop := roundsUptoRow.holds Tryz.pinned (OpenSpec.upto roundsSpec)

/-- 'mooringkeep.Alone', WHERE WHAT IT READS IS OF BULK AT MOST 1048576: true; the input reads as it did. -/
def aloneUptoRow : OpenClaim := { program := "ytbbdgokdfhdpiaagreatdoor", sum := "a5dde887fa843009ea87ff119f06504abbda31a824eb793f2e5ba00db37cbc87", func := "mooring/mooringkeep.Alone", spec := "alone", inPlace := ["maps.clone", "internal/abi.NoEscape", "internal/reflectlite.TypeOf", "internal/reflectlite.ValueOf", "(internal/reflectlite.Value).Type", "(internal/reflectlite.Value).IsNil", "(internal/reflectlite.Value).Elem", "(internal/reflectlite.Value).Set"], unfollowed := true, recurses := true, named := ["mooring/disk.ErrRoom", "errors.errorType"], apart := false, laid := [("errors.errorType", laid_errors_errorType), ("mooring/disk.ErrRoom", laid_mooring_disk_ErrRoom)], narrowed := true }
def AloneUptoSaid : Prop := aloneUptoRow.holds Tryz.pinned (OpenSpec.upto aloneSpec)

/-- 'mooringlaw.Falls', WHERE WHAT IT READS IS OF BULK AT MOST 1048576: true; the input reads as it did. -/
def fallsUptoRow : OpenClaim := { program := "ytbbdgokdfhdpiaagreatdoor", sum := "a5dde887fa843009ea87ff119f06504abbda31a824eb793f2e5ba00db37cbc87", func := "mooring/mooringlaw.Falls", spec := "falls", inPlace := ["maps.clone", "internal/abi.NoEscape", "internal/reflectlite.TypeOf", "internal/reflectlite.ValueOf", "(internal/reflectlite.Value).Type", "(internal/reflectlite.Value).IsNil", "(internal/reflectlite.Value).Elem", "(internal/reflectlite.Value).Set"], unfollowed := true, recurses := true, named := ["mooring/disk.ErrRoom", "errors.errorType"], apart := false, laid := [("errors.errorType", laid_errors_errorType), ("mooring/disk.ErrRoom", laid_mooring_disk_ErrRoom)], narrowed := true }
def FallsUptoSaid : Prop := fallsUptoRow.holds Tryz.pinned (OpenSpec.upto fallsSpec)

/-- 'mooringkeep.One', WHERE WHAT IT READS IS OF BULK AT MOST 1048576: true; the input reads as it did. -/
def oneUptoRow : OpenClaim := { program := "ytbbdgokdfhdpiaagreatdoor", sum := "a5dde887fa843009ea87ff119f06504abbda31a824eb793f2e5ba00db37cbc87", func := "mooring/mooringkeep.One", spec := "one", inPlace := ["maps.clone", "internal/abi.NoEscape", "internal/reflectlite.TypeOf", "internal/reflectlite.ValueOf", "(internal/reflectlite.Value).Type", "(internal/reflectlite.Value).IsNil", "(internal/reflectlite.Value).Elem", "(internal/reflectlite.Value).Set"], unfollowed := true, recurses := true, named := ["mooring/disk.ErrRoom", "errors.errorType"], apart := false, laid := [("errors.errorType", laid_errors_errorType), ("mooring/disk.ErrRoom", laid_mooring_disk_ErrRoom)], narrowed := true }
def OneUptoSaid : Prop := oneUptoRow.holds Tryz.pinned (OpenSpec.upto oneSpec)

/-- 'mooringkeep.Kept', WHERE WHAT IT READS IS OF BULK AT MOST 1048576: true; the input reads as it did. -/
def keptUptoRow : OpenClaim := { program := "ytbbdgokdfhdpiaagreatdoor", sum := "a5dde887fa843009ea87ff119f06504abbda31a824eb793f2e5ba00db37cbc87", func := "mooring/mooringkeep.Kept", spec := "kept", inPlace := ["maps.clone", "internal/abi.NoEscape", "internal/reflectlite.TypeOf", "internal/reflectlite.ValueOf", "(internal/reflectlite.Value).Type", "(internal/reflectlite.Value).IsNil", "(internal/reflectlite.Value).Elem", "(internal/reflectlite.Value).Set"], unfollowed := true, recurses := true, named := ["mooring/disk.ErrRoom", "errors.errorType"], apart := false, laid := [("errors.errorType", laid_errors_errorType), ("mooring/disk.ErrRoom", laid_mooring_disk_ErrRoom)], narrowed := true }
def KeptUptoSaid : Prop := keptUptoRow.holds Tryz.pinned (OpenSpec.upto keptSpec)

/-- 'mooringkeep.Lively', WHERE WHAT IT READS IS OF BULK AT MOST 1048576: true; the input reads as it did. -/
def livelyUptoRow : OpenClaim := { program := "ytbbdgokdfhdpiaagreatdoor", sum := "a5dde887fa843009ea87ff119f06504abbda31a824eb793f2e5ba00db37cbc87", func := "mooring/mooringkeep.Lively", spec := "lively", inPlace := ["maps.clone", "internal/abi.NoEscape", "internal/reflectlite.TypeOf", "internal/reflectlite.ValueOf", "(internal/reflectlite.Value).Type", "(internal/reflectlite.Value).IsNil", "(internal/reflectlite.Value).Elem", "(internal/reflectlite.Value).Set"], unfollowed := true, recurses := true, named := ["mooring/disk.ErrRoom", "errors.errorType"], apart := false, laid := [("errors.errorType", laid_errors_errorType), ("mooring/disk.ErrRoom", laid_mooring_disk_ErrRoom)], narrowed := true }
def LivelyUptoSaid : Prop := livelyUptoRow.holds Tryz.pinned (OpenSpec.upto livelySpec)

/-- 'mooringlaw.All', WHERE WHAT IT READS IS OF BULK AT MOST 1048576: true; the input reads as it did. -/
def allUptoRow : OpenClaim := { program := "ytbbdgokdfhdpiaagreatdoor", sum := "a5dde887fa843009ea87ff119f06504abbda31a824eb793f2e5ba00db37cbc87", func := "mooring/mooringlaw.All", spec := "all", inPlace := ["maps.clone", "internal/abi.NoEscape", "internal/reflectlite.TypeOf", "internal/reflectlite.ValueOf", "(internal/reflectlite.Value).Type", "(internal/reflectlite.Value).IsNil", "(internal/reflectlite.Value).Elem", "(internal/reflectlite.Value).Set"], unfollowed := true, recurses := true, named := ["mooring/disk.ErrRoom", "errors.errorType"], apart := false, laid := [("errors.errorType", laid_errors_errorType), ("mooring/disk.ErrRoom", laid_mooring_disk_ErrRoom)], narrowed := true }
def AllUptoSaid : Prop := allUptoRow.holds Tryz.pinned (OpenSpec.upto allSpec)

end Rows
end Go.Proofs.YtbbdgokdfhdpiaaGreatDoor
