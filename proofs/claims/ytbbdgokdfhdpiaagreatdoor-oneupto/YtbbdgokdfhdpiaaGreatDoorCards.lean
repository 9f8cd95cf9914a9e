/-
  DERIVED. GIVEN WITH THE SEED: THE CARDS: each row of YtbbdgokdfhdpiaaGreatDoorRows.lean that lists a variable, with what it lists TIED to the program's text (the seventh form; the later family's looks); each row that meets fmt, with fmt's text TOLD by the authors' own Lean function (tested against real Go, not proved from fmt's source: count such statements apart). THE CARD IS WHAT COUNTS. Prove the row's statement (the work); the ties are given (YtbbdgokdfhdpiaaGreatDoorTie.lean); close each card by the builder's one call (the guide's Derived/Test/ToyasCard.lean, 'card_holds'). Laid BY PROGRAM, IN A SANDBOX (cutbox-door.mjs). By AI agents, Wed Nov 11 2026. No macro, syntax, notation, axiom, sorry.
-/
import Derived.Test.YtbbdgokdfhdpiaaGreatDoorRows
import GoSem.ClaimSeven
namespace Go.Proofs.YtbbdgokdfhdpiaaGreatDoor
namespace Rows

/-- THE TIED CARD OF 'mooringlaw.Checks'. -/
def checksCard : Claim7 := { stood := { row := checksRow, standIns := [], harness := (true, "126cfa206010c3b9e48932693718bff7c6e922d6d1a5b8af4cc44d3953278b5e"), looks := true }, kinds := [], alts := [], laidByText := true, laidKinds := [.handle, .sentinel], laidTests := true, laidLooks := .later }
def ChecksCardSaid : Prop := Claim7.holds Tryz.pinned (.plain (OpenSpec.ofChange checksSpec)) checksCard

/-- THE TIED CARD OF 'mooringlaw.Records'. -/
def recordsCard : Claim7 := { stood := { row := recordsRow, standIns := [], harness := (true, "126cfa206010c3b9e48932693718bff7c6e922d6d1a5b8af4cc44d3953278b5e"), looks := true }, kinds := [], alts := [], laidByText := true, laidKinds := [.handle, .sentinel], laidTests := true, laidLooks := .later }
def RecordsCardSaid : Prop := Claim7.holds Tryz.pinned (.plain (OpenSpec.ofChange recordsSpec)) recordsCard

/-- THE TIED CARD OF 'mooringlaw.Rounds'. -/
def roundsCard : Claim7 := { stood := { row := roundsRow, standIns := [], harness := (true, "126cfa206010c3b9e48932693718bff7c6e922d6d1a5b8af4cc44d3953278b5e"), looks := true }, kinds := [], alts := [], laidByText := true, laidKinds := [.handle, .sentinel], laidTests := true, laidLooks := .later }
def RoundsCardSaid : Prop := Claim7.holds Tryz.pinned (.plain (OpenSpec.ofChange roundsSpec)) roundsCard

/-- THE TIED CARD OF 'mooringkeep.Alone'. -/
def aloneCard : Claim7 := { stood := { row := aloneRow, standIns := [], harness := (true, "126cfa206010c3b9e48932693718bff7c6e922d6d1a5b8af4cc44d3953278b5e"), looks := true }, kinds := [], alts := [], laidByText := true, laidKinds := [.handle, .sentinel], laidTests := true, laidLooks := .later }
def AloneCardSaid : Prop := Claim7.holds Tryz.pinned (.plain (OpenSpec.ofChange aloneSpec)) aloneCard

/-- THE TIED CARD OF 'mooringlaw.Falls'. -/
def fallsCard : Claim7 := { stood := { row := fallsRow, standIns := [], harness := (true, "126cfa206010c3b9e48932693718bff7c6e922d6d1a5b8af4cc44d3953278b5e"), looks := true }, kinds := [], alts := [], laidByText := true, laidKinds := [.handle, .sentinel], laidTests := true, laidLooks := .later }
def FallsCardSaid : Prop := Claim7.holds Tryz.pinned (.plain (OpenSpec.ofChange fallsSpec)) fallsCard

/-- THE TIED CARD OF 'mooringkeep.One'. -/
def oneCard : Claim7 := { stood := { row := oneRow, standIns := [], harness := (true, "126cfa206010c3b9e48932693718bff7c6e922d6d1a5b8af4cc44d3953278b5e"), looks := true }, kinds := [], alts := [], laidByText := true, laidKinds := [.handle, .sentinel], laidTests := true, laidLooks := .later }
def OneCardSaid : Prop := Claim7.holds Tryz.pinned (.plain (OpenSpec.ofChange oneSpec)) oneCard

/-- THE TIED CARD OF 'mooringkeep.Kept'. -/
def keptCard : Claim7 := { stood := { row := keptRow, standIns := [], harness := (true, "126cfa206010c3b9e48932693718bff7c6e922d6d1a5b8af4cc44d3953278b5e"), looks := true }, kinds := [], alts := [], laidByText := true, laidKinds := [.handle, .sentinel], laidTests := true, laidLooks := .later }
def KeptCardSaid : Prop := Claim7.holds Tryz.pinned (.plain (OpenSpec.ofChange keptSpec)) keptCard

/-- THE TIED CARD OF 'mooringkeep.Lively'. -/
def livelyCard : Claim7 := { stood := { row := livelyRow, standIns := [], harness := (true, "126cfa206010c3b9e48932693718bff7c6e922d6d1a5b8af4cc44d3953278b5e"), looks := true }, kinds := [], alts := [], laidByText := true, laidKinds := [.handle, .sentinel], laidTests := true, laidLooks := .later }
def LivelyCardSaid : Prop := Claim7.holds Tryz.pinned (.plain (OpenSpec.ofChange livelySpec)) livelyCard

/-- THE TIED CARD OF 'mooringlaw.All'. -/
def allCard : Claim7 := { stood := { row := allRow, standIns := [], harness := (true, "126cfa206010c3b9e48932693718bff7c6e922d6d1a5b8af4cc44d3953278b5e"), looks := true }, kinds := [], alts := [], laidByText := true, laidKinds := [.handle, .sentinel], laidTests := true, laidLooks := .later }
def AllCardSaid : Prop := Claim7.holds Tryz.pinned (.plain (OpenSpec.ofChange allSpec)) allCard

/-- THE SECOND FORM's CARD OF 'mooringlaw.Checks'. -/
def checksUptoCard : Claim7 := { stood := { row := checksUptoRow, standIns := [], harness := (true, "126cfa206010c3b9e48932693718bff7c6e922d6d1a5b8af4cc44d3953278b5e"), looks := true }, kinds := [], alts := [], laidByText := true, laidKinds := [.handle, .sentinel], laidTests := true, laidLooks := .later }
def ChecksUptoCardSaid : Prop := Claim7.holds Tryz.pinned (.plain (OpenSpec.upto checksSpec)) checksUptoCard

/-- THE SECOND FORM's CARD OF 'mooringlaw.Records'. -/
def recordsUptoCard : Claim7 := { stood := { row := recordsUptoRow, standIns := [], harness := (true, "126cfa206010c3b9e48932693718bff7c6e922d6d1a5b8af4cc44d3953278b5e"), looks := true }, kinds := [], alts := [], laidByText := true, laidKinds := [.handle, .sentinel], laidTests := true, laidLooks := .later }
def RecordsUptoCardSaid : Prop := Claim7.holds Tryz.pinned (.plain (OpenSpec.upto recordsSpec)) recordsUptoCard

/-- THE SECOND FORM's CARD OF 'mooringlaw.Rounds'. -/
def roundsUptoCard : Claim7 := { stood := { row := roundsUptoRow, standIns := [], harness := (true, "126cfa206010c3b9e48932693718bff7c6e922d6d1a5b8af4cc44d3953278b5e"), looks := true }, kinds := [], alts := [], laidByText := true, laidKinds := [.handle, .sentinel], laidTests := true, laidLooks := .later }
def RoundsUptoCardSaid : Prop := Claim7.holds Tryz.pinned (.plain (OpenSpec.upto roundsSpec)) roundsUptoCard

/-- THE SECOND FORM's CARD OF 'mooringkeep.Alone'. -/
def aloneUptoCard : Claim7 := { stood := { row := aloneUptoRow, standIns := [], harness := (true, "126cfa206010c3b9e48932693718bff7c6e922d6d1a5b8af4cc44d3953278b5e"), looks := true }, kinds := [], alts := [], laidByText := true, laidKinds := [.handle, .sentinel], laidTests := true, laidLooks := .later }
def AloneUptoCardSaid : Prop := Claim7.holds Tryz.pinned (.plain (OpenSpec.upto aloneSpec)) aloneUptoCard

/-- THE SECOND FORM's CARD OF 'mooringlaw.Falls'. -/
def fallsUptoCard : Claim7 := { stood := { row := fallsUptoRow, standIns := [], harness := (true, "126cfa206010c3b9e48932693718bff7c6e922d6d1a5b8af4cc44d3953278b5e"), looks := true }, kinds := [], alts := [], laidByText := true, laidKinds := [.handle, .sentinel], laidTests := true, laidLooks := .later }
def FallsUptoCardSaid : Prop := Claim7.holds Tryz.pinned (.plain (OpenSpec.upto fallsSpec)) fallsUptoCard

/-- THE SECOND FORM's CARD OF 'mooringkeep.One'. -/
def oneUptoCard : Claim7 := { stood := { row := oneUptoRow, standIns := [], harness := (true, "126cfa206010c3b9e48932693718bff7c6e922d6d1a5b8af4cc44d3953278b5e"), looks := true }, kinds := [], alts := [], laidByText := true, laidKinds := [.handle, .sentinel], laidTests := true, laidLooks := .later }
def OneUptoCardSaid : Prop := Claim7.holds Tryz.pinned (.plain (OpenSpec.upto oneSpec)) oneUptoCard

/-- THE SECOND FORM's CARD OF 'mooringkeep.Kept'. -/
def keptUptoCard : Claim7 := { stood := { row := keptUptoRow, standIns := [], harness := (true, "126cfa206010c3b9e48932693718bff7c6e922d6d1a5b8af4cc44d3953278b5e"), looks := true }, kinds := [], alts := [], laidByText := true, laidKinds := [.handle, .sentinel], laidTests := true, laidLooks := .later }
def KeptUptoCardSaid : Prop := Claim7.holds Tryz.pinned (.plain (OpenSpec.upto keptSpec)) keptUptoCard

/-- THE SECOND FORM's CARD OF 'mooringkeep.Lively'. -/
def livelyUptoCard : Claim7 := { stood := { row := livelyUptoRow, standIns := [], harness := (true, "126cfa206010c3b9e48932693718bff7c6e922d6d1a5b8af4cc44d3953278b5e"), looks := true }, kinds := [], alts := [], laidByText := true, laidKinds := [.handle, .sentinel], laidTests := true, laidLooks := .later }
def LivelyUptoCardSaid : Prop := Claim7.holds Tryz.pinned (.plain (OpenSpec.upto livelySpec)) livelyUptoCard

/-- THE SECOND FORM's CARD OF 'mooringlaw.All'. -/
def allUptoCard : Claim7 := { stood := { row := allUptoRow, standIns := [], harness := (true, "126cfa206010c3b9e48932693718bff7c6e922d6d1a5b8af4cc44d3953278b5e"), looks := true }, kinds := [], alts := [], laidByText := true, laidKinds := [.handle, .sentinel], laidTests := true, laidLooks := .later }
def AllUptoCardSaid : Prop := Claim7.holds Tryz.pinned (.plain (OpenSpec.upto allSpec)) allUptoCard
end Rows
end Go.Proofs.YtbbdgokdfhdpiaaGreatDoor
