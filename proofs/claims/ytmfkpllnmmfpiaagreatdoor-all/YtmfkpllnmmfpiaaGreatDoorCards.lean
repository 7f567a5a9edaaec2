/-
  DERIVED. GIVEN WITH THE SEED: THE CARDS: each row of YtmfkpllnmmfpiaaGreatDoorRows.lean that lists a variable, with what it lists TIED to the program's text (the seventh form; the later family's looks); each row that meets fmt, with fmt's text TOLD by the authors' own Lean function (tested against real Go, not proved from fmt's source: count such statements apart). THE CARD IS WHAT COUNTS. Prove the row's statement (the work); the ties are given (YtmfkpllnmmfpiaaGreatDoorTie.lean); close each card by the builder's one call (the guide's Derived/Test/ToyasCard.lean, 'card_holds'). Laid BY PROGRAM, IN A SANDBOX (cutbox-door.mjs). By AI agents, Wed Nov 11 2026. No macro, syntax, notation, axiom, sorry.
-/
import Derived.Test.YtmfkpllnmmfpiaaGreatDoorRows
import GoSem.ClaimSeven
namespace Go.Proofs.YtmfkpllnmmfpiaaGreatDoor
namespace Rows

/-- THE TIED CARD OF 'akinlaw.Draws'. -/
def drawsCard : Claim7 := { stood := { row := drawsRow, standIns := [], harness := (true, "ea071adf5160d432e957fe8a6142352615a111b4a07911a0ba6ef24146f9cfd1"), looks := false }, kinds := [], alts := [], laidByText := true, laidKinds := [.data], laidTests := true, laidLooks := .later }
def DrawsCardSaid : Prop := Claim7.holds Tryz.pinned (.plain (OpenSpec.ofChange drawsSpec)) drawsCard

/-- THE TIED CARD OF 'akinlaw.Reasons'. -/
def reasonsCard : Claim7 := { stood := { row := reasonsRow, standIns := [], harness := (true, "ea071adf5160d432e957fe8a6142352615a111b4a07911a0ba6ef24146f9cfd1"), looks := false }, kinds := [], alts := [], laidByText := true, laidKinds := [.data], laidTests := true, laidLooks := .later }
def ReasonsCardSaid : Prop := Claim7.holds Tryz.pinned (.plain (OpenSpec.ofChange reasonsSpec)) reasonsCard

/-- THE TIED CARD OF 'akinlaw.Plays'. -/
def playsCard : Claim7 := { stood := { row := playsRow, standIns := [], harness := (true, "ea071adf5160d432e957fe8a6142352615a111b4a07911a0ba6ef24146f9cfd1"), looks := false }, kinds := [], alts := [], laidByText := true, laidKinds := [.data], laidTests := true, laidLooks := .later }
def PlaysCardSaid : Prop := Claim7.holds Tryz.pinned (.plain (OpenSpec.ofChange playsSpec)) playsCard

/-- THE TIED CARD OF 'akinlaw.Unmade'. -/
def unmadeCard : Claim7 := { stood := { row := unmadeRow, standIns := [], harness := (true, "ea071adf5160d432e957fe8a6142352615a111b4a07911a0ba6ef24146f9cfd1"), looks := false }, kinds := [], alts := [], laidByText := true, laidKinds := [.data], laidTests := true, laidLooks := .later }
def UnmadeCardSaid : Prop := Claim7.holds Tryz.pinned (.plain (OpenSpec.ofChange unmadeSpec)) unmadeCard

/-- THE TIED CARD OF 'akinlaw.All'. -/
def allCard : Claim7 := { stood := { row := allRow, standIns := [], harness := (true, "ea071adf5160d432e957fe8a6142352615a111b4a07911a0ba6ef24146f9cfd1"), looks := false }, kinds := [], alts := [], laidByText := true, laidKinds := [.data], laidTests := true, laidLooks := .later }
def AllCardSaid : Prop := Claim7.holds Tryz.pinned (.plain (OpenSpec.ofChange allSpec)) allCard

/-- THE TIED CARD OF 'akinkeep.Worlds'. -/
def worldsCard : Claim7 := { stood := { row := worldsRow, standIns := [], harness := (true, "ea071adf5160d432e957fe8a6142352615a111b4a07911a0ba6ef24146f9cfd1"), looks := false }, kinds := [], alts := [], laidByText := true, laidKinds := [.data], laidTests := true, laidLooks := .later }
def WorldsCardSaid : Prop := Claim7.holds Tryz.pinned (.plain (OpenSpec.ofChange worldsSpec)) worldsCard

/-- THE SECOND FORM's CARD OF 'akinlaw.Draws'. -/
def drawsUptoCard : Claim7 := { stood := { row := drawsUptoRow, standIns := [], harness := (true, "ea071adf5160d432e957fe8a6142352615a111b4a07911a0ba6ef24146f9cfd1"), looks := false }, kinds := [], alts := [], laidByText := true, laidKinds := [.data], laidTests := true, laidLooks := .later }
def DrawsUptoCardSaid : Prop := Claim7.holds Tryz.pinned (.plain (OpenSpec.upto drawsSpec)) drawsUptoCard

/-- THE SECOND FORM's CARD OF 'akinlaw.Reasons'. -/
def reasonsUptoCard : Claim7 := { stood := { row := reasonsUptoRow, standIns := [], harness := (true, "ea071adf5160d432e957fe8a6142352615a111b4a07911a0ba6ef24146f9cfd1"), looks := false }, kinds := [], alts := [], laidByText := true, laidKinds := [.data], laidTests := true, laidLooks := .later }
def ReasonsUptoCardSaid : Prop := Claim7.holds Tryz.pinned (.plain (OpenSpec.upto reasonsSpec)) reasonsUptoCard

/-- THE SECOND FORM's CARD OF 'akinlaw.Plays'. -/
def playsUptoCard : Claim7 := { stood := { row := playsUptoRow, standIns := [], harness := (true, "ea071adf5160d432e957fe8a6142352615a111b4a07911a0ba6ef24146f9cfd1"), looks := false }, kinds := [], alts := [], laidByText := true, laidKinds := [.data], laidTests := true, laidLooks := .later }
def PlaysUptoCardSaid : Prop := Claim7.holds Tryz.pinned (.plain (OpenSpec.upto playsSpec)) playsUptoCard

/-- THE SECOND FORM's CARD OF 'akinlaw.Unmade'. -/
def unmadeUptoCard : Claim7 := { stood := { row := unmadeUptoRow, standIns := [], harness := (true, "ea071adf5160d432e957fe8a6142352615a111b4a07911a0ba6ef24146f9cfd1"), looks := false }, kinds := [], alts := [], laidByText := true, laidKinds := [.data], laidTests := true, laidLooks := .later }
def UnmadeUptoCardSaid : Prop := Claim7.holds Tryz.pinned (.plain (OpenSpec.upto unmadeSpec)) unmadeUptoCard

/-- THE SECOND FORM's CARD OF 'akinlaw.All'. -/
def allUptoCard : Claim7 := { stood := { row := allUptoRow, standIns := [], harness := (true, "ea071adf5160d432e957fe8a6142352615a111b4a07911a0ba6ef24146f9cfd1"), looks := false }, kinds := [], alts := [], laidByText := true, laidKinds := [.data], laidTests := true, laidLooks := .later }
def AllUptoCardSaid : Prop := Claim7.holds Tryz.pinned (.plain (OpenSpec.upto allSpec)) allUptoCard

/-- THE SECOND FORM's CARD OF 'akinkeep.Worlds'. -/
def worldsUptoCard : Claim7 := { stood := { row := worldsUptoRow, standIns := [], harness := (true, "ea071adf5160d432e957fe8a6142352615a111b4a07911a0ba6ef24146f9cfd1"), looks := false }, kinds := [], alts := [], laidByText := true, laidKinds := [.data], laidTests := true, laidLooks := .later }
def WorldsUptoCardSaid : Prop := Claim7.holds Tryz.pinned (.plain (OpenSpec.upto worldsSpec)) worldsUptoCard
end Rows
end Go.Proofs.YtmfkpllnmmfpiaaGreatDoor
