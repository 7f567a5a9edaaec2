/-
  DERIVED. GIVEN WITH THE SEED: THE CARDS: each row of YtgmemeofpompbaaDoorRows.lean that lists a variable, with what it lists TIED to the program's text (the seventh form; the later family's looks); each row that meets fmt, with fmt's text TOLD by the authors' own Lean function (tested against real Go, not proved from fmt's source: count such statements apart). THE CARD IS WHAT COUNTS. Prove the row's statement (the work); the ties are given (YtgmemeofpompbaaDoorTie.lean); close each card by the builder's one call (the guide's Derived/Test/ToyasCard.lean, 'card_holds'). Laid BY PROGRAM, IN A SANDBOX (cutbox-door.mjs). By AI agents, Wed Nov 11 2026. No macro, syntax, notation, axiom, sorry.
-/
import Derived.Test.YtgmemeofpompbaaDoorRows
import GoSem.ClaimSeven
namespace Go.Proofs.YtgmemeofpompbaaDoor
namespace Rows

/-- THE TIED CARD OF 'akinlaw.Reads'. -/
def readsCard : Claim7 := { stood := { row := readsRow, standIns := [], harness := (true, "3fc11d7a440195771f953b9a765c11e38a5af518b2078849eb4649ab7abf6abe"), looks := false }, kinds := [], alts := [], laidByText := true, laidKinds := [.data], laidTests := true, laidLooks := .later }
def ReadsCardSaid : Prop := Claim7.holds Tryd.pinned (.plain (OpenSpec.ofChange readsSpec)) readsCard

/-- THE TIED CARD OF 'akinlaw.Unmade'. -/
def unmadeCard : Claim7 := { stood := { row := unmadeRow, standIns := [], harness := (true, "3fc11d7a440195771f953b9a765c11e38a5af518b2078849eb4649ab7abf6abe"), looks := false }, kinds := [], alts := [], laidByText := true, laidKinds := [.data], laidTests := true, laidLooks := .later }
def UnmadeCardSaid : Prop := Claim7.holds Tryd.pinned (.plain (OpenSpec.ofChange unmadeSpec)) unmadeCard

/-- THE TIED CARD OF 'akinkeep.Chains'. -/
def chainsCard : Claim7 := { stood := { row := chainsRow, standIns := [], harness := (true, "3fc11d7a440195771f953b9a765c11e38a5af518b2078849eb4649ab7abf6abe"), looks := false }, kinds := [], alts := [], laidByText := true, laidKinds := [.data], laidTests := true, laidLooks := .later }
def ChainsCardSaid : Prop := Claim7.holds Tryd.pinned (.plain (OpenSpec.ofChange chainsSpec)) chainsCard

/-- THE TIED CARD OF 'akinkeep.Powers'. -/
def powersCard : Claim7 := { stood := { row := powersRow, standIns := [], harness := (true, "3fc11d7a440195771f953b9a765c11e38a5af518b2078849eb4649ab7abf6abe"), looks := false }, kinds := [], alts := [], laidByText := true, laidKinds := [.data], laidTests := true, laidLooks := .later }
def PowersCardSaid : Prop := Claim7.holds Tryd.pinned (.plain (OpenSpec.ofChange powersSpec)) powersCard

/-- THE SECOND FORM's CARD OF 'akinlaw.Reads'. -/
def readsUptoCard : Claim7 := { stood := { row := readsUptoRow, standIns := [], harness := (true, "3fc11d7a440195771f953b9a765c11e38a5af518b2078849eb4649ab7abf6abe"), looks := false }, kinds := [], alts := [], laidByText := true, laidKinds := [.data], laidTests := true, laidLooks := .later }
def ReadsUptoCardSaid : Prop := Claim7.holds Tryd.pinned (.plain (OpenSpec.upto readsSpec)) readsUptoCard

/-- THE SECOND FORM's CARD OF 'akinlaw.Unmade'. -/
def unmadeUptoCard : Claim7 := { stood := { row := unmadeUptoRow, standIns := [], harness := (true, "3fc11d7a440195771f953b9a765c11e38a5af518b2078849eb4649ab7abf6abe"), looks := false }, kinds := [], alts := [], laidByText := true, laidKinds := [.data], laidTests := true, laidLooks := .later }
def UnmadeUptoCardSaid : Prop := Claim7.holds Tryd.pinned (.plain (OpenSpec.upto unmadeSpec)) unmadeUptoCard

/-- THE SECOND FORM's CARD OF 'akinkeep.Chains'. -/
def chainsUptoCard : Claim7 := { stood := { row := chainsUptoRow, standIns := [], harness := (true, "3fc11d7a440195771f953b9a765c11e38a5af518b2078849eb4649ab7abf6abe"), looks := false }, kinds := [], alts := [], laidByText := true, laidKinds := [.data], laidTests := true, laidLooks := .later }
def ChainsUptoCardSaid : Prop := Claim7.holds Tryd.pinned (.plain (OpenSpec.upto chainsSpec)) chainsUptoCard

/-- THE SECOND FORM's CARD OF 'akinkeep.Powers'. -/
def powersUptoCard : Claim7 := { stood := { row := powersUptoRow, standIns := [], harness := (true, "3fc11d7a440195771f953b9a765c11e38a5af518b2078849eb4649ab7abf6abe"), looks := false }, kinds := [], alts := [], laidByText := true, laidKinds := [.data], laidTests := true, laidLooks := .later }
def PowersUptoCardSaid : Prop := Claim7.holds Tryd.pinned (.plain (OpenSpec.upto powersSpec)) powersUptoCard
end Rows
end Go.Proofs.YtgmemeofpompbaaDoor
