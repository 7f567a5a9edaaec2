/-
  DERIVED. GIVEN WITH THE SEED: THE CARDS: each row of YtmfkpllnmmfpiaaDoorRows.lean that lists a variable, with what it lists TIED to the program's text (the seventh form; the later family's looks); each row that meets fmt, with fmt's text TOLD by the authors' own Lean function (tested against real Go, not proved from fmt's source: count such statements apart). THE CARD IS WHAT COUNTS. Prove the row's statement (the work); the ties are given (YtmfkpllnmmfpiaaDoorTie.lean); close each card by the builder's one call (the guide's Derived/Test/ToyasCard.lean, 'card_holds'). Laid BY PROGRAM, IN A SANDBOX (cutbox-door.mjs). By AI agents, Wed Nov 11 2026. No macro, syntax, notation, axiom, sorry.
-/
import Derived.Test.YtmfkpllnmmfpiaaDoorRows
import GoSem.ClaimSeven
namespace Go.Proofs.YtmfkpllnmmfpiaaDoor
namespace Rows

/-- THE TIED CARD OF 'akinlaw.Reads'. -/
def readsCard : Claim7 := { stood := { row := readsRow, standIns := [], harness := (true, "bbe4e4d62c69f20585d54bac5e2afbe596c820f729c8ac0d37769e55384537b5"), looks := false }, kinds := [], alts := [], laidByText := true, laidKinds := [.data], laidTests := true, laidLooks := .later }
def ReadsCardSaid : Prop := Claim7.holds Tryd.pinned (.plain (OpenSpec.ofChange readsSpec)) readsCard

/-- THE TIED CARD OF 'akinkeep.Chains'. -/
def chainsCard : Claim7 := { stood := { row := chainsRow, standIns := [], harness := (true, "bbe4e4d62c69f20585d54bac5e2afbe596c820f729c8ac0d37769e55384537b5"), looks := false }, kinds := [], alts := [], laidByText := true, laidKinds := [.data], laidTests := true, laidLooks := .later }
def ChainsCardSaid : Prop := Claim7.holds Tryd.pinned (.plain (OpenSpec.ofChange chainsSpec)) chainsCard

/-- THE TIED CARD OF 'akinkeep.Powers'. -/
def powersCard : Claim7 := { stood := { row := powersRow, standIns := [], harness := (true, "bbe4e4d62c69f20585d54bac5e2afbe596c820f729c8ac0d37769e55384537b5"), looks := false }, kinds := [], alts := [], laidByText := true, laidKinds := [.data], laidTests := true, laidLooks := .later }
def PowersCardSaid : Prop := Claim7.holds Tryd.pinned (.plain (OpenSpec.ofChange powersSpec)) powersCard

/-- THE TIED CARD OF 'akinkeep.Sound'. -/
def soundCard : Claim7 := { stood := { row := soundRow, standIns := [], harness := (true, "bbe4e4d62c69f20585d54bac5e2afbe596c820f729c8ac0d37769e55384537b5"), looks := false }, kinds := [], alts := [], laidByText := true, laidKinds := [.data], laidTests := true, laidLooks := .later }
def SoundCardSaid : Prop := Claim7.holds Tryd.pinned (.plain (OpenSpec.ofChange soundSpec)) soundCard

/-- THE TIED CARD OF 'akinkeep.Taken'. -/
def takenCard : Claim7 := { stood := { row := takenRow, standIns := [], harness := (true, "bbe4e4d62c69f20585d54bac5e2afbe596c820f729c8ac0d37769e55384537b5"), looks := false }, kinds := [], alts := [], laidByText := true, laidKinds := [.data], laidTests := true, laidLooks := .later }
def TakenCardSaid : Prop := Claim7.holds Tryd.pinned (.plain (OpenSpec.ofChange takenSpec)) takenCard

/-- THE SECOND FORM's CARD OF 'akinlaw.Reads'. -/
def readsUptoCard : Claim7 := { stood := { row := readsUptoRow, standIns := [], harness := (true, "bbe4e4d62c69f20585d54bac5e2afbe596c820f729c8ac0d37769e55384537b5"), looks := false }, kinds := [], alts := [], laidByText := true, laidKinds := [.data], laidTests := true, laidLooks := .later }
def ReadsUptoCardSaid : Prop := Claim7.holds Tryd.pinned (.plain (OpenSpec.upto readsSpec)) readsUptoCard

/-- THE SECOND FORM's CARD OF 'akinkeep.Chains'. -/
def chainsUptoCard : Claim7 := { stood := { row := chainsUptoRow, standIns := [], harness := (true, "bbe4e4d62c69f20585d54bac5e2afbe596c820f729c8ac0d37769e55384537b5"), looks := false }, kinds := [], alts := [], laidByText := true, laidKinds := [.data], laidTests := true, laidLooks := .later }
def ChainsUptoCardSaid : Prop := Claim7.holds Tryd.pinned (.plain (OpenSpec.upto chainsSpec)) chainsUptoCard

/-- THE SECOND FORM's CARD OF 'akinkeep.Powers'. -/
def powersUptoCard : Claim7 := { stood := { row := powersUptoRow, standIns := [], harness := (true, "bbe4e4d62c69f20585d54bac5e2afbe596c820f729c8ac0d37769e55384537b5"), looks := false }, kinds := [], alts := [], laidByText := true, laidKinds := [.data], laidTests := true, laidLooks := .later }
def PowersUptoCardSaid : Prop := Claim7.holds Tryd.pinned (.plain (OpenSpec.upto powersSpec)) powersUptoCard

/-- THE SECOND FORM's CARD OF 'akinkeep.Sound'. -/
def soundUptoCard : Claim7 := { stood := { row := soundUptoRow, standIns := [], harness := (true, "bbe4e4d62c69f20585d54bac5e2afbe596c820f729c8ac0d37769e55384537b5"), looks := false }, kinds := [], alts := [], laidByText := true, laidKinds := [.data], laidTests := true, laidLooks := .later }
def SoundUptoCardSaid : Prop := Claim7.holds Tryd.pinned (.plain (OpenSpec.upto soundSpec)) soundUptoCard

/-- THE SECOND FORM's CARD OF 'akinkeep.Taken'. -/
def takenUptoCard : Claim7 := { stood := { row := takenUptoRow, standIns := [], harness := (true, "bbe4e4d62c69f20585d54bac5e2afbe596c820f729c8ac0d37769e55384537b5"), looks := false }, kinds := [], alts := [], laidByText := true, laidKinds := [.data], laidTests := true, laidLooks := .later }
def TakenUptoCardSaid : Prop := Claim7.holds Tryd.pinned (.plain (OpenSpec.upto takenSpec)) takenUptoCard
end Rows
end Go.Proofs.YtmfkpllnmmfpiaaDoor
