/-
  NARROWER THAN 'FOR EVERY INPUT', by the rows' own cells (each row's printed sentence says how): Draws: laid · Reasons: laid · Plays: laid · Unmade: laid · All: laid · Worlds: laid.
  DERIVED. THE GIVEN ROWS OF THIS SEAT. 6 by the template 'for every input the law returns true; each argument reads behind the call as it read before'; 0 by the template 'total and deterministic' (their statements: YtmfkpllnmmfpiaaGreatDoorTotals.lean).
  GIVEN WITH THE SEED: the statements are not yours to turn. If you find one false, say at which input.
  Laid BY PROGRAM, IN A SANDBOX (cutbox-rows.mjs): the forced cells as the released guide's own fill.sh prints them over the translation 1e1947150a65af96… (all of the seat's roots in one cut). By AI agents, Wed Nov 11 2026. No macro, syntax, notation, axiom, sorry.
-/
import Derived.Test.YtmfkpllnmmfpiaaGreatDoorChecked
import GoSem.Claim
import GoSem.ClaimJoined
import GoSem.ClaimMapViews
import Derived.JoinedTies
import Derived.KernelRfl
namespace Go.Proofs.YtmfkpllnmmfpiaaGreatDoor
/- THE CELL 'sum', in the pinned program and in every row, IS THE sha256 OF THE DUMP (.gsa) THAT YtmfkpllnmmfpiaaGreatDoorProg.lean LOADS. Nothing in Lean hashes anything: it is a label: what it is worth is what the hold of that sum in a sandbox is worth. -/
noncomputable def Tryz.pinned : Pinned := { name := "ytmfkpllnmmfpiaagreatdoor", sum := "1e1947150a65af96a210a1edc2843afe46d76db69f96bb3008f718d6b93621be", checked := Tryz.checked }
namespace Rows
def none {H : Type} : Left H := { results := [], args := [] }

/- WHAT THE LISTED PACKAGE-LEVEL VARIABLES READ AS WHEN THE CALL BEGINS. Each datum BY PROGRAM (the guide's laid-datum.mjs) off the statement by which the dump's own 'gosem.cut.vars' lays the variable. In a bare row this is a premise. The card (YtmfkpllnmmfpiaaGreatDoorCards.lean) ties it to the program's text. -/
def laid_akin_akin_errnos {H : Type} : DataW H := .agg [.lit (.int .i64 0), .lit (.int .i64 1), .lit (.int .i64 2), .lit (.int .i64 3), .lit (.int .i64 3), .lit (.int .i64 3)]

/-- 'akinlaw.Draws': WHATEVER THE INPUT: true; the input reads as it did. -/
def drawsSpec : ChangeSpec := { name := "draws", fn := fun _ => fun
  | [d] => { results := [.lit (.bool true)], args := [d] }
  | _ => none }
def drawsRow : OpenClaim := { program := "ytmfkpllnmmfpiaagreatdoor", sum := "1e1947150a65af96a210a1edc2843afe46d76db69f96bb3008f718d6b93621be", func := "akin/akinlaw.Draws", spec := "draws", inPlace := ["internal/bytealg.abigen_runtime_cmpstring"], unfollowed := true, recurses := true, named := ["akin/akin.errnos"], plainKeys := false, apart := false, laid := [("akin/akin.errnos", laid_akin_akin_errnos)] }
def DrawsSaid : Prop := drawsRow.holds Tryz.pinned (OpenSpec.ofChange drawsSpec)

/-- ITS FALSE NEIGHBOUR: 'it returns false'. Refute it at one input. -/
def drawsWrong : ChangeSpec := { name := "draws", fn := fun _ => fun
  | [d] => { results := [.lit (.bool false)], args := [d] }
  | _ => none }
def DrawsWrongFalsely : Prop := drawsRow.holds Tryz.pinned (OpenSpec.ofChange drawsWrong)

/-- 'akinlaw.Reasons': WHATEVER THE INPUT: true; the input reads as it did. -/
def reasonsSpec : ChangeSpec := { name := "reasons", fn := fun _ => fun
  | [d] => { results := [.lit (.bool true)], args := [d] }
  | _ => none }
def reasonsRow : OpenClaim := { program := "ytmfkpllnmmfpiaagreatdoor", sum := "1e1947150a65af96a210a1edc2843afe46d76db69f96bb3008f718d6b93621be", func := "akin/akinlaw.Reasons", spec := "reasons", inPlace := ["internal/bytealg.abigen_runtime_cmpstring"], unfollowed := true, recurses := true, named := ["akin/akin.errnos"], plainKeys := false, apart := false, laid := [("akin/akin.errnos", laid_akin_akin_errnos)] }
def ReasonsSaid : Prop := reasonsRow.holds Tryz.pinned (OpenSpec.ofChange reasonsSpec)

/-- ITS FALSE NEIGHBOUR: 'it returns false'. Refute it at one input. -/
def reasonsWrong : ChangeSpec := { name := "reasons", fn := fun _ => fun
  | [d] => { results := [.lit (.bool false)], args := [d] }
  | _ => none }
def ReasonsWrongFalsely : Prop := reasonsRow.holds Tryz.pinned (OpenSpec.ofChange reasonsWrong)

/-- 'akinlaw.Plays': WHATEVER THE INPUT: true; the input reads as it did. -/
def playsSpec : ChangeSpec := { name := "plays", fn := fun _ => fun
  | [d] => { results := [.lit (.bool true)], args := [d] }
  | _ => none }
def playsRow : OpenClaim := { program := "ytmfkpllnmmfpiaagreatdoor", sum := "1e1947150a65af96a210a1edc2843afe46d76db69f96bb3008f718d6b93621be", func := "akin/akinlaw.Plays", spec := "plays", inPlace := ["internal/bytealg.abigen_runtime_cmpstring"], unfollowed := true, recurses := true, named := ["akin/akin.errnos"], plainKeys := false, apart := false, laid := [("akin/akin.errnos", laid_akin_akin_errnos)] }
def PlaysSaid : Prop := playsRow.holds Tryz.pinned (OpenSpec.ofChange playsSpec)

/-- ITS FALSE NEIGHBOUR: 'it returns false'. Refute it at one input. -/
def playsWrong : ChangeSpec := { name := "plays", fn := fun _ => fun
  | [d] => { results := [.lit (.bool false)], args := [d] }
  | _ => none }
def PlaysWrongFalsely : Prop := playsRow.holds Tryz.pinned (OpenSpec.ofChange playsWrong)

/-- 'akinlaw.Unmade': WHATEVER THE INPUT: true; the input reads as it did. -/
def unmadeSpec : ChangeSpec := { name := "unmade", fn := fun _ => fun
  | [] => { results := [.lit (.bool true)], args := [] }
  | _ => none }
def unmadeRow : OpenClaim := { program := "ytmfkpllnmmfpiaagreatdoor", sum := "1e1947150a65af96a210a1edc2843afe46d76db69f96bb3008f718d6b93621be", func := "akin/akinlaw.Unmade", spec := "unmade", inPlace := ["internal/bytealg.abigen_runtime_cmpstring"], unfollowed := true, recurses := true, named := ["akin/akin.errnos"], plainKeys := false, apart := false, laid := [("akin/akin.errnos", laid_akin_akin_errnos)] }
def UnmadeSaid : Prop := unmadeRow.holds Tryz.pinned (OpenSpec.ofChange unmadeSpec)

/-- ITS FALSE NEIGHBOUR: 'it returns false'. Refute it at one input. -/
def unmadeWrong : ChangeSpec := { name := "unmade", fn := fun _ => fun
  | [] => { results := [.lit (.bool false)], args := [] }
  | _ => none }
def UnmadeWrongFalsely : Prop := unmadeRow.holds Tryz.pinned (OpenSpec.ofChange unmadeWrong)

/-- 'akinlaw.All': WHATEVER THE INPUT: true; the input reads as it did. -/
def allSpec : ChangeSpec := { name := "all", fn := fun _ => fun
  | [d] => { results := [.lit (.bool true)], args := [d] }
  | _ => none }
def allRow : OpenClaim := { program := "ytmfkpllnmmfpiaagreatdoor", sum := "1e1947150a65af96a210a1edc2843afe46d76db69f96bb3008f718d6b93621be", func := "akin/akinlaw.All", spec := "all", inPlace := ["internal/bytealg.abigen_runtime_cmpstring"], unfollowed := true, recurses := true, named := ["akin/akin.errnos"], plainKeys := false, apart := false, laid := [("akin/akin.errnos", laid_akin_akin_errnos)] }
def AllSaid : Prop := allRow.holds Tryz.pinned (OpenSpec.ofChange allSpec)

/-- ITS FALSE NEIGHBOUR: 'it returns false'. Refute it at one input. -/
def allWrong : ChangeSpec := { name := "all", fn := fun _ => fun
  | [d] => { results := [.lit (.bool false)], args := [d] }
  | _ => none }
def AllWrongFalsely : Prop := allRow.holds Tryz.pinned (OpenSpec.ofChange allWrong)

/-- 'akinkeep.Worlds': WHATEVER THE INPUT: true; the input reads as it did. -/
def worldsSpec : ChangeSpec := { name := "worlds", fn := fun _ => fun
  | [d] => { results := [.lit (.bool true)], args := [d] }
  | _ => none }
def worldsRow : OpenClaim := { program := "ytmfkpllnmmfpiaagreatdoor", sum := "1e1947150a65af96a210a1edc2843afe46d76db69f96bb3008f718d6b93621be", func := "akin/akinkeep.Worlds", spec := "worlds", inPlace := ["internal/bytealg.abigen_runtime_cmpstring"], unfollowed := true, recurses := true, named := ["akin/akin.errnos"], plainKeys := false, apart := false, laid := [("akin/akin.errnos", laid_akin_akin_errnos)] }
def WorldsSaid : Prop := worldsRow.holds Tryz.pinned (OpenSpec.ofChange worldsSpec)

/-- ITS FALSE NEIGHBOUR: 'it returns false'. Refute it at one input. -/
def worldsWrong : ChangeSpec := { name := "worlds", fn := fun _ => fun
  | [d] => { results := [.lit (.bool false)], args := [d] }
  | _ => none }
def WorldsWrongFalsely : Prop := worldsRow.holds Tryz.pinned (OpenSpec.ofChange worldsWrong)

/- THE SECOND FORM. 'bulk': how many values and letters a reading holds, each counted each time it is reached (what is shared counts as often as it is met; a slice's spare places count too). A statement '..UptoSaid' is the law's where the arguments, and the package variables that the reading takes, are together of bulk at most 1048576: NARROWER than '..Said'. Prove '..Said' where nothing that the law and all that it calls make is longer than what came in: it says more and counts as full. Else prove '..UptoSaid'. A law counts once. -/
mutual
def uptoBulk {H : Type} : DataW H → Nat
  | .lit (.string bytes) => bytes.length + 1
  | .lit _ => 1
  | .nil => 1
  | .ptr d => uptoBulk d + 1
  | .slice elems spare => uptoBulkAll elems + uptoBulkAll spare + 1
  | .agg parts => uptoBulkAll parts + 1
  | .iface _ d => uptoBulk d + 1
  | .map entries => uptoBulkEntries entries + 1
  | .held _ => 1
def uptoBulkAll {H : Type} : List (DataW H) → Nat
  | [] => 0
  | d :: r => uptoBulk d + uptoBulkAll r
def uptoBulkEntries {H : Type} : List (Lit × DataW H) → Nat
  | [] => 0
  | x :: r => uptoBulkEntry x + uptoBulkEntries r
def uptoBulkEntry {H : Type} : Lit × DataW H → Nat
  | (.string bytes, d) => bytes.length + uptoBulk d + 1
  | (_, d) => uptoBulk d + 1
 end
def uptoSmall : (H : Type) → List (DataW H) → Bool := fun _ ds => decide (uptoBulkAll ds ≤ 1048576)
def OpenSpec.upto (s : _root_.Go.ChangeSpec) : _root_.Go.OpenSpec := { _root_.Go.OpenSpec.ofChange s with cond := some uptoSmall }

/-- 'akinlaw.Draws', WHERE WHAT IT READS IS OF BULK AT MOST 1048576: true; the input reads as it did. -/
def drawsUptoRow : OpenClaim := { program := "ytmfkpllnmmfpiaagreatdoor", sum := "1e1947150a65af96a210a1edc2843afe46d76db69f96bb3008f718d6b93621be", func := "akin/akinlaw.Draws", spec := "draws", inPlace := ["internal/bytealg.abigen_runtime_cmpstring"], unfollowed := true, recurses := true, named := ["akin/akin.errnos"], plainKeys := false, apart := false, laid := [("akin/akin.errnos", laid_akin_akin_errnos)], narrowed := true }
def DrawsUptoSaid : Prop := drawsUptoRow.holds Tryz.pinned (OpenSpec.upto drawsSpec)

/-- 'akinlaw.Reasons', WHERE WHAT IT READS IS OF BULK AT MOST 1048576: true; the input reads as it did. -/
def reasonsUptoRow : OpenClaim := { program := "ytmfkpllnmmfpiaagreatdoor", sum := "1e1947150a65af96a210a1edc2843afe46d76db69f96bb3008f718d6b93621be", func := "akin/akinlaw.Reasons", spec := "reasons", inPlace := ["internal/bytealg.abigen_runtime_cmpstring"], unfollowed := true, recurses := true, named := ["akin/akin.errnos"], plainKeys := false, apart := false, laid := [("akin/akin.errnos", laid_akin_akin_errnos)], narrowed := true }
def ReasonsUptoSaid : Prop := reasonsUptoRow.holds Tryz.pinned (OpenSpec.upto reasonsSpec)

/-- 'akinlaw.Plays', WHERE WHAT IT READS IS OF BULK AT MOST 1048576: true; the input reads as it did. -/
def playsUptoRow : OpenClaim := { program := "ytmfkpllnmmfpiaagreatdoor", sum := "1e1947150a65af96a210a1edc2843afe46d76db69f96bb3008f718d6b93621be", func := "akin/akinlaw.Plays", spec := "plays", inPlace := ["internal/bytealg.abigen_runtime_cmpstring"], unfollowed := true, recurses := true, named := ["akin/akin.errnos"], plainKeys := false, apart := false, laid := [("akin/akin.errnos", laid_akin_akin_errnos)], narrowed := true }
def PlaysUptoSaid : Prop := playsUptoRow.holds Tryz.pinned (OpenSpec.upto playsSpec)

/-- 'akinlaw.Unmade', WHERE WHAT IT READS IS OF BULK AT MOST 1048576: true; the input reads as it did. -/
def unmadeUptoRow : OpenClaim := { program := "ytmfkpllnmmfpiaagreatdoor", sum := "1e1947150a65af96a210a1edc2843afe46d76db69f96bb3008f718d6b93621be", func := "akin/akinlaw.Unmade", spec := "unmade", inPlace := ["internal/bytealg.abigen_runtime_cmpstring"], unfollowed := true, recurses := true, named := ["akin/akin.errnos"], plainKeys := false, apart := false, laid := [("akin/akin.errnos", laid_akin_akin_errnos)], narrowed := true }
def UnmadeUptoSaid : Prop := unmadeUptoRow.holds Tryz.pinned (OpenSpec.upto unmadeSpec)

/-- 'akinlaw.All', WHERE WHAT IT READS IS OF BULK AT MOST 1048576: true; the input reads as it did. -/
def allUptoRow : OpenClaim := { program := "ytmfkpllnmmfpiaagreatdoor", sum := "1e1947150a65af96a210a1edc2843afe46d76db69f96bb3008f718d6b93621be", func := "akin/akinlaw.All", spec := "all", inPlace := ["internal/bytealg.abigen_runtime_cmpstring"], unfollowed := true, recurses := true, named := ["akin/akin.errnos"], plainKeys := false, apart := false, laid := [("akin/akin.errnos", laid_akin_akin_errnos)], narrowed := true }
def AllUptoSaid : Prop := allUptoRow.holds Tryz.pinned (OpenSpec.upto allSpec)

/-- 'akinkeep.Worlds', WHERE WHAT IT READS IS OF BULK AT MOST 1048576: true; the input reads as it did. -/
def worldsUptoRow : OpenClaim := { program := "ytmfkpllnmmfpiaagreatdoor", sum := "1e1947150a65af96a210a1edc2843afe46d76db69f96bb3008f718d6b93621be", func := "akin/akinkeep.Worlds", spec := "worlds", inPlace := ["internal/bytealg.abigen_runtime_cmpstring"], unfollowed := true, recurses := true, named := ["akin/akin.errnos"], plainKeys := false, apart := false, laid := [("akin/akin.errnos", laid_akin_akin_errnos)], narrowed := true }
def WorldsUptoSaid : Prop := worldsUptoRow.holds Tryz.pinned (OpenSpec.upto worldsSpec)

end Rows
end Go.Proofs.YtmfkpllnmmfpiaaGreatDoor
