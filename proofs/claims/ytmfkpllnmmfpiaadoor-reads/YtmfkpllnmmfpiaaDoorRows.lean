/-
  NARROWER THAN 'FOR EVERY INPUT', by the rows' own cells (each row's printed sentence says how): Reads: laid · Chains: laid · Powers: laid · Sound: laid · Taken: laid.
  DERIVED. THE GIVEN ROWS OF THIS SEAT. 5 by the template 'for every input the law returns true; each argument reads behind the call as it read before'; 0 by the template 'total and deterministic' (their statements: YtmfkpllnmmfpiaaDoorTotals.lean).
  GIVEN WITH THE SEED: the statements are not yours to turn. If you find one false, say at which input.
  Laid BY PROGRAM, IN A SANDBOX (cutbox-rows.mjs): the forced cells as the released guide's own fill.sh prints them over the translation 129d466658f60131… (all of the seat's roots in one cut). By AI agents, Wed Nov 11 2026. No macro, syntax, notation, axiom, sorry.
-/
import Derived.Test.YtmfkpllnmmfpiaaDoorChecked
import GoSem.Claim
import GoSem.ClaimJoined
import GoSem.ClaimMapViews
import Derived.JoinedTies
import Derived.KernelRfl
namespace Go.Proofs.YtmfkpllnmmfpiaaDoor
/- THE CELL 'sum', in the pinned program and in every row, IS THE sha256 OF THE DUMP (.gsa) THAT YtmfkpllnmmfpiaaDoorProg.lean LOADS. Nothing in Lean hashes anything: it is a label: what it is worth is what the hold of that sum in a sandbox is worth. -/
noncomputable def Tryd.pinned : Pinned := { name := "ytmfkpllnmmfpiaadoor", sum := "129d466658f601314b9b3674f412f8c596bb6a4e32c11ad55debd421030abac7", checked := Tryd.checked }
namespace Rows
def none {H : Type} : Left H := { results := [], args := [] }

/- WHAT THE LISTED PACKAGE-LEVEL VARIABLES READ AS WHEN THE CALL BEGINS. Each datum BY PROGRAM (the guide's laid-datum.mjs) off the statement by which the dump's own 'gosem.cut.vars' lays the variable. In a bare row this is a premise. The card (YtmfkpllnmmfpiaaDoorCards.lean) ties it to the program's text. -/
def laid_akin_akin_errnos {H : Type} : DataW H := .agg [.lit (.int .i64 0), .lit (.int .i64 1), .lit (.int .i64 2), .lit (.int .i64 3), .lit (.int .i64 3), .lit (.int .i64 3)]

/-- 'akinlaw.Reads': WHATEVER THE INPUT: true; the input reads as it did. -/
def readsSpec : ChangeSpec := { name := "reads", fn := fun _ => fun
  | [d] => { results := [.lit (.bool true)], args := [d] }
  | _ => none }
def readsRow : OpenClaim := { program := "ytmfkpllnmmfpiaadoor", sum := "129d466658f601314b9b3674f412f8c596bb6a4e32c11ad55debd421030abac7", func := "akin/akinlaw.Reads", spec := "reads", unfollowed := true, recurses := true, named := ["akin/akin.errnos"], plainKeys := false, apart := false, laid := [("akin/akin.errnos", laid_akin_akin_errnos)] }
def ReadsSaid : Prop := readsRow.holds Tryd.pinned (OpenSpec.ofChange readsSpec)

/-- ITS FALSE NEIGHBOUR: 'it returns false'. Refute it at one input. -/
def readsWrong : ChangeSpec := { name := "reads", fn := fun _ => fun
  | [d] => { results := [.lit (.bool false)], args := [d] }
  | _ => none }
def ReadsWrongFalsely : Prop := readsRow.holds Tryd.pinned (OpenSpec.ofChange readsWrong)

/-- 'akinkeep.Chains': WHATEVER THE INPUT: true; the input reads as it did. -/
def chainsSpec : ChangeSpec := { name := "chains", fn := fun _ => fun
  | [d1, d2, d3] => { results := [.lit (.bool true)], args := [d1, d2, d3] }
  | _ => none }
def chainsRow : OpenClaim := { program := "ytmfkpllnmmfpiaadoor", sum := "129d466658f601314b9b3674f412f8c596bb6a4e32c11ad55debd421030abac7", func := "akin/akinkeep.Chains", spec := "chains", unfollowed := true, recurses := true, named := ["akin/akin.errnos"], plainKeys := false, apart := false, laid := [("akin/akin.errnos", laid_akin_akin_errnos)] }
def ChainsSaid : Prop := chainsRow.holds Tryd.pinned (OpenSpec.ofChange chainsSpec)

/-- ITS FALSE NEIGHBOUR: 'it returns false'. Refute it at one input. -/
def chainsWrong : ChangeSpec := { name := "chains", fn := fun _ => fun
  | [d1, d2, d3] => { results := [.lit (.bool false)], args := [d1, d2, d3] }
  | _ => none }
def ChainsWrongFalsely : Prop := chainsRow.holds Tryd.pinned (OpenSpec.ofChange chainsWrong)

/-- 'akinkeep.Powers': WHATEVER THE INPUT: true; the input reads as it did. -/
def powersSpec : ChangeSpec := { name := "powers", fn := fun _ => fun
  | [d1, d2, d3] => { results := [.lit (.bool true)], args := [d1, d2, d3] }
  | _ => none }
def powersRow : OpenClaim := { program := "ytmfkpllnmmfpiaadoor", sum := "129d466658f601314b9b3674f412f8c596bb6a4e32c11ad55debd421030abac7", func := "akin/akinkeep.Powers", spec := "powers", unfollowed := true, recurses := true, named := ["akin/akin.errnos"], plainKeys := false, apart := false, laid := [("akin/akin.errnos", laid_akin_akin_errnos)] }
def PowersSaid : Prop := powersRow.holds Tryd.pinned (OpenSpec.ofChange powersSpec)

/-- ITS FALSE NEIGHBOUR: 'it returns false'. Refute it at one input. -/
def powersWrong : ChangeSpec := { name := "powers", fn := fun _ => fun
  | [d1, d2, d3] => { results := [.lit (.bool false)], args := [d1, d2, d3] }
  | _ => none }
def PowersWrongFalsely : Prop := powersRow.holds Tryd.pinned (OpenSpec.ofChange powersWrong)

/-- 'akinkeep.Sound': WHATEVER THE INPUT: true; the input reads as it did. -/
def soundSpec : ChangeSpec := { name := "sound", fn := fun _ => fun
  | [d1, d2] => { results := [.lit (.bool true)], args := [d1, d2] }
  | _ => none }
def soundRow : OpenClaim := { program := "ytmfkpllnmmfpiaadoor", sum := "129d466658f601314b9b3674f412f8c596bb6a4e32c11ad55debd421030abac7", func := "akin/akinkeep.Sound", spec := "sound", unfollowed := true, recurses := true, named := ["akin/akin.errnos"], plainKeys := false, apart := false, laid := [("akin/akin.errnos", laid_akin_akin_errnos)] }
def SoundSaid : Prop := soundRow.holds Tryd.pinned (OpenSpec.ofChange soundSpec)

/-- ITS FALSE NEIGHBOUR: 'it returns false'. Refute it at one input. -/
def soundWrong : ChangeSpec := { name := "sound", fn := fun _ => fun
  | [d1, d2] => { results := [.lit (.bool false)], args := [d1, d2] }
  | _ => none }
def SoundWrongFalsely : Prop := soundRow.holds Tryd.pinned (OpenSpec.ofChange soundWrong)

/-- 'akinkeep.Taken': WHATEVER THE INPUT: true; the input reads as it did. -/
def takenSpec : ChangeSpec := { name := "taken", fn := fun _ => fun
  | [d1, d2, d3] => { results := [.lit (.bool true)], args := [d1, d2, d3] }
  | _ => none }
def takenRow : OpenClaim := { program := "ytmfkpllnmmfpiaadoor", sum := "129d466658f601314b9b3674f412f8c596bb6a4e32c11ad55debd421030abac7", func := "akin/akinkeep.Taken", spec := "taken", inPlace := ["internal/bytealg.abigen_runtime_cmpstring"], unfollowed := true, recurses := true, named := ["akin/akin.errnos"], plainKeys := false, apart := false, laid := [("akin/akin.errnos", laid_akin_akin_errnos)] }
def TakenSaid : Prop := takenRow.holds Tryd.pinned (OpenSpec.ofChange takenSpec)

/-- ITS FALSE NEIGHBOUR: 'it returns false'. Refute it at one input. -/
def takenWrong : ChangeSpec := { name := "taken", fn := fun _ => fun
  | [d1, d2, d3] => { results := [.lit (.bool false)], args := [d1, d2, d3] }
  | _ => none }
def TakenWrongFalsely : Prop := takenRow.holds Tryd.pinned (OpenSpec.ofChange takenWrong)

/- THE SECOND FORM. 'bulk': how many values and letters a reading holds, each counted each time it is reached (what is shared counts as often as it is met; a slice's spare places count too). A statement '..UptoSaid' is the law's where the arguments, and the package variables that the reading takes, are together of bulk at most 1048576: NARROWER than '..Said'. Prove '..Said' where nothing that the law and all that it calls make is longer than what came in: it says more and counts as full. Else prove '..UptoSaid'. A law counts once. -/
mutual
def uptoBulk {H : Type} : DataW H → Nat
  | .lit (.string bytes) => bytes.length + 1
  | .lit _ => 1
  | .nil => 1
  | .ptr d => uptoBulk d + 1
  | .slice elems spare => uptoBulkAll elems + uptoBulkAll spare + 1
  | .agg parts => uptoBulkAll parts + 1
  | .iface _ d => uptoBulk d + 1
  | .map entries => uptoBulkEntries entries + 1
  | .held _ => 1
def uptoBulkAll {H : Type} : List (DataW H) → Nat
  | [] => 0
  | d :: r => uptoBulk d + uptoBulkAll r
def uptoBulkEntries {H : Type} : List (Lit × DataW H) → Nat
  | [] => 0
  | x :: r => uptoBulkEntry x + uptoBulkEntries r
def uptoBulkEntry {H : Type} : Lit × DataW H → Nat
  | (.string bytes, d) => bytes.length + uptoBulk d + 1
  | (_, d) => uptoBulk d + 1
 end
def uptoSmall : (H : Type) → List (DataW H) → Bool := fun _ ds => decide (uptoBulkAll ds ≤ 1048576)
def OpenSpec.upto (s : _root_.Go.ChangeSpec) : _root_.Go.OpenSpec := { _root_.Go.OpenSpec.ofChange s with cond := some uptoSmall }

/-- 'akinlaw.Reads', WHERE WHAT IT READS IS OF BULK AT MOST 1048576: true; the input reads as it did. -/
def readsUptoRow : OpenClaim := { program := "ytmfkpllnmmfpiaadoor", sum := "129d466658f601314b9b3674f412f8c596bb6a4e32c11ad55debd421030abac7", func := "akin/akinlaw.Reads", spec := "reads", unfollowed := true, recurses := true, named := ["akin/akin.errnos"], plainKeys := false, apart := false, laid := [("akin/akin.errnos", laid_akin_akin_errnos)], narrowed := true }
def ReadsUptoSaid : Prop := readsUptoRow.holds Tryd.pinned (OpenSpec.upto readsSpec)

/-- 'akinkeep.Chains', WHERE WHAT IT READS IS OF BULK AT MOST 1048576: true; the input reads as it did. -/
def chainsUptoRow : OpenClaim := { program := "ytmfkpllnmmfpiaadoor", sum := "129d466658f601314b9b3674f412f8c596bb6a4e32c11ad55debd421030abac7", func := "akin/akinkeep.Chains", spec := "chains", unfollowed := true, recurses := true, named := ["akin/akin.errnos"], plainKeys := false, apart := false, laid := [("akin/akin.errnos", laid_akin_akin_errnos)], narrowed := true }
def ChainsUptoSaid : Prop := chainsUptoRow.holds Tryd.pinned (OpenSpec.upto chainsSpec)

/-- 'akinkeep.Powers', WHERE WHAT IT READS IS OF BULK AT MOST 1048576: true; the input reads as it did. -/
def powersUptoRow : OpenClaim := { program := "ytmfkpllnmmfpiaadoor", sum := "129d466658f601314b9b3674f412f8c596bb6a4e32c11ad55debd421030abac7", func := "akin/akinkeep.Powers", spec := "powers", unfollowed := true, recurses := true, named := ["akin/akin.errnos"], plainKeys := false, apart := false, laid := [("akin/akin.errnos", laid_akin_akin_errnos)], narrowed := true }
def PowersUptoSaid : Prop := powersUptoRow.holds Tryd.pinned (OpenSpec.upto powersSpec)

/-- 'akinkeep.Sound', WHERE WHAT IT READS IS OF BULK AT MOST 1048576: true; the input reads as it did. -/
def soundUptoRow : OpenClaim := { program := "ytmfkpllnmmfpiaadoor", sum := "129d466658f601314b9b3674f412f8c596bb6a4e32c11ad55debd421030abac7", func := "akin/akinkeep.Sound", spec := "sound", unfollowed := true, recurses := true, named := ["akin/akin.errnos"], plainKeys := false, apart := false, laid := [("akin/akin.errnos", laid_akin_akin_errnos)], narrowed := true }
def SoundUptoSaid : Prop := soundUptoRow.holds Tryd.pinned (OpenSpec.upto soundSpec)

/-- 'akinkeep.Taken', WHERE WHAT IT READS IS OF BULK AT MOST 1048576: true; the input reads as it did. -/
def takenUptoRow : OpenClaim := { program := "ytmfkpllnmmfpiaadoor", sum := "129d466658f601314b9b3674f412f8c596bb6a4e32c11ad55debd421030abac7", func := "akin/akinkeep.Taken", spec := "taken", inPlace := ["internal/bytealg.abigen_runtime_cmpstring"], unfollowed := true, recurses := true, named := ["akin/akin.errnos"], plainKeys := false, apart := false, laid := [("akin/akin.errnos", laid_akin_akin_errnos)], narrowed := true }
def TakenUptoSaid : Prop := takenUptoRow.holds Tryd.pinned (OpenSpec.upto takenSpec)

end Rows
end Go.Proofs.YtmfkpllnmmfpiaaDoor
