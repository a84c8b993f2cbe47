/-
  NARROWER THAN 'FOR EVERY INPUT', by the rows' own cells (each row's printed sentence says how): Graphs: laid · Spelt: laid.
  DERIVED. THE GIVEN ROWS OF THIS SEAT. 2 by the template 'for every input the law returns true; each argument reads behind the call as it read before'; 0 by the template 'total and deterministic' (their statements: YtfoeploalpmfgaaGreatDoorTotals.lean).
  GIVEN WITH THE SEED: the statements are not yours to turn. If you find one false, say at which input.
  Laid BY PROGRAM, IN A SANDBOX (cutbox-rows.mjs): the forced cells as the released guide's own fill.sh prints them over the translation 82330166557bf483… (all of the seat's roots in one cut). By AI agents, Wed Nov 11 2026. No macro, syntax, notation, axiom, sorry.
-/
import Derived.Test.YtfoeploalpmfgaaGreatDoorChecked
import GoSem.Claim
import GoSem.ClaimJoined
import GoSem.ClaimMapViews
import Derived.JoinedTies
import Derived.KernelRfl
namespace Go.Proofs.YtfoeploalpmfgaaGreatDoor
/- THE CELL 'sum', in the pinned program and in every row, IS THE sha256 OF THE DUMP (.gsa) THAT YtfoeploalpmfgaaGreatDoorProg.lean LOADS. Nothing in Lean hashes anything: it is a label: what it is worth is what the hold of that sum in a sandbox is worth. -/
noncomputable def Tryz.pinned : Pinned := { name := "ytfoeploalpmfgaagreatdoor", sum := "82330166557bf483079576c7c8a20b7f70498038d2cf2dd2cd4299f41d721392", checked := Tryz.checked }
namespace Rows
def none {H : Type} : Left H := { results := [], args := [] }

/- WHAT THE LISTED PACKAGE-LEVEL VARIABLES READ AS WHEN THE CALL BEGINS. Each datum BY PROGRAM (the guide's laid-datum.mjs) off the statement by which the dump's own 'gosem.cut.vars' lays the variable. In a bare row this is a premise. The card (YtfoeploalpmfgaaGreatDoorCards.lean) ties it to the program's text. -/
def laid_dossier_graphs_signs {H : Type} : DataW H := .agg [.lit (.string [45, 62, 42]), .lit (.string [45, 62, 60, 62]), .lit (.string [42, 45, 62]), .lit (.string [45, 62, 43]), .lit (.string [45, 62, 37])]

/-- 'dossierlaw.Graphs': WHATEVER THE INPUT: true; the input reads as it did. -/
def graphsSpec : ChangeSpec := { name := "graphs", fn := fun _ => fun
  | [d] => { results := [.lit (.bool true)], args := [d] }
  | _ => none }
def graphsRow : OpenClaim := { program := "ytfoeploalpmfgaagreatdoor", sum := "82330166557bf483079576c7c8a20b7f70498038d2cf2dd2cd4299f41d721392", func := "dossier/dossierlaw.Graphs", spec := "graphs", inPlace := ["internal/bytealg.abigen_runtime_cmpstring", "internal/abi.NoEscape", "internal/bytealg.MakeNoZero"], unfollowed := true, recurses := true, named := ["dossier/graphs.signs"], apart := false, laid := [("dossier/graphs.signs", laid_dossier_graphs_signs)] }
def GraphsSaid : Prop := graphsRow.holds Tryz.pinned (OpenSpec.ofChange graphsSpec)

/-- ITS FALSE NEIGHBOUR: 'it returns false'. Refute it at one input. -/
def graphsWrong : ChangeSpec := { name := "graphs", fn := fun _ => fun
  | [d] => { results := [.lit (.bool false)], args := [d] }
  | _ => none }
def GraphsWrongFalsely : Prop := graphsRow.holds Tryz.pinned (OpenSpec.ofChange graphsWrong)

/-- 'dossierkeep.Spelt': WHATEVER THE INPUT: true; the input reads as it did. -/
def speltSpec : ChangeSpec := { name := "spelt", fn := fun _ => fun
  | [d1, d2, d3] => { results := [.lit (.bool true)], args := [d1, d2, d3] }
  | _ => none }
def speltRow : OpenClaim := { program := "ytfoeploalpmfgaagreatdoor", sum := "82330166557bf483079576c7c8a20b7f70498038d2cf2dd2cd4299f41d721392", func := "dossier/dossierkeep.Spelt", spec := "spelt", inPlace := ["internal/bytealg.abigen_runtime_cmpstring", "internal/abi.NoEscape", "internal/bytealg.MakeNoZero"], unfollowed := true, recurses := true, named := ["dossier/graphs.signs"], apart := false, laid := [("dossier/graphs.signs", laid_dossier_graphs_signs)] }
def SpeltSaid : Prop := speltRow.holds Tryz.pinned (OpenSpec.ofChange speltSpec)

/-- ITS FALSE NEIGHBOUR: 'it returns false'. Refute it at one input. -/
def speltWrong : ChangeSpec := { name := "spelt", fn := fun _ => fun
  | [d1, d2, d3] => { results := [.lit (.bool false)], args := [d1, d2, d3] }
  | _ => none }
def SpeltWrongFalsely : Prop := speltRow.holds Tryz.pinned (OpenSpec.ofChange speltWrong)

/- THE SECOND FORM. 'bulk': how many values and letters a reading holds, each counted each time it is reached (what is shared counts as often as it is met; a slice's spare places count too). A statement '..UptoSaid' is the law's where the arguments, and the package variables that the reading takes, are together of bulk at most 1048576: NARROWER than '..Said'. Prove '..Said' where nothing that the law and all that it calls make is longer than what came in: it says more and counts as full. Else prove '..UptoSaid'. A law counts once. -/
mutual
def uptoBulk {H : Type} : DataW H → Nat
  | .lit (.string bytes) => bytes.length + 1
  | .lit _ => 1
  | .nil => 1
  | .ptr d => uptoBulk d + 1
  | .slice elems spare => uptoBulkAll elems + uptoBulkAll spare + 1
  | .agg parts => uptoBulkAll parts + 1
  | .iface _ d => uptoBulk d + 1
  | .map entries => uptoBulkEntries entries + 1
  | .held _ => 1
def uptoBulkAll {H : Type} : List (DataW H) → Nat
  | [] => 0
  | d :: r => uptoBulk d + uptoBulkAll r
def uptoBulkEntries {H : Type} : List (Lit × DataW H) → Nat
  | [] => 0
  | x :: r => uptoBulkEntry x + uptoBulkEntries r
def uptoBulkEntry {H : Type} : Lit × DataW H → Nat
  | (.string bytes, d) => bytes.length + uptoBulk d + 1
  | (_, d) => uptoBulk d + 1
 end
def uptoSmall : (H : Type) → List (DataW H) → Bool := fun _ ds => decide (uptoBulkAll ds ≤ 1048576)
def OpenSpec.upto (s : _root_.Go.ChangeSpec) : _root_.Go.OpenSpec := { _root_.Go.OpenSpec.ofChange s with cond := some uptoSmall }

/-- 'dossierlaw.Graphs', WHERE WHAT IT READS IS OF BULK AT MOST 1048576: true; the input reads as it did. -/
def graphsUptoRow : OpenClaim := { program := "ytfoeploalpmfgaagreatdoor", sum := "82330166557bf483079576c7c8a20b7f70498038d2cf2dd2cd4299f41d721392", func := "dossier/dossierlaw.Graphs", spec := "graphs", inPlace := ["internal/bytealg.abigen_runtime_cmpstring", "internal/abi.NoEscape", "internal/bytealg.MakeNoZero"], unfollowed := true, recurses := true, named := ["dossier/graphs.signs"], apart := false, laid := [("dossier/graphs.signs", laid_dossier_graphs_signs)], narrowed := true }
def GraphsUptoSaid : Prop := graphsUptoRow.holds Tryz.pinned (OpenSpec.upto graphsSpec)

/-- 'dossierkeep.Spelt', WHERE WHAT IT READS IS OF BULK AT MOST 1048576: true; the input reads as it did. -/
def speltUptoRow : OpenClaim := { program := "ytfoeploalpmfgaagreatdoor", sum := "82330166557bf483079576c7c8a20b7f70498038d2cf2dd2cd4299f41d721392", func := "dossier/dossierkeep.Spelt", spec := "spelt", inPlace := ["internal/bytealg.abigen_runtime_cmpstring", "internal/abi.NoEscape", "internal/bytealg.MakeNoZero"], unfollowed := true, recurses := true, named := ["dossier/graphs.signs"], apart := false, laid := [("dossier/graphs.signs", laid_dossier_graphs_signs)], narrowed := true }
def SpeltUptoSaid : Prop := speltUptoRow.holds Tryz.pinned (OpenSpec.upto speltSpec)

end Rows
end Go.Proofs.YtfoeploalpmfgaaGreatDoor
