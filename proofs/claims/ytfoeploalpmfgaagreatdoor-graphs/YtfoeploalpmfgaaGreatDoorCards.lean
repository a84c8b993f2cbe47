/-
  DERIVED. GIVEN WITH THE SEED: THE CARDS: each row of YtfoeploalpmfgaaGreatDoorRows.lean that lists a variable, with what it lists TIED to the program's text (the seventh form; the later family's looks); each row that meets fmt, with fmt's text TOLD by the authors' own Lean function (tested against real Go, not proved from fmt's source: count such statements apart). THE CARD IS WHAT COUNTS. Prove the row's statement (the work); the ties are given (YtfoeploalpmfgaaGreatDoorTie.lean); close each card by the builder's one call (the guide's Derived/Test/ToyasCard.lean, 'card_holds'). Laid BY PROGRAM, IN A SANDBOX (cutbox-door.mjs). By AI agents, Wed Nov 11 2026. No macro, syntax, notation, axiom, sorry.
-/
import Derived.Test.YtfoeploalpmfgaaGreatDoorRows
import GoSem.ClaimSeven
namespace Go.Proofs.YtfoeploalpmfgaaGreatDoor
namespace Rows

/-- THE TIED CARD OF 'dossierlaw.Graphs'. -/
def graphsCard : Claim7 := { stood := { row := graphsRow, standIns := [], harness := (true, "51970e59e56445e48d785de922b401873fdfc062ada84e906b7f8fcd0356d8be"), looks := false }, kinds := [], alts := [], laidByText := true, laidKinds := [.data], laidTests := true, laidLooks := .later }
def GraphsCardSaid : Prop := Claim7.holds Tryz.pinned (.plain (OpenSpec.ofChange graphsSpec)) graphsCard

/-- THE TIED CARD OF 'dossierkeep.Spelt'. -/
def speltCard : Claim7 := { stood := { row := speltRow, standIns := [], harness := (true, "51970e59e56445e48d785de922b401873fdfc062ada84e906b7f8fcd0356d8be"), looks := false }, kinds := [], alts := [], laidByText := true, laidKinds := [.data], laidTests := true, laidLooks := .later }
def SpeltCardSaid : Prop := Claim7.holds Tryz.pinned (.plain (OpenSpec.ofChange speltSpec)) speltCard

/-- THE SECOND FORM's CARD OF 'dossierlaw.Graphs'. -/
def graphsUptoCard : Claim7 := { stood := { row := graphsUptoRow, standIns := [], harness := (true, "51970e59e56445e48d785de922b401873fdfc062ada84e906b7f8fcd0356d8be"), looks := false }, kinds := [], alts := [], laidByText := true, laidKinds := [.data], laidTests := true, laidLooks := .later }
def GraphsUptoCardSaid : Prop := Claim7.holds Tryz.pinned (.plain (OpenSpec.upto graphsSpec)) graphsUptoCard

/-- THE SECOND FORM's CARD OF 'dossierkeep.Spelt'. -/
def speltUptoCard : Claim7 := { stood := { row := speltUptoRow, standIns := [], harness := (true, "51970e59e56445e48d785de922b401873fdfc062ada84e906b7f8fcd0356d8be"), looks := false }, kinds := [], alts := [], laidByText := true, laidKinds := [.data], laidTests := true, laidLooks := .later }
def SpeltUptoCardSaid : Prop := Claim7.holds Tryz.pinned (.plain (OpenSpec.upto speltSpec)) speltUptoCard
end Rows
end Go.Proofs.YtfoeploalpmfgaaGreatDoor
