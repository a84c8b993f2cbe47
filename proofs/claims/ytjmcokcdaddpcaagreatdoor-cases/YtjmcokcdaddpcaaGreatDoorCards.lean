/-
  DERIVED. GIVEN WITH THE SEED: THE CARDS: each row of YtjmcokcdaddpcaaGreatDoorRows.lean that lists a variable, with what it lists TIED to the program's text (the seventh form; the later family's looks); each row that meets fmt, with fmt's text TOLD by the authors' own Lean function (tested against real Go, not proved from fmt's source: count such statements apart). THE CARD IS WHAT COUNTS. Prove the row's statement (the work); the ties are given (YtjmcokcdaddpcaaGreatDoorTie.lean); close each card by the builder's one call (the guide's Derived/Test/ToyasCard.lean, 'card_holds'). Laid BY PROGRAM, IN A SANDBOX (cutbox-door.mjs). By AI agents, Wed Nov 11 2026. No macro, syntax, notation, axiom, sorry.
-/
import Derived.Test.YtjmcokcdaddpcaaGreatDoorRows
import GoSem.ClaimSeven
namespace Go.Proofs.YtjmcokcdaddpcaaGreatDoor
namespace Rows

/-- THE TIED CARD OF 'dossierlaw.Graphs'. -/
def graphsCard : Claim7 := { stood := { row := graphsRow, standIns := [], harness := (true, "efd61c35eb8c26c069bda73e4dc9dbf54e66ce2dd3352651d82541bbd9bfdd0f"), looks := false }, kinds := [], alts := [], goes := true, laidByText := true, laidKinds := [.data], laidTests := true, laidLooks := .later }
def GraphsCardSaid : Prop := Claim7.holds Tryz.pinned (.plain (OpenSpec.ofChange graphsSpec)) graphsCard

/-- THE TIED CARD OF 'dossierlaw.Hashes'. -/
def hashesCard : Claim7 := { stood := { row := hashesRow, standIns := [], harness := (true, "efd61c35eb8c26c069bda73e4dc9dbf54e66ce2dd3352651d82541bbd9bfdd0f"), looks := false }, kinds := [], alts := [], goes := true, laidByText := true, laidKinds := [.data], laidTests := true, laidLooks := .later }
def HashesCardSaid : Prop := Claim7.holds Tryz.pinned (.plain (OpenSpec.ofChange hashesSpec)) hashesCard

/-- THE TIED CARD OF 'dossierlaw.Cases'. -/
def casesCard : Claim7 := { stood := { row := casesRow, standIns := [], harness := (true, "efd61c35eb8c26c069bda73e4dc9dbf54e66ce2dd3352651d82541bbd9bfdd0f"), looks := false }, kinds := [], alts := [], goes := true, laidByText := true, laidKinds := [.data, .data, .data, .data], laidTests := true, laidLooks := .later }
def CasesCardSaid : Prop := Claim7.holds Tryz.pinned (.plain (OpenSpec.ofChange casesSpec)) casesCard

/-- THE TIED CARD OF 'dossierlaw.Logs'. -/
def logsCard : Claim7 := { stood := { row := logsRow, standIns := [], harness := (true, "efd61c35eb8c26c069bda73e4dc9dbf54e66ce2dd3352651d82541bbd9bfdd0f"), looks := false }, kinds := [], alts := [], goes := true, laidByText := true, laidKinds := [.data, .data, .data, .data], laidTests := true, laidLooks := .later }
def LogsCardSaid : Prop := Claim7.holds Tryz.pinned (.plain (OpenSpec.ofChange logsSpec)) logsCard

/-- THE TIED CARD OF 'dossierlaw.Audits'. -/
def auditsCard : Claim7 := { stood := { row := auditsRow, standIns := [], harness := (true, "efd61c35eb8c26c069bda73e4dc9dbf54e66ce2dd3352651d82541bbd9bfdd0f"), looks := false }, kinds := [], alts := [], goes := true, laidByText := true, laidKinds := [.data, .data, .data, .data], laidTests := true, laidLooks := .later }
def AuditsCardSaid : Prop := Claim7.holds Tryz.pinned (.plain (OpenSpec.ofChange auditsSpec)) auditsCard

/-- THE TIED CARD OF 'dossierlaw.All'. -/
def allCard : Claim7 := { stood := { row := allRow, standIns := [], harness := (true, "efd61c35eb8c26c069bda73e4dc9dbf54e66ce2dd3352651d82541bbd9bfdd0f"), looks := false }, kinds := [], alts := [], goes := true, laidByText := true, laidKinds := [.data, .data, .data, .data], laidTests := true, laidLooks := .later }
def AllCardSaid : Prop := Claim7.holds Tryz.pinned (.plain (OpenSpec.ofChange allSpec)) allCard

/-- THE TIED CARD OF 'dossierkeep.Spelt'. -/
def speltCard : Claim7 := { stood := { row := speltRow, standIns := [], harness := (true, "efd61c35eb8c26c069bda73e4dc9dbf54e66ce2dd3352651d82541bbd9bfdd0f"), looks := false }, kinds := [], alts := [], goes := true, laidByText := true, laidKinds := [.data], laidTests := true, laidLooks := .later }
def SpeltCardSaid : Prop := Claim7.holds Tryz.pinned (.plain (OpenSpec.ofChange speltSpec)) speltCard

/-- THE TIED CARD OF 'dossierkeep.Each'. -/
def eachCard : Claim7 := { stood := { row := eachRow, standIns := [], harness := (true, "efd61c35eb8c26c069bda73e4dc9dbf54e66ce2dd3352651d82541bbd9bfdd0f"), looks := false }, kinds := [], alts := [], goes := true, laidByText := true, laidKinds := [.data], laidTests := true, laidLooks := .later }
def EachCardSaid : Prop := Claim7.holds Tryz.pinned (.plain (OpenSpec.ofChange eachSpec)) eachCard

/-- THE TIED CARD OF 'dossierkeep.Held'. -/
def heldCard : Claim7 := { stood := { row := heldRow, standIns := [], harness := (true, "efd61c35eb8c26c069bda73e4dc9dbf54e66ce2dd3352651d82541bbd9bfdd0f"), looks := false }, kinds := [], alts := [], goes := true, laidByText := true, laidKinds := [.data], laidTests := true, laidLooks := .later }
def HeldCardSaid : Prop := Claim7.holds Tryz.pinned (.plain (OpenSpec.ofChange heldSpec)) heldCard

/-- THE TIED CARD OF 'dossierkeep.Nothing'. -/
def nothingCard : Claim7 := { stood := { row := nothingRow, standIns := [], harness := (true, "efd61c35eb8c26c069bda73e4dc9dbf54e66ce2dd3352651d82541bbd9bfdd0f"), looks := false }, kinds := [], alts := [], goes := true, laidByText := true, laidKinds := [.data], laidTests := true, laidLooks := .later }
def NothingCardSaid : Prop := Claim7.holds Tryz.pinned (.plain (OpenSpec.ofChange nothingSpec)) nothingCard

/-- THE TIED CARD OF 'dossierkeep.Kept'. -/
def keptCard : Claim7 := { stood := { row := keptRow, standIns := [], harness := (true, "efd61c35eb8c26c069bda73e4dc9dbf54e66ce2dd3352651d82541bbd9bfdd0f"), looks := false }, kinds := [], alts := [], goes := true, laidByText := true, laidKinds := [.data], laidTests := true, laidLooks := .later }
def KeptCardSaid : Prop := Claim7.holds Tryz.pinned (.plain (OpenSpec.ofChange keptSpec)) keptCard

/-- THE TIED CARD OF 'dossierkeep.Cut'. -/
def cutCard : Claim7 := { stood := { row := cutRow, standIns := [], harness := (true, "efd61c35eb8c26c069bda73e4dc9dbf54e66ce2dd3352651d82541bbd9bfdd0f"), looks := false }, kinds := [], alts := [], goes := true, laidByText := true, laidKinds := [.data], laidTests := true, laidLooks := .later }
def CutCardSaid : Prop := Claim7.holds Tryz.pinned (.plain (OpenSpec.ofChange cutSpec)) cutCard

/-- THE SECOND FORM's CARD OF 'dossierlaw.Graphs'. -/
def graphsUptoCard : Claim7 := { stood := { row := graphsUptoRow, standIns := [], harness := (true, "efd61c35eb8c26c069bda73e4dc9dbf54e66ce2dd3352651d82541bbd9bfdd0f"), looks := false }, kinds := [], alts := [], goes := true, laidByText := true, laidKinds := [.data], laidTests := true, laidLooks := .later }
def GraphsUptoCardSaid : Prop := Claim7.holds Tryz.pinned (.plain (OpenSpec.upto graphsSpec)) graphsUptoCard

/-- THE SECOND FORM's CARD OF 'dossierlaw.Hashes'. -/
def hashesUptoCard : Claim7 := { stood := { row := hashesUptoRow, standIns := [], harness := (true, "efd61c35eb8c26c069bda73e4dc9dbf54e66ce2dd3352651d82541bbd9bfdd0f"), looks := false }, kinds := [], alts := [], goes := true, laidByText := true, laidKinds := [.data], laidTests := true, laidLooks := .later }
def HashesUptoCardSaid : Prop := Claim7.holds Tryz.pinned (.plain (OpenSpec.upto hashesSpec)) hashesUptoCard

/-- THE SECOND FORM's CARD OF 'dossierlaw.Cases'. -/
def casesUptoCard : Claim7 := { stood := { row := casesUptoRow, standIns := [], harness := (true, "efd61c35eb8c26c069bda73e4dc9dbf54e66ce2dd3352651d82541bbd9bfdd0f"), looks := false }, kinds := [], alts := [], goes := true, laidByText := true, laidKinds := [.data, .data, .data, .data], laidTests := true, laidLooks := .later }
def CasesUptoCardSaid : Prop := Claim7.holds Tryz.pinned (.plain (OpenSpec.upto casesSpec)) casesUptoCard

/-- THE SECOND FORM's CARD OF 'dossierlaw.Logs'. -/
def logsUptoCard : Claim7 := { stood := { row := logsUptoRow, standIns := [], harness := (true, "efd61c35eb8c26c069bda73e4dc9dbf54e66ce2dd3352651d82541bbd9bfdd0f"), looks := false }, kinds := [], alts := [], goes := true, laidByText := true, laidKinds := [.data, .data, .data, .data], laidTests := true, laidLooks := .later }
def LogsUptoCardSaid : Prop := Claim7.holds Tryz.pinned (.plain (OpenSpec.upto logsSpec)) logsUptoCard

/-- THE SECOND FORM's CARD OF 'dossierlaw.Audits'. -/
def auditsUptoCard : Claim7 := { stood := { row := auditsUptoRow, standIns := [], harness := (true, "efd61c35eb8c26c069bda73e4dc9dbf54e66ce2dd3352651d82541bbd9bfdd0f"), looks := false }, kinds := [], alts := [], goes := true, laidByText := true, laidKinds := [.data, .data, .data, .data], laidTests := true, laidLooks := .later }
def AuditsUptoCardSaid : Prop := Claim7.holds Tryz.pinned (.plain (OpenSpec.upto auditsSpec)) auditsUptoCard

/-- THE SECOND FORM's CARD OF 'dossierlaw.All'. -/
def allUptoCard : Claim7 := { stood := { row := allUptoRow, standIns := [], harness := (true, "efd61c35eb8c26c069bda73e4dc9dbf54e66ce2dd3352651d82541bbd9bfdd0f"), looks := false }, kinds := [], alts := [], goes := true, laidByText := true, laidKinds := [.data, .data, .data, .data], laidTests := true, laidLooks := .later }
def AllUptoCardSaid : Prop := Claim7.holds Tryz.pinned (.plain (OpenSpec.upto allSpec)) allUptoCard

/-- THE SECOND FORM's CARD OF 'dossierkeep.Spelt'. -/
def speltUptoCard : Claim7 := { stood := { row := speltUptoRow, standIns := [], harness := (true, "efd61c35eb8c26c069bda73e4dc9dbf54e66ce2dd3352651d82541bbd9bfdd0f"), looks := false }, kinds := [], alts := [], goes := true, laidByText := true, laidKinds := [.data], laidTests := true, laidLooks := .later }
def SpeltUptoCardSaid : Prop := Claim7.holds Tryz.pinned (.plain (OpenSpec.upto speltSpec)) speltUptoCard

/-- THE SECOND FORM's CARD OF 'dossierkeep.Each'. -/
def eachUptoCard : Claim7 := { stood := { row := eachUptoRow, standIns := [], harness := (true, "efd61c35eb8c26c069bda73e4dc9dbf54e66ce2dd3352651d82541bbd9bfdd0f"), looks := false }, kinds := [], alts := [], goes := true, laidByText := true, laidKinds := [.data], laidTests := true, laidLooks := .later }
def EachUptoCardSaid : Prop := Claim7.holds Tryz.pinned (.plain (OpenSpec.upto eachSpec)) eachUptoCard

/-- THE SECOND FORM's CARD OF 'dossierkeep.Held'. -/
def heldUptoCard : Claim7 := { stood := { row := heldUptoRow, standIns := [], harness := (true, "efd61c35eb8c26c069bda73e4dc9dbf54e66ce2dd3352651d82541bbd9bfdd0f"), looks := false }, kinds := [], alts := [], goes := true, laidByText := true, laidKinds := [.data], laidTests := true, laidLooks := .later }
def HeldUptoCardSaid : Prop := Claim7.holds Tryz.pinned (.plain (OpenSpec.upto heldSpec)) heldUptoCard

/-- THE SECOND FORM's CARD OF 'dossierkeep.Nothing'. -/
def nothingUptoCard : Claim7 := { stood := { row := nothingUptoRow, standIns := [], harness := (true, "efd61c35eb8c26c069bda73e4dc9dbf54e66ce2dd3352651d82541bbd9bfdd0f"), looks := false }, kinds := [], alts := [], goes := true, laidByText := true, laidKinds := [.data], laidTests := true, laidLooks := .later }
def NothingUptoCardSaid : Prop := Claim7.holds Tryz.pinned (.plain (OpenSpec.upto nothingSpec)) nothingUptoCard

/-- THE SECOND FORM's CARD OF 'dossierkeep.Kept'. -/
def keptUptoCard : Claim7 := { stood := { row := keptUptoRow, standIns := [], harness := (true, "efd61c35eb8c26c069bda73e4dc9dbf54e66ce2dd3352651d82541bbd9bfdd0f"), looks := false }, kinds := [], alts := [], goes := true, laidByText := true, laidKinds := [.data], laidTests := true, laidLooks := .later }
def KeptUptoCardSaid : Prop := Claim7.holds Tryz.pinned (.plain (OpenSpec.upto keptSpec)) keptUptoCard

/-- THE SECOND FORM's CARD OF 'dossierkeep.Cut'. -/
def cutUptoCard : Claim7 := { stood := { row := cutUptoRow, standIns := [], harness := (true, "efd61c35eb8c26c069bda73e4dc9dbf54e66ce2dd3352651d82541bbd9bfdd0f"), looks := false }, kinds := [], alts := [], goes := true, laidByText := true, laidKinds := [.data], laidTests := true, laidLooks := .later }
def CutUptoCardSaid : Prop := Claim7.holds Tryz.pinned (.plain (OpenSpec.upto cutSpec)) cutUptoCard
end Rows
end Go.Proofs.YtjmcokcdaddpcaaGreatDoor
