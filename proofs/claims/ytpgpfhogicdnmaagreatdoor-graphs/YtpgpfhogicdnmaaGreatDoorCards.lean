/-
  DERIVED. GIVEN WITH THE SEED: THE CARDS: each row of YtpgpfhogicdnmaaGreatDoorRows.lean that lists a variable, with what it lists TIED to the program's text (the seventh form; the later family's looks); each row that meets fmt, with fmt's text TOLD by the authors' own Lean function (tested against real Go, not proved from fmt's source: count such statements apart). THE CARD IS WHAT COUNTS. Prove the row's statement (the work); the ties are given (YtpgpfhogicdnmaaGreatDoorTie.lean); close each card by the builder's one call (the guide's Derived/Test/ToyasCard.lean, 'card_holds'). Laid BY PROGRAM, IN A SANDBOX (cutbox-door.mjs). By AI agents, Wed Nov 11 2026. No macro, syntax, notation, axiom, sorry.
-/
import Derived.Test.YtpgpfhogicdnmaaGreatDoorRows
import GoSem.ClaimSeven
namespace Go.Proofs.YtpgpfhogicdnmaaGreatDoor
namespace Rows

/-- THE TIED CARD OF 'dossierlaw.Graphs'. -/
def graphsCard : Claim7 := { stood := { row := graphsRow, standIns := [], harness := (true, "ab0f2f73d44d86085653738a339aae294728edf727bdcd6747aeac3aabacee36"), looks := false }, kinds := [], alts := [], laidByText := true, laidKinds := [.data], laidTests := true, laidLooks := .later }
def GraphsCardSaid : Prop := Claim7.holds Tryz.pinned (.plain (OpenSpec.ofChange graphsSpec)) graphsCard

/-- THE TIED CARD OF 'dossierlaw.Hashes'. -/
def hashesCard : Claim7 := { stood := { row := hashesRow, standIns := [], harness := (true, "ab0f2f73d44d86085653738a339aae294728edf727bdcd6747aeac3aabacee36"), looks := false }, kinds := [], alts := [], laidByText := true, laidKinds := [.data], laidTests := true, laidLooks := .later }
def HashesCardSaid : Prop := Claim7.holds Tryz.pinned (.plain (OpenSpec.ofChange hashesSpec)) hashesCard

/-- THE TIED CARD OF 'dossierlaw.Cases'. -/
def casesCard : Claim7 := { stood := { row := casesRow, standIns := [], harness := (true, "ab0f2f73d44d86085653738a339aae294728edf727bdcd6747aeac3aabacee36"), looks := false }, kinds := [], alts := [], laidByText := true, laidKinds := [.data, .data, .data, .data], laidTests := true, laidLooks := .later }
def CasesCardSaid : Prop := Claim7.holds Tryz.pinned (.plain (OpenSpec.ofChange casesSpec)) casesCard

/-- THE TIED CARD OF 'dossierkeep.Spelt'. -/
def speltCard : Claim7 := { stood := { row := speltRow, standIns := [], harness := (true, "ab0f2f73d44d86085653738a339aae294728edf727bdcd6747aeac3aabacee36"), looks := false }, kinds := [], alts := [], laidByText := true, laidKinds := [.data], laidTests := true, laidLooks := .later }
def SpeltCardSaid : Prop := Claim7.holds Tryz.pinned (.plain (OpenSpec.ofChange speltSpec)) speltCard

/-- THE TIED CARD OF 'dossierkeep.Each'. -/
def eachCard : Claim7 := { stood := { row := eachRow, standIns := [], harness := (true, "ab0f2f73d44d86085653738a339aae294728edf727bdcd6747aeac3aabacee36"), looks := false }, kinds := [], alts := [], laidByText := true, laidKinds := [.data], laidTests := true, laidLooks := .later }
def EachCardSaid : Prop := Claim7.holds Tryz.pinned (.plain (OpenSpec.ofChange eachSpec)) eachCard

/-- THE TIED CARD OF 'dossierkeep.Held'. -/
def heldCard : Claim7 := { stood := { row := heldRow, standIns := [], harness := (true, "ab0f2f73d44d86085653738a339aae294728edf727bdcd6747aeac3aabacee36"), looks := false }, kinds := [], alts := [], laidByText := true, laidKinds := [.data], laidTests := true, laidLooks := .later }
def HeldCardSaid : Prop := Claim7.holds Tryz.pinned (.plain (OpenSpec.ofChange heldSpec)) heldCard

/-- THE SECOND FORM's CARD OF 'dossierlaw.Graphs'. -/
def graphsUptoCard : Claim7 := { stood := { row := graphsUptoRow, standIns := [], harness := (true, "ab0f2f73d44d86085653738a339aae294728edf727bdcd6747aeac3aabacee36"), looks := false }, kinds := [], alts := [], laidByText := true, laidKinds := [.data], laidTests := true, laidLooks := .later }
def GraphsUptoCardSaid : Prop := Claim7.holds Tryz.pinned (.plain (OpenSpec.upto graphsSpec)) graphsUptoCard

/-- THE SECOND FORM's CARD OF 'dossierlaw.Hashes'. -/
def hashesUptoCard : Claim7 := { stood := { row := hashesUptoRow, standIns := [], harness := (true, "ab0f2f73d44d86085653738a339aae294728edf727bdcd6747aeac3aabacee36"), looks := false }, kinds := [], alts := [], laidByText := true, laidKinds := [.data], laidTests := true, laidLooks := .later }
def HashesUptoCardSaid : Prop := Claim7.holds Tryz.pinned (.plain (OpenSpec.upto hashesSpec)) hashesUptoCard

/-- THE SECOND FORM's CARD OF 'dossierlaw.Cases'. -/
def casesUptoCard : Claim7 := { stood := { row := casesUptoRow, standIns := [], harness := (true, "ab0f2f73d44d86085653738a339aae294728edf727bdcd6747aeac3aabacee36"), looks := false }, kinds := [], alts := [], laidByText := true, laidKinds := [.data, .data, .data, .data], laidTests := true, laidLooks := .later }
def CasesUptoCardSaid : Prop := Claim7.holds Tryz.pinned (.plain (OpenSpec.upto casesSpec)) casesUptoCard

/-- THE SECOND FORM's CARD OF 'dossierkeep.Spelt'. -/
def speltUptoCard : Claim7 := { stood := { row := speltUptoRow, standIns := [], harness := (true, "ab0f2f73d44d86085653738a339aae294728edf727bdcd6747aeac3aabacee36"), looks := false }, kinds := [], alts := [], laidByText := true, laidKinds := [.data], laidTests := true, laidLooks := .later }
def SpeltUptoCardSaid : Prop := Claim7.holds Tryz.pinned (.plain (OpenSpec.upto speltSpec)) speltUptoCard

/-- THE SECOND FORM's CARD OF 'dossierkeep.Each'. -/
def eachUptoCard : Claim7 := { stood := { row := eachUptoRow, standIns := [], harness := (true, "ab0f2f73d44d86085653738a339aae294728edf727bdcd6747aeac3aabacee36"), looks := false }, kinds := [], alts := [], laidByText := true, laidKinds := [.data], laidTests := true, laidLooks := .later }
def EachUptoCardSaid : Prop := Claim7.holds Tryz.pinned (.plain (OpenSpec.upto eachSpec)) eachUptoCard

/-- THE SECOND FORM's CARD OF 'dossierkeep.Held'. -/
def heldUptoCard : Claim7 := { stood := { row := heldUptoRow, standIns := [], harness := (true, "ab0f2f73d44d86085653738a339aae294728edf727bdcd6747aeac3aabacee36"), looks := false }, kinds := [], alts := [], laidByText := true, laidKinds := [.data], laidTests := true, laidLooks := .later }
def HeldUptoCardSaid : Prop := Claim7.holds Tryz.pinned (.plain (OpenSpec.upto heldSpec)) heldUptoCard
end Rows
end Go.Proofs.YtpgpfhogicdnmaaGreatDoor
