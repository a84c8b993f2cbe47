/-
  NARROWER THAN 'FOR EVERY INPUT', by the rows' own cells (each row's printed sentence says how): Graphs: laid · Hashes: laid · Cases: laid · Logs: laid · Audits: laid · All: laid · Spelt: laid · Each: laid · Held: laid · Nothing: laid · Kept: laid · Cut: laid.
  DERIVED. THE GIVEN ROWS OF THIS SEAT. 12 by the template 'for every input the law returns true; each argument reads behind the call as it read before'; 0 by the template 'total and deterministic' (their statements: YtjmcokcdaddpcaaGreatDoorTotals.lean).
  GIVEN WITH THE SEED: the statements are not yours to turn. If you find one false, say at which input.
  Laid BY PROGRAM, IN A SANDBOX (cutbox-rows.mjs): the forced cells as the released guide's own fill.sh prints them over the translation 73ca3485e24adce5… (all of the seat's roots in one cut). By AI agents, Wed Nov 11 2026. No macro, syntax, notation, axiom, sorry.
-/
import Derived.Test.YtjmcokcdaddpcaaGreatDoorChecked
import GoSem.Claim
import GoSem.ClaimJoined
import GoSem.ClaimMapViews
import Derived.JoinedTies
import Derived.KernelRfl
namespace Go.Proofs.YtjmcokcdaddpcaaGreatDoor
/- THE CELL 'sum', in the pinned program and in every row, IS THE sha256 OF THE DUMP (.gsa) THAT YtjmcokcdaddpcaaGreatDoorProg.lean LOADS. Nothing in Lean hashes anything: it is a label: what it is worth is what the hold of that sum in a sandbox is worth. -/
noncomputable def Tryz.pinned : Pinned := { name := "ytjmcokcdaddpcaagreatdoor", sum := "73ca3485e24adce563904d1343abd42c948fcffc96df3f2e1945adb1b687592c", checked := Tryz.checked }
namespace Rows
def none {H : Type} : Left H := { results := [], args := [] }

/- WHAT THE LISTED PACKAGE-LEVEL VARIABLES READ AS WHEN THE CALL BEGINS. Each datum BY PROGRAM (the guide's laid-datum.mjs) off the statement by which the dump's own 'gosem.cut.vars' lays the variable. In a bare row this is a premise. The card (YtjmcokcdaddpcaaGreatDoorCards.lean) ties it to the program's text. -/
def laid_dossier_graphs_signs {H : Type} : DataW H := .agg [.lit (.string [45, 62, 42]), .lit (.string [45, 62, 60, 62]), .lit (.string [42, 45, 62]), .lit (.string [45, 62, 43]), .lit (.string [45, 62, 37])]
def laid_math_bits_deBruijn32tab {H : Type} : DataW H := .agg [.lit (.int .u8 0), .lit (.int .u8 1), .lit (.int .u8 28), .lit (.int .u8 2), .lit (.int .u8 29), .lit (.int .u8 14), .lit (.int .u8 24), .lit (.int .u8 3), .lit (.int .u8 30), .lit (.int .u8 22), .lit (.int .u8 20), .lit (.int .u8 15), .lit (.int .u8 25), .lit (.int .u8 17), .lit (.int .u8 4), .lit (.int .u8 8), .lit (.int .u8 31), .lit (.int .u8 27), .lit (.int .u8 13), .lit (.int .u8 23), .lit (.int .u8 21), .lit (.int .u8 19), .lit (.int .u8 16), .lit (.int .u8 7), .lit (.int .u8 26), .lit (.int .u8 12), .lit (.int .u8 18), .lit (.int .u8 6), .lit (.int .u8 11), .lit (.int .u8 5), .lit (.int .u8 10), .lit (.int .u8 9)]
def laid_math_bits_deBruijn64tab {H : Type} : DataW H := .agg [.lit (.int .u8 0), .lit (.int .u8 1), .lit (.int .u8 56), .lit (.int .u8 2), .lit (.int .u8 57), .lit (.int .u8 49), .lit (.int .u8 28), .lit (.int .u8 3), .lit (.int .u8 61), .lit (.int .u8 58), .lit (.int .u8 42), .lit (.int .u8 50), .lit (.int .u8 38), .lit (.int .u8 29), .lit (.int .u8 17), .lit (.int .u8 4), .lit (.int .u8 62), .lit (.int .u8 47), .lit (.int .u8 59), .lit (.int .u8 36), .lit (.int .u8 45), .lit (.int .u8 43), .lit (.int .u8 51), .lit (.int .u8 22), .lit (.int .u8 53), .lit (.int .u8 39), .lit (.int .u8 33), .lit (.int .u8 30), .lit (.int .u8 24), .lit (.int .u8 18), .lit (.int .u8 12), .lit (.int .u8 5), .lit (.int .u8 63), .lit (.int .u8 55), .lit (.int .u8 48), .lit (.int .u8 27), .lit (.int .u8 60), .lit (.int .u8 41), .lit (.int .u8 37), .lit (.int .u8 16), .lit (.int .u8 46), .lit (.int .u8 35), .lit (.int .u8 44), .lit (.int .u8 21), .lit (.int .u8 52), .lit (.int .u8 32), .lit (.int .u8 23), .lit (.int .u8 11), .lit (.int .u8 54), .lit (.int .u8 26), .lit (.int .u8 40), .lit (.int .u8 15), .lit (.int .u8 34), .lit (.int .u8 20), .lit (.int .u8 31), .lit (.int .u8 10), .lit (.int .u8 25), .lit (.int .u8 14), .lit (.int .u8 19), .lit (.int .u8 9), .lit (.int .u8 13), .lit (.int .u8 8), .lit (.int .u8 7), .lit (.int .u8 6)]
def laid_internal_strconv_uint64pow10 {H : Type} : DataW H := .agg [.lit (.int .u64 1), .lit (.int .u64 10), .lit (.int .u64 100), .lit (.int .u64 1000), .lit (.int .u64 10000), .lit (.int .u64 100000), .lit (.int .u64 1000000), .lit (.int .u64 10000000), .lit (.int .u64 100000000), .lit (.int .u64 1000000000), .lit (.int .u64 10000000000), .lit (.int .u64 100000000000), .lit (.int .u64 1000000000000), .lit (.int .u64 10000000000000), .lit (.int .u64 100000000000000), .lit (.int .u64 1000000000000000), .lit (.int .u64 10000000000000000), .lit (.int .u64 100000000000000000), .lit (.int .u64 1000000000000000000), .lit (.int .u64 10000000000000000000)]

/-- 'dossierlaw.Graphs': WHATEVER THE INPUT: true; the input reads as it did. -/
def graphsSpec : ChangeSpec := { name := "graphs", fn := fun _ => fun
  | [d] => { results := [.lit (.bool true)], args := [d] }
  | _ => none }
def graphsRow : OpenClaim := { program := "ytjmcokcdaddpcaagreatdoor", sum := "73ca3485e24adce563904d1343abd42c948fcffc96df3f2e1945adb1b687592c", func := "dossier/dossierlaw.Graphs", spec := "graphs", inPlace := ["internal/bytealg.abigen_runtime_cmpstring", "internal/abi.NoEscape", "internal/bytealg.MakeNoZero"], unfollowed := true, recurses := true, named := ["dossier/graphs.signs"], apart := false, laid := [("dossier/graphs.signs", laid_dossier_graphs_signs)] }
def GraphsSaid : Prop := graphsRow.holds Tryz.pinned (OpenSpec.ofChange graphsSpec)

/-- ITS FALSE NEIGHBOUR: 'it returns false'. Refute it at one input. -/
def graphsWrong : ChangeSpec := { name := "graphs", fn := fun _ => fun
  | [d] => { results := [.lit (.bool false)], args := [d] }
  | _ => none }
def GraphsWrongFalsely : Prop := graphsRow.holds Tryz.pinned (OpenSpec.ofChange graphsWrong)

/-- 'dossierlaw.Hashes': WHATEVER THE INPUT: true; the input reads as it did. -/
def hashesSpec : ChangeSpec := { name := "hashes", fn := fun _ => fun
  | [d] => { results := [.lit (.bool true)], args := [d] }
  | _ => none }
def hashesRow : OpenClaim := { program := "ytjmcokcdaddpcaagreatdoor", sum := "73ca3485e24adce563904d1343abd42c948fcffc96df3f2e1945adb1b687592c", func := "dossier/dossierlaw.Hashes", spec := "hashes", inPlace := ["internal/bytealg.abigen_runtime_cmpstring", "internal/abi.NoEscape", "internal/bytealg.MakeNoZero"], unfollowed := true, recurses := true, named := ["dossier/graphs.signs"], apart := false, laid := [("dossier/graphs.signs", laid_dossier_graphs_signs)] }
def HashesSaid : Prop := hashesRow.holds Tryz.pinned (OpenSpec.ofChange hashesSpec)

/-- ITS FALSE NEIGHBOUR: 'it returns false'. Refute it at one input. -/
def hashesWrong : ChangeSpec := { name := "hashes", fn := fun _ => fun
  | [d] => { results := [.lit (.bool false)], args := [d] }
  | _ => none }
def HashesWrongFalsely : Prop := hashesRow.holds Tryz.pinned (OpenSpec.ofChange hashesWrong)

/-- 'dossierlaw.Cases': WHATEVER THE INPUT: true; the input reads as it did. -/
def casesSpec : ChangeSpec := { name := "cases", fn := fun _ => fun
  | [d] => { results := [.lit (.bool true)], args := [d] }
  | _ => none }
def casesRow : OpenClaim := { program := "ytjmcokcdaddpcaagreatdoor", sum := "73ca3485e24adce563904d1343abd42c948fcffc96df3f2e1945adb1b687592c", func := "dossier/dossierlaw.Cases", spec := "cases", inPlace := ["internal/bytealg.abigen_runtime_cmpstring", "internal/abi.NoEscape", "internal/bytealg.MakeNoZero"], unfollowed := true, recurses := true, named := ["dossier/graphs.signs", "internal/strconv.uint64pow10", "math/bits.deBruijn32tab", "math/bits.deBruijn64tab"], apart := false, laid := [("math/bits.deBruijn32tab", laid_math_bits_deBruijn32tab), ("math/bits.deBruijn64tab", laid_math_bits_deBruijn64tab), ("internal/strconv.uint64pow10", laid_internal_strconv_uint64pow10), ("dossier/graphs.signs", laid_dossier_graphs_signs)] }
def CasesSaid : Prop := casesRow.holds Tryz.pinned (OpenSpec.ofChange casesSpec)

/-- ITS FALSE NEIGHBOUR: 'it returns false'. Refute it at one input. -/
def casesWrong : ChangeSpec := { name := "cases", fn := fun _ => fun
  | [d] => { results := [.lit (.bool false)], args := [d] }
  | _ => none }
def CasesWrongFalsely : Prop := casesRow.holds Tryz.pinned (OpenSpec.ofChange casesWrong)

/-- 'dossierlaw.Logs': WHATEVER THE INPUT: true; the input reads as it did. -/
def logsSpec : ChangeSpec := { name := "logs", fn := fun _ => fun
  | [d] => { results := [.lit (.bool true)], args := [d] }
  | _ => none }
def logsRow : OpenClaim := { program := "ytjmcokcdaddpcaagreatdoor", sum := "73ca3485e24adce563904d1343abd42c948fcffc96df3f2e1945adb1b687592c", func := "dossier/dossierlaw.Logs", spec := "logs", inPlace := ["internal/bytealg.abigen_runtime_cmpstring", "internal/abi.NoEscape", "internal/bytealg.MakeNoZero"], unfollowed := true, recurses := true, named := ["dossier/graphs.signs", "internal/strconv.uint64pow10", "math/bits.deBruijn32tab", "math/bits.deBruijn64tab"], apart := false, laid := [("math/bits.deBruijn32tab", laid_math_bits_deBruijn32tab), ("math/bits.deBruijn64tab", laid_math_bits_deBruijn64tab), ("internal/strconv.uint64pow10", laid_internal_strconv_uint64pow10), ("dossier/graphs.signs", laid_dossier_graphs_signs)] }
def LogsSaid : Prop := logsRow.holds Tryz.pinned (OpenSpec.ofChange logsSpec)

/-- ITS FALSE NEIGHBOUR: 'it returns false'. Refute it at one input. -/
def logsWrong : ChangeSpec := { name := "logs", fn := fun _ => fun
  | [d] => { results := [.lit (.bool false)], args := [d] }
  | _ => none }
def LogsWrongFalsely : Prop := logsRow.holds Tryz.pinned (OpenSpec.ofChange logsWrong)

/-- 'dossierlaw.Audits': WHATEVER THE INPUT: true; the input reads as it did. -/
def auditsSpec : ChangeSpec := { name := "audits", fn := fun _ => fun
  | [d] => { results := [.lit (.bool true)], args := [d] }
  | _ => none }
def auditsRow : OpenClaim := { program := "ytjmcokcdaddpcaagreatdoor", sum := "73ca3485e24adce563904d1343abd42c948fcffc96df3f2e1945adb1b687592c", func := "dossier/dossierlaw.Audits", spec := "audits", inPlace := ["internal/bytealg.abigen_runtime_cmpstring", "internal/abi.NoEscape", "internal/bytealg.MakeNoZero"], unfollowed := true, recurses := true, named := ["dossier/graphs.signs", "internal/strconv.uint64pow10", "math/bits.deBruijn32tab", "math/bits.deBruijn64tab"], apart := false, laid := [("math/bits.deBruijn32tab", laid_math_bits_deBruijn32tab), ("math/bits.deBruijn64tab", laid_math_bits_deBruijn64tab), ("internal/strconv.uint64pow10", laid_internal_strconv_uint64pow10), ("dossier/graphs.signs", laid_dossier_graphs_signs)] }
def AuditsSaid : Prop := auditsRow.holds Tryz.pinned (OpenSpec.ofChange auditsSpec)

/-- ITS FALSE NEIGHBOUR: 'it returns false'. Refute it at one input. -/
def auditsWrong : ChangeSpec := { name := "audits", fn := fun _ => fun
  | [d] => { results := [.lit (.bool false)], args := [d] }
  | _ => none }
def AuditsWrongFalsely : Prop := auditsRow.holds Tryz.pinned (OpenSpec.ofChange auditsWrong)

/-- 'dossierlaw.All': WHATEVER THE INPUT: true; the input reads as it did. -/
def allSpec : ChangeSpec := { name := "all", fn := fun _ => fun
  | [d] => { results := [.lit (.bool true)], args := [d] }
  | _ => none }
def allRow : OpenClaim := { program := "ytjmcokcdaddpcaagreatdoor", sum := "73ca3485e24adce563904d1343abd42c948fcffc96df3f2e1945adb1b687592c", func := "dossier/dossierlaw.All", spec := "all", inPlace := ["internal/bytealg.abigen_runtime_cmpstring", "internal/abi.NoEscape", "internal/bytealg.MakeNoZero"], unfollowed := true, recurses := true, named := ["dossier/graphs.signs", "internal/strconv.uint64pow10", "math/bits.deBruijn32tab", "math/bits.deBruijn64tab"], apart := false, laid := [("math/bits.deBruijn32tab", laid_math_bits_deBruijn32tab), ("math/bits.deBruijn64tab", laid_math_bits_deBruijn64tab), ("internal/strconv.uint64pow10", laid_internal_strconv_uint64pow10), ("dossier/graphs.signs", laid_dossier_graphs_signs)] }
def AllSaid : Prop := allRow.holds Tryz.pinned (OpenSpec.ofChange allSpec)

/-- ITS FALSE NEIGHBOUR: 'it returns false'. Refute it at one input. -/
def allWrong : ChangeSpec := { name := "all", fn := fun _ => fun
  | [d] => { results := [.lit (.bool false)], args := [d] }
  | _ => none }
def AllWrongFalsely : Prop := allRow.holds Tryz.pinned (OpenSpec.ofChange allWrong)

/-- 'dossierkeep.Spelt': WHATEVER THE INPUT: true; the input reads as it did. -/
def speltSpec : ChangeSpec := { name := "spelt", fn := fun _ => fun
  | [d1, d2, d3] => { results := [.lit (.bool true)], args := [d1, d2, d3] }
  | _ => none }
def speltRow : OpenClaim := { program := "ytjmcokcdaddpcaagreatdoor", sum := "73ca3485e24adce563904d1343abd42c948fcffc96df3f2e1945adb1b687592c", func := "dossier/dossierkeep.Spelt", spec := "spelt", inPlace := ["internal/bytealg.abigen_runtime_cmpstring", "internal/abi.NoEscape", "internal/bytealg.MakeNoZero"], unfollowed := true, recurses := true, named := ["dossier/graphs.signs"], apart := false, laid := [("dossier/graphs.signs", laid_dossier_graphs_signs)] }
def SpeltSaid : Prop := speltRow.holds Tryz.pinned (OpenSpec.ofChange speltSpec)

/-- ITS FALSE NEIGHBOUR: 'it returns false'. Refute it at one input. -/
def speltWrong : ChangeSpec := { name := "spelt", fn := fun _ => fun
  | [d1, d2, d3] => { results := [.lit (.bool false)], args := [d1, d2, d3] }
  | _ => none }
def SpeltWrongFalsely : Prop := speltRow.holds Tryz.pinned (OpenSpec.ofChange speltWrong)

/-- 'dossierkeep.Each': WHATEVER THE INPUT: true; the input reads as it did. -/
def eachSpec : ChangeSpec := { name := "each", fn := fun _ => fun
  | [d1, d2] => { results := [.lit (.bool true)], args := [d1, d2] }
  | _ => none }
def eachRow : OpenClaim := { program := "ytjmcokcdaddpcaagreatdoor", sum := "73ca3485e24adce563904d1343abd42c948fcffc96df3f2e1945adb1b687592c", func := "dossier/dossierkeep.Each", spec := "each", inPlace := ["internal/bytealg.abigen_runtime_cmpstring", "internal/abi.NoEscape", "internal/bytealg.MakeNoZero"], unfollowed := true, recurses := true, named := ["dossier/graphs.signs"], apart := false, laid := [("dossier/graphs.signs", laid_dossier_graphs_signs)] }
def EachSaid : Prop := eachRow.holds Tryz.pinned (OpenSpec.ofChange eachSpec)

/-- ITS FALSE NEIGHBOUR: 'it returns false'. Refute it at one input. -/
def eachWrong : ChangeSpec := { name := "each", fn := fun _ => fun
  | [d1, d2] => { results := [.lit (.bool false)], args := [d1, d2] }
  | _ => none }
def EachWrongFalsely : Prop := eachRow.holds Tryz.pinned (OpenSpec.ofChange eachWrong)

/-- 'dossierkeep.Held': WHATEVER THE INPUT: true; the input reads as it did. -/
def heldSpec : ChangeSpec := { name := "held", fn := fun _ => fun
  | [d1, d2] => { results := [.lit (.bool true)], args := [d1, d2] }
  | _ => none }
def heldRow : OpenClaim := { program := "ytjmcokcdaddpcaagreatdoor", sum := "73ca3485e24adce563904d1343abd42c948fcffc96df3f2e1945adb1b687592c", func := "dossier/dossierkeep.Held", spec := "held", inPlace := ["internal/bytealg.abigen_runtime_cmpstring", "internal/abi.NoEscape", "internal/bytealg.MakeNoZero"], unfollowed := true, recurses := true, named := ["dossier/graphs.signs"], apart := false, laid := [("dossier/graphs.signs", laid_dossier_graphs_signs)] }
def HeldSaid : Prop := heldRow.holds Tryz.pinned (OpenSpec.ofChange heldSpec)

/-- ITS FALSE NEIGHBOUR: 'it returns false'. Refute it at one input. -/
def heldWrong : ChangeSpec := { name := "held", fn := fun _ => fun
  | [d1, d2] => { results := [.lit (.bool false)], args := [d1, d2] }
  | _ => none }
def HeldWrongFalsely : Prop := heldRow.holds Tryz.pinned (OpenSpec.ofChange heldWrong)

/-- 'dossierkeep.Nothing': WHATEVER THE INPUT: true; the input reads as it did. -/
def nothingSpec : ChangeSpec := { name := "nothing", fn := fun _ => fun
  | [d1, d2, d3] => { results := [.lit (.bool true)], args := [d1, d2, d3] }
  | _ => none }
def nothingRow : OpenClaim := { program := "ytjmcokcdaddpcaagreatdoor", sum := "73ca3485e24adce563904d1343abd42c948fcffc96df3f2e1945adb1b687592c", func := "dossier/dossierkeep.Nothing", spec := "nothing", inPlace := ["internal/bytealg.abigen_runtime_cmpstring", "internal/abi.NoEscape", "internal/bytealg.MakeNoZero"], unfollowed := true, recurses := true, named := ["dossier/graphs.signs"], apart := false, laid := [("dossier/graphs.signs", laid_dossier_graphs_signs)] }
def NothingSaid : Prop := nothingRow.holds Tryz.pinned (OpenSpec.ofChange nothingSpec)

/-- ITS FALSE NEIGHBOUR: 'it returns false'. Refute it at one input. -/
def nothingWrong : ChangeSpec := { name := "nothing", fn := fun _ => fun
  | [d1, d2, d3] => { results := [.lit (.bool false)], args := [d1, d2, d3] }
  | _ => none }
def NothingWrongFalsely : Prop := nothingRow.holds Tryz.pinned (OpenSpec.ofChange nothingWrong)

/-- 'dossierkeep.Kept': WHATEVER THE INPUT: true; the input reads as it did. -/
def keptSpec : ChangeSpec := { name := "kept", fn := fun _ => fun
  | [d] => { results := [.lit (.bool true)], args := [d] }
  | _ => none }
def keptRow : OpenClaim := { program := "ytjmcokcdaddpcaagreatdoor", sum := "73ca3485e24adce563904d1343abd42c948fcffc96df3f2e1945adb1b687592c", func := "dossier/dossierkeep.Kept", spec := "kept", inPlace := ["internal/bytealg.abigen_runtime_cmpstring", "internal/abi.NoEscape", "internal/bytealg.MakeNoZero"], unfollowed := true, recurses := true, named := ["dossier/graphs.signs"], apart := false, laid := [("dossier/graphs.signs", laid_dossier_graphs_signs)] }
def KeptSaid : Prop := keptRow.holds Tryz.pinned (OpenSpec.ofChange keptSpec)

/-- ITS FALSE NEIGHBOUR: 'it returns false'. Refute it at one input. -/
def keptWrong : ChangeSpec := { name := "kept", fn := fun _ => fun
  | [d] => { results := [.lit (.bool false)], args := [d] }
  | _ => none }
def KeptWrongFalsely : Prop := keptRow.holds Tryz.pinned (OpenSpec.ofChange keptWrong)

/-- 'dossierkeep.Cut': WHATEVER THE INPUT: true; the input reads as it did. -/
def cutSpec : ChangeSpec := { name := "cut", fn := fun _ => fun
  | [d1, d2, d3] => { results := [.lit (.bool true)], args := [d1, d2, d3] }
  | _ => none }
def cutRow : OpenClaim := { program := "ytjmcokcdaddpcaagreatdoor", sum := "73ca3485e24adce563904d1343abd42c948fcffc96df3f2e1945adb1b687592c", func := "dossier/dossierkeep.Cut", spec := "cut", inPlace := ["internal/bytealg.abigen_runtime_cmpstring", "internal/abi.NoEscape", "internal/bytealg.MakeNoZero"], unfollowed := true, recurses := true, named := ["dossier/graphs.signs"], apart := false, laid := [("dossier/graphs.signs", laid_dossier_graphs_signs)] }
def CutSaid : Prop := cutRow.holds Tryz.pinned (OpenSpec.ofChange cutSpec)

/-- ITS FALSE NEIGHBOUR: 'it returns false'. Refute it at one input. -/
def cutWrong : ChangeSpec := { name := "cut", fn := fun _ => fun
  | [d1, d2, d3] => { results := [.lit (.bool false)], args := [d1, d2, d3] }
  | _ => none }
def CutWrongFalsely : Prop := cutRow.holds Tryz.pinned (OpenSpec.ofChange cutWrong)

/- THE SECOND FORM. 'bulk': how many values and letters a reading holds, each counted each time it is reached (what is shared counts as often as it is met; a slice's spare places count too). A statement '..UptoSaid' is the law's where the arguments, and the package variables that the reading takes, are together of bulk at most 1048576: NARROWER than '..Said'. Prove '..Said' where nothing that the law and all that it calls make is longer than what came in: it says more and counts as full. Else prove '..UptoSaid'. A law counts once. -/
mutual
def uptoBulk {H : Type} : DataW H → Nat
  | .lit (.string bytes) => bytes.length + 1
  | .lit _ => 1
  | .nil => 1
  | .ptr d => uptoBulk d + 1
  | .slice elems spare => uptoBulkAll elems + uptoBulkAll spare + 1
  | .agg parts => uptoBulkAll parts + 1
  | .iface _ d => uptoBulk d + 1
  | .map entries => uptoBulkEntries entries + 1
  | .held _ => 1
def uptoBulkAll {H : Type} : List (DataW H) → Nat
  | [] => 0
  | d :: r => uptoBulk d + uptoBulkAll r
def uptoBulkEntries {H : Type} : List (Lit × DataW H) → Nat
  | [] => 0
  | x :: r => uptoBulkEntry x + uptoBulkEntries r
def uptoBulkEntry {H : Type} : Lit × DataW H → Nat
  | (.string bytes, d) => bytes.length + uptoBulk d + 1
  | (_, d) => uptoBulk d + 1
 end
def uptoSmall : (H : Type) → List (DataW H) → Bool := fun _ ds => decide (uptoBulkAll ds ≤ 1048576)
def OpenSpec.upto (s : _root_.Go.ChangeSpec) : _root_.Go.OpenSpec := { _root_.Go.OpenSpec.ofChange s with cond := some uptoSmall }

/-- 'dossierlaw.Graphs', WHERE WHAT IT READS IS OF BULK AT MOST 1048576: true; the input reads as it did. -/
def graphsUptoRow : OpenClaim := { program := "ytjmcokcdaddpcaagreatdoor", sum := "73ca3485e24adce563904d1343abd42c948fcffc96df3f2e1945adb1b687592c", func := "dossier/dossierlaw.Graphs", spec := "graphs", inPlace := ["internal/bytealg.abigen_runtime_cmpstring", "internal/abi.NoEscape", "internal/bytealg.MakeNoZero"], unfollowed := true, recurses := true, named := ["dossier/graphs.signs"], apart := false, laid := [("dossier/graphs.signs", laid_dossier_graphs_signs)], narrowed := true }
def GraphsUptoSaid : Prop := graphsUptoRow.holds Tryz.pinned (OpenSpec.upto graphsSpec)

/-- 'dossierlaw.Hashes', WHERE WHAT IT READS IS OF BULK AT MOST 1048576: true; the input reads as it did. -/
def hashesUptoRow : OpenClaim := { program := "ytjmcokcdaddpcaagreatdoor", sum := "73ca3485e24adce563904d1343abd42c948fcffc96df3f2e1945adb1b687592c", func := "dossier/dossierlaw.Hashes", spec := "hashes", inPlace := ["internal/bytealg.abigen_runtime_cmpstring", "internal/abi.NoEscape", "internal/bytealg.MakeNoZero"], unfollowed := true, recurses := true, named := ["dossier/graphs.signs"], apart := false, laid := [("dossier/graphs.signs", laid_dossier_graphs_signs)], narrowed := true }
def HashesUptoSaid : Prop := hashesUptoRow.holds Tryz.pinned (OpenSpec.upto hashesSpec)

/-- 'dossierlaw.Cases', WHERE WHAT IT READS IS OF BULK AT MOST 1048576: true; the input reads as it did. -/
def casesUptoRow : OpenClaim := { program := "ytjmcokcdaddpcaagreatdoor", sum := "73ca3485e24adce563904d1343abd42c948fcffc96df3f2e1945adb1b687592c", func := "dossier/dossierlaw.Cases", spec := "cases", inPlace := ["internal/bytealg.abigen_runtime_cmpstring", "internal/abi.NoEscape", "internal/bytealg.MakeNoZero"], unfollowed := true, recurses := true, named := ["dossier/graphs.signs", "internal/strconv.uint64pow10", "math/bits.deBruijn32tab", "math/bits.deBruijn64tab"], apart := false, laid := [("math/bits.deBruijn32tab", laid_math_bits_deBruijn32tab), ("math/bits.deBruijn64tab", laid_math_bits_deBruijn64tab), ("internal/strconv.uint64pow10", laid_internal_strconv_uint64pow10), ("dossier/graphs.signs", laid_dossier_graphs_signs)], narrowed := true }
def CasesUptoSaid : Prop := casesUptoRow.holds Tryz.pinned (OpenSpec.upto casesSpec)

/-- 'dossierlaw.Logs', WHERE WHAT IT READS IS OF BULK AT MOST 1048576: true; the input reads as it did. -/
def logsUptoRow : OpenClaim := { program := "ytjmcokcdaddpcaagreatdoor", sum := "73ca3485e24adce563904d1343abd42c948fcffc96df3f2e1945adb1b687592c", func := "dossier/dossierlaw.Logs", spec := "logs", inPlace := ["internal/bytealg.abigen_runtime_cmpstring", "internal/abi.NoEscape", "internal/bytealg.MakeNoZero"], unfollowed := true, recurses := true, named := ["dossier/graphs.signs", "internal/strconv.uint64pow10", "math/bits.deBruijn32tab", "math/bits.deBruijn64tab"], apart := false, laid := [("math/bits.deBruijn32tab", laid_math_bits_deBruijn32tab), ("math/bits.deBruijn64tab", laid_math_bits_deBruijn64tab), ("internal/strconv.uint64pow10", laid_internal_strconv_uint64pow10), ("dossier/graphs.signs", laid_dossier_graphs_signs)], narrowed := true }
def LogsUptoSaid : Prop := logsUptoRow.holds Tryz.pinned (OpenSpec.upto logsSpec)

/-- 'dossierlaw.Audits', WHERE WHAT IT READS IS OF BULK AT MOST 1048576: true; the input reads as it did. -/
def auditsUptoRow : OpenClaim := { program := "ytjmcokcdaddpcaagreatdoor", sum := "73ca3485e24adce563904d1343abd42c948fcffc96df3f2e1945adb1b687592c", func := "dossier/dossierlaw.Audits", spec := "audits", inPlace := ["internal/bytealg.abigen_runtime_cmpstring", "internal/abi.NoEscape", "internal/bytealg.MakeNoZero"], unfollowed := true, recurses := true, named := ["dossier/graphs.signs", "internal/strconv.uint64pow10", "math/bits.deBruijn32tab", "math/bits.deBruijn64tab"], apart := false, laid := [("math/bits.deBruijn32tab", laid_math_bits_deBruijn32tab), ("math/bits.deBruijn64tab", laid_math_bits_deBruijn64tab), ("internal/strconv.uint64pow10", laid_internal_strconv_uint64pow10), ("dossier/graphs.signs", laid_dossier_graphs_signs)], narrowed := true }
def AuditsUptoSaid : Prop := auditsUptoRow.holds Tryz.pinned (OpenSpec.upto auditsSpec)

/-- 'dossierlaw.All', WHERE WHAT IT READS IS OF BULK AT MOST 1048576: true; the input reads as it did. -/
def allUptoRow : OpenClaim := { program := "ytjmcokcdaddpcaagreatdoor", sum := "73ca3485e24adce563904d1343abd42c948fcffc96df3f2e1945adb1b687592c", func := "dossier/dossierlaw.All", spec := "all", inPlace := ["internal/bytealg.abigen_runtime_cmpstring", "internal/abi.NoEscape", "internal/bytealg.MakeNoZero"], unfollowed := true, recurses := true, named := ["dossier/graphs.signs", "internal/strconv.uint64pow10", "math/bits.deBruijn32tab", "math/bits.deBruijn64tab"], apart := false, laid := [("math/bits.deBruijn32tab", laid_math_bits_deBruijn32tab), ("math/bits.deBruijn64tab", laid_math_bits_deBruijn64tab), ("internal/strconv.uint64pow10", laid_internal_strconv_uint64pow10), ("dossier/graphs.signs", laid_dossier_graphs_signs)], narrowed := true }
def AllUptoSaid : Prop := allUptoRow.holds Tryz.pinned (OpenSpec.upto allSpec)

/-- 'dossierkeep.Spelt', WHERE WHAT IT READS IS OF BULK AT MOST 1048576: true; the input reads as it did. -/
def speltUptoRow : OpenClaim := { program := "ytjmcokcdaddpcaagreatdoor", sum := "73ca3485e24adce563904d1343abd42c948fcffc96df3f2e1945adb1b687592c", func := "dossier/dossierkeep.Spelt", spec := "spelt", inPlace := ["internal/bytealg.abigen_runtime_cmpstring", "internal/abi.NoEscape", "internal/bytealg.MakeNoZero"], unfollowed := true, recurses := true, named := ["dossier/graphs.signs"], apart := false, laid := [("dossier/graphs.signs", laid_dossier_graphs_signs)], narrowed := true }
def SpeltUptoSaid : Prop := speltUptoRow.holds Tryz.pinned (OpenSpec.upto speltSpec)

/-- 'dossierkeep.Each', WHERE WHAT IT READS IS OF BULK AT MOST 1048576: true; the input reads as it did. -/
def eachUptoRow : OpenClaim := { program := "ytjmcokcdaddpcaagreatdoor", sum := "73ca3485e24adce563904d1343abd42c948fcffc96df3f2e1945adb1b687592c", func := "dossier/dossierkeep.Each", spec := "each", inPlace := ["internal/bytealg.abigen_runtime_cmpstring", "internal/abi.NoEscape", "internal/bytealg.MakeNoZero"], unfollowed := true, recurses := true, named := ["dossier/graphs.signs"], apart := false, laid := [("dossier/graphs.signs", laid_dossier_graphs_signs)], narrowed := true }
def EachUptoSaid : Prop := eachUptoRow.holds Tryz.pinned (OpenSpec.upto eachSpec)

/-- 'dossierkeep.Held', WHERE WHAT IT READS IS OF BULK AT MOST 1048576: true; the input reads as it did. -/
def heldUptoRow : OpenClaim := { program := "ytjmcokcdaddpcaagreatdoor", sum := "73ca3485e24adce563904d1343abd42c948fcffc96df3f2e1945adb1b687592c", func := "dossier/dossierkeep.Held", spec := "held", inPlace := ["internal/bytealg.abigen_runtime_cmpstring", "internal/abi.NoEscape", "internal/bytealg.MakeNoZero"], unfollowed := true, recurses := true, named := ["dossier/graphs.signs"], apart := false, laid := [("dossier/graphs.signs", laid_dossier_graphs_signs)], narrowed := true }
def HeldUptoSaid : Prop := heldUptoRow.holds Tryz.pinned (OpenSpec.upto heldSpec)

/-- 'dossierkeep.Nothing', WHERE WHAT IT READS IS OF BULK AT MOST 1048576: true; the input reads as it did. -/
def nothingUptoRow : OpenClaim := { program := "ytjmcokcdaddpcaagreatdoor", sum := "73ca3485e24adce563904d1343abd42c948fcffc96df3f2e1945adb1b687592c", func := "dossier/dossierkeep.Nothing", spec := "nothing", inPlace := ["internal/bytealg.abigen_runtime_cmpstring", "internal/abi.NoEscape", "internal/bytealg.MakeNoZero"], unfollowed := true, recurses := true, named := ["dossier/graphs.signs"], apart := false, laid := [("dossier/graphs.signs", laid_dossier_graphs_signs)], narrowed := true }
def NothingUptoSaid : Prop := nothingUptoRow.holds Tryz.pinned (OpenSpec.upto nothingSpec)

/-- 'dossierkeep.Kept', WHERE WHAT IT READS IS OF BULK AT MOST 1048576: true; the input reads as it did. -/
def keptUptoRow : OpenClaim := { program := "ytjmcokcdaddpcaagreatdoor", sum := "73ca3485e24adce563904d1343abd42c948fcffc96df3f2e1945adb1b687592c", func := "dossier/dossierkeep.Kept", spec := "kept", inPlace := ["internal/bytealg.abigen_runtime_cmpstring", "internal/abi.NoEscape", "internal/bytealg.MakeNoZero"], unfollowed := true, recurses := true, named := ["dossier/graphs.signs"], apart := false, laid := [("dossier/graphs.signs", laid_dossier_graphs_signs)], narrowed := true }
def KeptUptoSaid : Prop := keptUptoRow.holds Tryz.pinned (OpenSpec.upto keptSpec)

/-- 'dossierkeep.Cut', WHERE WHAT IT READS IS OF BULK AT MOST 1048576: true; the input reads as it did. -/
def cutUptoRow : OpenClaim := { program := "ytjmcokcdaddpcaagreatdoor", sum := "73ca3485e24adce563904d1343abd42c948fcffc96df3f2e1945adb1b687592c", func := "dossier/dossierkeep.Cut", spec := "cut", inPlace := ["internal/bytealg.abigen_runtime_cmpstring", "internal/abi.NoEscape", "internal/bytealg.MakeNoZero"], unfollowed := true, recurses := true, named := ["dossier/graphs.signs"], apart := false, laid := [("dossier/graphs.signs", laid_dossier_graphs_signs)], narrowed := true }
def CutUptoSaid : Prop := cutUptoRow.holds Tryz.pinned (OpenSpec.upto cutSpec)

end Rows
end Go.Proofs.YtjmcokcdaddpcaaGreatDoor
