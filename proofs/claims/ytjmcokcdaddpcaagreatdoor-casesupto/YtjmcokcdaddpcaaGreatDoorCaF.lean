import Derived.Test.YtjmcokcdaddpcaaGreatDoorRows
import Derived.JoinedCond
import Derived.KernelRfl
namespace Go.Proofs.YtjmcokcdaddpcaaGreatDoor
theorem cases_closed : joinedFacts Tryz.pinned.checked.prog 5 Tryz.f5 (Rows.OpenSpec.upto Rows.casesSpec).bare Rows.casesUptoRow = true := by kernel_rfl
end Go.Proofs.YtjmcokcdaddpcaaGreatDoor
