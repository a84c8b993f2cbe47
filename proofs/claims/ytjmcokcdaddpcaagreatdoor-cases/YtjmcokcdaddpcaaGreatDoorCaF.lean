import Derived.Test.YtjmcokcdaddpcaaGreatDoorRows
import Derived.JoinedCond
import Derived.KernelRfl
namespace Go.Proofs.YtjmcokcdaddpcaaGreatDoor
theorem cases_closed : joinedFacts Tryz.pinned.checked.prog 5 Tryz.f5 (OpenSpec.ofChange Rows.casesSpec).bare Rows.casesRow = true := by kernel_rfl
end Go.Proofs.YtjmcokcdaddpcaaGreatDoor
