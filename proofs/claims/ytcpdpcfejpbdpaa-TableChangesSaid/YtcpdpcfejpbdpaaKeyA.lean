/- A small fact on what is handed back. -/
import Derived.Test.YtcpdpcfejpbdpaaKeyEq
namespace Go.Proofs.Ytcpdpcfejpbdpaa
open Go.RowKit Go.Sort

theorem ret_int {k : IntKind} {a b : Int} (h : a = b) : Ending.returned (.int k a) = .returned (.int k b) := by rw [h]

end Go.Proofs.Ytcpdpcfejpbdpaa
