/- What a slot is good for: that it reads as bytes. -/
import Derived.Test.YtbbhjgbpihmphaaSumBase
import Derived.Test.YtbbhjgbpihmphaaSlots
namespace Go.Proofs.Ytbbhjgbpihmphaa
open Go.RowKit
def Gd.rd (l : List UInt8) : Gd := ⟨fun v w => RdB w v l, fun _ _ _ h hb => h.later hb⟩
end Go.Proofs.Ytbbhjgbpihmphaa
