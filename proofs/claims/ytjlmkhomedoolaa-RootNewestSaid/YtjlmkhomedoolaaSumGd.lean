/- What a slot is good for: that it reads as bytes. -/
import Derived.Test.YtjlmkhomedoolaaSumBase
import Derived.Test.YtjlmkhomedoolaaSlots
namespace Go.Proofs.Ytjlmkhomedoolaa
open Go.RowKit
def Gd.rd (l : List UInt8) : Gd := ⟨fun v w => RdB w v l, fun _ _ _ h hb => h.later hb⟩
end Go.Proofs.Ytjlmkhomedoolaa
