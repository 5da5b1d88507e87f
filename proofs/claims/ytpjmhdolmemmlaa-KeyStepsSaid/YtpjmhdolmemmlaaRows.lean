/-
  No cell of these rows narrows 'for every input' (looked for: loops, veiled, ifaces, maps, wideKeys, modest, calm, conditions, laid).
  DERIVED. THE GIVEN ROWS OF THIS SEAT. 5 by the template 'for every input the law returns true; each argument reads behind the call as it read before'; 0 by the template 'total and deterministic' (their statements: YtpjmhdolmemmlaaTotals.lean).
  GIVEN WITH THE SEED: the statements are not yours to turn. If you find one false, say at which input.
  Laid BY PROGRAM, IN A SANDBOX (cutbox-rows.mjs): the forced cells as the released guide's own fill.sh prints them over the translation c79071c546687f15… (all of the seat's roots in one cut). By AI agents, Wed Nov 11 2026. No macro, syntax, notation, axiom, sorry.
-/
import Derived.Test.YtpjmhdolmemmlaaChecked
import GoSem.Claim
import GoSem.ClaimJoined
import GoSem.ClaimMapViews
import Derived.JoinedTies
import Derived.KernelRfl
namespace Go.Proofs.Ytpjmhdolmemmlaa
/- THE CELL 'sum', in the pinned program and in every row, IS THE sha256 OF THE DUMP (.gsa) THAT YtpjmhdolmemmlaaProg.lean LOADS. Nothing in Lean hashes anything: it is a label: what it is worth is what the hold of that sum in a sandbox is worth. -/
noncomputable def Try.pinned : Pinned := { name := "ytpjmhdolmemmlaa", sum := "c79071c546687f15718c4e4998422058944b35d2b4c6e3a5691248432d9769dc", checked := Try.checked }
namespace Rows
def none {H : Type} : Left H := { results := [], args := [] }

/-- 'bywaylaw01.KeyRight': WHATEVER THE INPUT: true; the input reads as it did. -/
def keyRightSpec : ChangeSpec := { name := "keyRight", fn := fun _ => fun
  | [d1, d2, d3, d4, d5] => { results := [.lit (.bool true)], args := [d1, d2, d3, d4, d5] }
  | _ => none }
def keyRightRow : OpenClaim := { program := "ytpjmhdolmemmlaa", sum := "c79071c546687f15718c4e4998422058944b35d2b4c6e3a5691248432d9769dc", func := "byway/bywaylaw01.KeyRight", spec := "keyRight", inPlace := ["internal/bytealg.Compare"], apart := false }
def KeyRightSaid : Prop := keyRightRow.holds Try.pinned (OpenSpec.ofChange keyRightSpec)

/-- ITS FALSE NEIGHBOUR: 'it returns false'. Refute it at one input. -/
def keyRightWrong : ChangeSpec := { name := "keyRight", fn := fun _ => fun
  | [d1, d2, d3, d4, d5] => { results := [.lit (.bool false)], args := [d1, d2, d3, d4, d5] }
  | _ => none }
def KeyRightWrongFalsely : Prop := keyRightRow.holds Try.pinned (OpenSpec.ofChange keyRightWrong)

/-- 'bywaylaw01.KeyCovers': WHATEVER THE INPUT: true; the input reads as it did. -/
def keyCoversSpec : ChangeSpec := { name := "keyCovers", fn := fun _ => fun
  | [d1, d2, d3] => { results := [.lit (.bool true)], args := [d1, d2, d3] }
  | _ => none }
def keyCoversRow : OpenClaim := { program := "ytpjmhdolmemmlaa", sum := "c79071c546687f15718c4e4998422058944b35d2b4c6e3a5691248432d9769dc", func := "byway/bywaylaw01.KeyCovers", spec := "keyCovers", inPlace := ["internal/bytealg.Compare"], apart := false }
def KeyCoversSaid : Prop := keyCoversRow.holds Try.pinned (OpenSpec.ofChange keyCoversSpec)

/-- ITS FALSE NEIGHBOUR: 'it returns false'. Refute it at one input. -/
def keyCoversWrong : ChangeSpec := { name := "keyCovers", fn := fun _ => fun
  | [d1, d2, d3] => { results := [.lit (.bool false)], args := [d1, d2, d3] }
  | _ => none }
def KeyCoversWrongFalsely : Prop := keyCoversRow.holds Try.pinned (OpenSpec.ofChange keyCoversWrong)

/-- 'bywaylaw01.KeyOrder': WHATEVER THE INPUT: true; the input reads as it did. -/
def keyOrderSpec : ChangeSpec := { name := "keyOrder", fn := fun _ => fun
  | [d1, d2, d3] => { results := [.lit (.bool true)], args := [d1, d2, d3] }
  | _ => none }
def keyOrderRow : OpenClaim := { program := "ytpjmhdolmemmlaa", sum := "c79071c546687f15718c4e4998422058944b35d2b4c6e3a5691248432d9769dc", func := "byway/bywaylaw01.KeyOrder", spec := "keyOrder", inPlace := ["internal/bytealg.Compare"], apart := false }
def KeyOrderSaid : Prop := keyOrderRow.holds Try.pinned (OpenSpec.ofChange keyOrderSpec)

/-- ITS FALSE NEIGHBOUR: 'it returns false'. Refute it at one input. -/
def keyOrderWrong : ChangeSpec := { name := "keyOrder", fn := fun _ => fun
  | [d1, d2, d3] => { results := [.lit (.bool false)], args := [d1, d2, d3] }
  | _ => none }
def KeyOrderWrongFalsely : Prop := keyOrderRow.holds Try.pinned (OpenSpec.ofChange keyOrderWrong)

/-- 'bywaylaw01.KeyCuts': WHATEVER THE INPUT: true; the input reads as it did. -/
def keyCutsSpec : ChangeSpec := { name := "keyCuts", fn := fun _ => fun
  | [d1, d2, d3] => { results := [.lit (.bool true)], args := [d1, d2, d3] }
  | _ => none }
def keyCutsRow : OpenClaim := { program := "ytpjmhdolmemmlaa", sum := "c79071c546687f15718c4e4998422058944b35d2b4c6e3a5691248432d9769dc", func := "byway/bywaylaw01.KeyCuts", spec := "keyCuts", inPlace := ["internal/bytealg.Compare"], apart := false }
def KeyCutsSaid : Prop := keyCutsRow.holds Try.pinned (OpenSpec.ofChange keyCutsSpec)

/-- ITS FALSE NEIGHBOUR: 'it returns false'. Refute it at one input. -/
def keyCutsWrong : ChangeSpec := { name := "keyCuts", fn := fun _ => fun
  | [d1, d2, d3] => { results := [.lit (.bool false)], args := [d1, d2, d3] }
  | _ => none }
def KeyCutsWrongFalsely : Prop := keyCutsRow.holds Try.pinned (OpenSpec.ofChange keyCutsWrong)

/-- 'bywaylaw01.KeySteps': WHATEVER THE INPUT: true; the input reads as it did. -/
def keyStepsSpec : ChangeSpec := { name := "keySteps", fn := fun _ => fun
  | [d1, d2] => { results := [.lit (.bool true)], args := [d1, d2] }
  | _ => none }
def keyStepsRow : OpenClaim := { program := "ytpjmhdolmemmlaa", sum := "c79071c546687f15718c4e4998422058944b35d2b4c6e3a5691248432d9769dc", func := "byway/bywaylaw01.KeySteps", spec := "keySteps", inPlace := ["internal/bytealg.Compare"], apart := false }
def KeyStepsSaid : Prop := keyStepsRow.holds Try.pinned (OpenSpec.ofChange keyStepsSpec)

/-- ITS FALSE NEIGHBOUR: 'it returns false'. Refute it at one input. -/
def keyStepsWrong : ChangeSpec := { name := "keySteps", fn := fun _ => fun
  | [d1, d2] => { results := [.lit (.bool false)], args := [d1, d2] }
  | _ => none }
def KeyStepsWrongFalsely : Prop := keyStepsRow.holds Try.pinned (OpenSpec.ofChange keyStepsWrong)

/- THE SECOND FORM. 'bulk': how many values and letters a reading holds, each counted each time it is reached (what is shared counts as often as it is met; a slice's spare places count too). A statement '..UptoSaid' is the law's where the arguments, and the package variables that the reading takes, are together of bulk at most 1048576: NARROWER than '..Said'. Prove '..Said' where nothing that the law and all that it calls make is longer than what came in: it says more and counts as full. Else prove '..UptoSaid'. A law counts once. -/
mutual
def uptoBulk {H : Type} : DataW H → Nat
  | .lit (.string bytes) => bytes.length + 1
  | .lit _ => 1
  | .nil => 1
  | .ptr d => uptoBulk d + 1
  | .slice elems spare => uptoBulkAll elems + uptoBulkAll spare + 1
  | .agg parts => uptoBulkAll parts + 1
  | .iface _ d => uptoBulk d + 1
  | .map entries => uptoBulkEntries entries + 1
  | .held _ => 1
def uptoBulkAll {H : Type} : List (DataW H) → Nat
  | [] => 0
  | d :: r => uptoBulk d + uptoBulkAll r
def uptoBulkEntries {H : Type} : List (Lit × DataW H) → Nat
  | [] => 0
  | x :: r => uptoBulkEntry x + uptoBulkEntries r
def uptoBulkEntry {H : Type} : Lit × DataW H → Nat
  | (.string bytes, d) => bytes.length + uptoBulk d + 1
  | (_, d) => uptoBulk d + 1
 end
def uptoSmall : (H : Type) → List (DataW H) → Bool := fun _ ds => decide (uptoBulkAll ds ≤ 1048576)
def OpenSpec.upto (s : _root_.Go.ChangeSpec) : _root_.Go.OpenSpec := { _root_.Go.OpenSpec.ofChange s with cond := some uptoSmall }

/-- 'bywaylaw01.KeyRight', WHERE WHAT IT READS IS OF BULK AT MOST 1048576: true; the input reads as it did. -/
def keyRightUptoRow : OpenClaim := { program := "ytpjmhdolmemmlaa", sum := "c79071c546687f15718c4e4998422058944b35d2b4c6e3a5691248432d9769dc", func := "byway/bywaylaw01.KeyRight", spec := "keyRight", inPlace := ["internal/bytealg.Compare"], apart := false, narrowed := true }
def KeyRightUptoSaid : Prop := keyRightUptoRow.holds Try.pinned (OpenSpec.upto keyRightSpec)

/-- 'bywaylaw01.KeyCovers', WHERE WHAT IT READS IS OF BULK AT MOST 1048576: true; the input reads as it did. -/
def keyCoversUptoRow : OpenClaim := { program := "ytpjmhdolmemmlaa", sum := "c79071c546687f15718c4e4998422058944b35d2b4c6e3a5691248432d9769dc", func := "byway/bywaylaw01.KeyCovers", spec := "keyCovers", inPlace := ["internal/bytealg.Compare"], apart := false, narrowed := true }
def KeyCoversUptoSaid : Prop := keyCoversUptoRow.holds Try.pinned (OpenSpec.upto keyCoversSpec)

/-- 'bywaylaw01.KeyOrder', WHERE WHAT IT READS IS OF BULK AT MOST 1048576: true; the input reads as it did. -/
def keyOrderUptoRow : OpenClaim := { program := "ytpjmhdolmemmlaa", sum := "c79071c546687f15718c4e4998422058944b35d2b4c6e3a5691248432d9769dc", func := "byway/bywaylaw01.KeyOrder", spec := "keyOrder", inPlace := ["internal/bytealg.Compare"], apart := false, narrowed := true }
def KeyOrderUptoSaid : Prop := keyOrderUptoRow.holds Try.pinned (OpenSpec.upto keyOrderSpec)

/-- 'bywaylaw01.KeyCuts', WHERE WHAT IT READS IS OF BULK AT MOST 1048576: true; the input reads as it did. -/
def keyCutsUptoRow : OpenClaim := { program := "ytpjmhdolmemmlaa", sum := "c79071c546687f15718c4e4998422058944b35d2b4c6e3a5691248432d9769dc", func := "byway/bywaylaw01.KeyCuts", spec := "keyCuts", inPlace := ["internal/bytealg.Compare"], apart := false, narrowed := true }
def KeyCutsUptoSaid : Prop := keyCutsUptoRow.holds Try.pinned (OpenSpec.upto keyCutsSpec)

/-- 'bywaylaw01.KeySteps', WHERE WHAT IT READS IS OF BULK AT MOST 1048576: true; the input reads as it did. -/
def keyStepsUptoRow : OpenClaim := { program := "ytpjmhdolmemmlaa", sum := "c79071c546687f15718c4e4998422058944b35d2b4c6e3a5691248432d9769dc", func := "byway/bywaylaw01.KeySteps", spec := "keySteps", inPlace := ["internal/bytealg.Compare"], apart := false, narrowed := true }
def KeyStepsUptoSaid : Prop := keyStepsUptoRow.holds Try.pinned (OpenSpec.upto keyStepsSpec)

end Rows
end Go.Proofs.Ytpjmhdolmemmlaa
