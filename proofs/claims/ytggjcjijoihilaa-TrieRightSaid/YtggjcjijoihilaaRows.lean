/-
  No cell of these rows narrows 'for every input' (looked for: loops, veiled, ifaces, maps, wideKeys, modest, calm, conditions, laid).
  DERIVED. THE GIVEN ROWS OF THIS SEAT. 6 by the template 'for every input the law returns true; each argument reads behind the call as it read before'; 0 by the template 'total and deterministic' (their statements: YtggjcjijoihilaaTotals.lean).
  GIVEN WITH THE SEED: the statements are not yours to turn. If you find one false, say at which input.
  Laid BY PROGRAM, IN A SANDBOX (cutbox-rows.mjs): the forced cells as the released guide's own fill.sh prints them over the translation 9710b817a3aa9945… (all of the seat's roots in one cut). By AI agents, Wed Nov 11 2026. No macro, syntax, notation, axiom, sorry.
-/
import Derived.Test.YtggjcjijoihilaaChecked
import GoSem.Claim
import GoSem.ClaimJoined
import GoSem.ClaimMapViews
import Derived.JoinedTies
import Derived.KernelRfl
namespace Go.Proofs.Ytggjcjijoihilaa
/- THE CELL 'sum', in the pinned program and in every row, IS THE sha256 OF THE DUMP (.gsa) THAT YtggjcjijoihilaaProg.lean LOADS. Nothing in Lean hashes anything: it is a label: what it is worth is what the hold of that sum in a sandbox is worth. -/
noncomputable def Try.pinned : Pinned := { name := "ytggjcjijoihilaa", sum := "9710b817a3aa994573bb452fde013e943090e08b8200d0e7969a7d86def10251", checked := Try.checked }
namespace Rows
def none {H : Type} : Left H := { results := [], args := [] }

/-- 'bywaylaw03.TableRight': WHATEVER THE INPUT: true; the input reads as it did. -/
def tableRightSpec : ChangeSpec := { name := "tableRight", fn := fun _ => fun
  | [d1, d2, d3, d4, d5, d6] => { results := [.lit (.bool true)], args := [d1, d2, d3, d4, d5, d6] }
  | _ => none }
def tableRightRow : OpenClaim := { program := "ytggjcjijoihilaa", sum := "9710b817a3aa994573bb452fde013e943090e08b8200d0e7969a7d86def10251", func := "byway/bywaylaw03.TableRight", spec := "tableRight", inPlace := ["internal/bytealg.Compare", "slices.overlaps[byway/api.Route]"], unfollowed := true, recurses := true, apart := false }
def TableRightSaid : Prop := tableRightRow.holds Try.pinned (OpenSpec.ofChange tableRightSpec)

/-- ITS FALSE NEIGHBOUR: 'it returns false'. Refute it at one input. -/
def tableRightWrong : ChangeSpec := { name := "tableRight", fn := fun _ => fun
  | [d1, d2, d3, d4, d5, d6] => { results := [.lit (.bool false)], args := [d1, d2, d3, d4, d5, d6] }
  | _ => none }
def TableRightWrongFalsely : Prop := tableRightRow.holds Try.pinned (OpenSpec.ofChange tableRightWrong)

/-- 'bywaylaw04.TrieRight': WHATEVER THE INPUT: true; the input reads as it did. -/
def trieRightSpec : ChangeSpec := { name := "trieRight", fn := fun _ => fun
  | [d1, d2] => { results := [.lit (.bool true)], args := [d1, d2] }
  | _ => none }
def trieRightRow : OpenClaim := { program := "ytggjcjijoihilaa", sum := "9710b817a3aa994573bb452fde013e943090e08b8200d0e7969a7d86def10251", func := "byway/bywaylaw04.TrieRight", spec := "trieRight", inPlace := ["internal/bytealg.Compare"], unfollowed := true, recurses := true, apart := false }
def TrieRightSaid : Prop := trieRightRow.holds Try.pinned (OpenSpec.ofChange trieRightSpec)

/-- ITS FALSE NEIGHBOUR: 'it returns false'. Refute it at one input. -/
def trieRightWrong : ChangeSpec := { name := "trieRight", fn := fun _ => fun
  | [d1, d2] => { results := [.lit (.bool false)], args := [d1, d2] }
  | _ => none }
def TrieRightWrongFalsely : Prop := trieRightRow.holds Try.pinned (OpenSpec.ofChange trieRightWrong)

/-- 'bywaylaw04.TrieBest': WHATEVER THE INPUT: true; the input reads as it did. -/
def trieBestSpec : ChangeSpec := { name := "trieBest", fn := fun _ => fun
  | [d1, d2, d3] => { results := [.lit (.bool true)], args := [d1, d2, d3] }
  | _ => none }
def trieBestRow : OpenClaim := { program := "ytggjcjijoihilaa", sum := "9710b817a3aa994573bb452fde013e943090e08b8200d0e7969a7d86def10251", func := "byway/bywaylaw04.TrieBest", spec := "trieBest", inPlace := ["internal/bytealg.Compare"], unfollowed := true, recurses := true, apart := false }
def TrieBestSaid : Prop := trieBestRow.holds Try.pinned (OpenSpec.ofChange trieBestSpec)

/-- ITS FALSE NEIGHBOUR: 'it returns false'. Refute it at one input. -/
def trieBestWrong : ChangeSpec := { name := "trieBest", fn := fun _ => fun
  | [d1, d2, d3] => { results := [.lit (.bool false)], args := [d1, d2, d3] }
  | _ => none }
def TrieBestWrongFalsely : Prop := trieBestRow.holds Try.pinned (OpenSpec.ofChange trieBestWrong)

/-- 'bywaylaw04.TrieWays': WHATEVER THE INPUT: true; the input reads as it did. -/
def trieWaysSpec : ChangeSpec := { name := "trieWays", fn := fun _ => fun
  | [d1, d2, d3, d4] => { results := [.lit (.bool true)], args := [d1, d2, d3, d4] }
  | _ => none }
def trieWaysRow : OpenClaim := { program := "ytggjcjijoihilaa", sum := "9710b817a3aa994573bb452fde013e943090e08b8200d0e7969a7d86def10251", func := "byway/bywaylaw04.TrieWays", spec := "trieWays", inPlace := ["internal/bytealg.Compare"], unfollowed := true, recurses := true, apart := false }
def TrieWaysSaid : Prop := trieWaysRow.holds Try.pinned (OpenSpec.ofChange trieWaysSpec)

/-- ITS FALSE NEIGHBOUR: 'it returns false'. Refute it at one input. -/
def trieWaysWrong : ChangeSpec := { name := "trieWays", fn := fun _ => fun
  | [d1, d2, d3, d4] => { results := [.lit (.bool false)], args := [d1, d2, d3, d4] }
  | _ => none }
def TrieWaysWrongFalsely : Prop := trieWaysRow.holds Try.pinned (OpenSpec.ofChange trieWaysWrong)

/-- 'bywaylaw04.TrieMore': WHATEVER THE INPUT: true; the input reads as it did. -/
def trieMoreSpec : ChangeSpec := { name := "trieMore", fn := fun _ => fun
  | [d1, d2, d3, d4] => { results := [.lit (.bool true)], args := [d1, d2, d3, d4] }
  | _ => none }
def trieMoreRow : OpenClaim := { program := "ytggjcjijoihilaa", sum := "9710b817a3aa994573bb452fde013e943090e08b8200d0e7969a7d86def10251", func := "byway/bywaylaw04.TrieMore", spec := "trieMore", inPlace := ["internal/bytealg.Compare", "slices.overlaps[byway/api.Route]"], unfollowed := true, recurses := true, apart := false }
def TrieMoreSaid : Prop := trieMoreRow.holds Try.pinned (OpenSpec.ofChange trieMoreSpec)

/-- ITS FALSE NEIGHBOUR: 'it returns false'. Refute it at one input. -/
def trieMoreWrong : ChangeSpec := { name := "trieMore", fn := fun _ => fun
  | [d1, d2, d3, d4] => { results := [.lit (.bool false)], args := [d1, d2, d3, d4] }
  | _ => none }
def TrieMoreWrongFalsely : Prop := trieMoreRow.holds Try.pinned (OpenSpec.ofChange trieMoreWrong)

/-- 'bywaylaw04.TrieDeep': WHATEVER THE INPUT: true; the input reads as it did. -/
def trieDeepSpec : ChangeSpec := { name := "trieDeep", fn := fun _ => fun
  | [d1, d2] => { results := [.lit (.bool true)], args := [d1, d2] }
  | _ => none }
def trieDeepRow : OpenClaim := { program := "ytggjcjijoihilaa", sum := "9710b817a3aa994573bb452fde013e943090e08b8200d0e7969a7d86def10251", func := "byway/bywaylaw04.TrieDeep", spec := "trieDeep", inPlace := ["internal/bytealg.Compare"], unfollowed := true, recurses := true, apart := false }
def TrieDeepSaid : Prop := trieDeepRow.holds Try.pinned (OpenSpec.ofChange trieDeepSpec)

/-- ITS FALSE NEIGHBOUR: 'it returns false'. Refute it at one input. -/
def trieDeepWrong : ChangeSpec := { name := "trieDeep", fn := fun _ => fun
  | [d1, d2] => { results := [.lit (.bool false)], args := [d1, d2] }
  | _ => none }
def TrieDeepWrongFalsely : Prop := trieDeepRow.holds Try.pinned (OpenSpec.ofChange trieDeepWrong)

/- THE SECOND FORM. 'bulk': how many values and letters a reading holds, each counted each time it is reached (what is shared counts as often as it is met; a slice's spare places count too). A statement '..UptoSaid' is the law's where the arguments, and the package variables that the reading takes, are together of bulk at most 1048576: NARROWER than '..Said'. Prove '..Said' where nothing that the law and all that it calls make is longer than what came in: it says more and counts as full. Else prove '..UptoSaid'. A law counts once. -/
mutual
def uptoBulk {H : Type} : DataW H → Nat
  | .lit (.string bytes) => bytes.length + 1
  | .lit _ => 1
  | .nil => 1
  | .ptr d => uptoBulk d + 1
  | .slice elems spare => uptoBulkAll elems + uptoBulkAll spare + 1
  | .agg parts => uptoBulkAll parts + 1
  | .iface _ d => uptoBulk d + 1
  | .map entries => uptoBulkEntries entries + 1
  | .held _ => 1
def uptoBulkAll {H : Type} : List (DataW H) → Nat
  | [] => 0
  | d :: r => uptoBulk d + uptoBulkAll r
def uptoBulkEntries {H : Type} : List (Lit × DataW H) → Nat
  | [] => 0
  | x :: r => uptoBulkEntry x + uptoBulkEntries r
def uptoBulkEntry {H : Type} : Lit × DataW H → Nat
  | (.string bytes, d) => bytes.length + uptoBulk d + 1
  | (_, d) => uptoBulk d + 1
 end
def uptoSmall : (H : Type) → List (DataW H) → Bool := fun _ ds => decide (uptoBulkAll ds ≤ 1048576)
def OpenSpec.upto (s : _root_.Go.ChangeSpec) : _root_.Go.OpenSpec := { _root_.Go.OpenSpec.ofChange s with cond := some uptoSmall }

/-- 'bywaylaw03.TableRight', WHERE WHAT IT READS IS OF BULK AT MOST 1048576: true; the input reads as it did. -/
def tableRightUptoRow : OpenClaim := { program := "ytggjcjijoihilaa", sum := "9710b817a3aa994573bb452fde013e943090e08b8200d0e7969a7d86def10251", func := "byway/bywaylaw03.TableRight", spec := "tableRight", inPlace := ["internal/bytealg.Compare", "slices.overlaps[byway/api.Route]"], unfollowed := true, recurses := true, apart := false, narrowed := true }
def TableRightUptoSaid : Prop := tableRightUptoRow.holds Try.pinned (OpenSpec.upto tableRightSpec)

/-- 'bywaylaw04.TrieRight', WHERE WHAT IT READS IS OF BULK AT MOST 1048576: true; the input reads as it did. -/
def trieRightUptoRow : OpenClaim := { program := "ytggjcjijoihilaa", sum := "9710b817a3aa994573bb452fde013e943090e08b8200d0e7969a7d86def10251", func := "byway/bywaylaw04.TrieRight", spec := "trieRight", inPlace := ["internal/bytealg.Compare"], unfollowed := true, recurses := true, apart := false, narrowed := true }
def TrieRightUptoSaid : Prop := trieRightUptoRow.holds Try.pinned (OpenSpec.upto trieRightSpec)

/-- 'bywaylaw04.TrieBest', WHERE WHAT IT READS IS OF BULK AT MOST 1048576: true; the input reads as it did. -/
def trieBestUptoRow : OpenClaim := { program := "ytggjcjijoihilaa", sum := "9710b817a3aa994573bb452fde013e943090e08b8200d0e7969a7d86def10251", func := "byway/bywaylaw04.TrieBest", spec := "trieBest", inPlace := ["internal/bytealg.Compare"], unfollowed := true, recurses := true, apart := false, narrowed := true }
def TrieBestUptoSaid : Prop := trieBestUptoRow.holds Try.pinned (OpenSpec.upto trieBestSpec)

/-- 'bywaylaw04.TrieWays', WHERE WHAT IT READS IS OF BULK AT MOST 1048576: true; the input reads as it did. -/
def trieWaysUptoRow : OpenClaim := { program := "ytggjcjijoihilaa", sum := "9710b817a3aa994573bb452fde013e943090e08b8200d0e7969a7d86def10251", func := "byway/bywaylaw04.TrieWays", spec := "trieWays", inPlace := ["internal/bytealg.Compare"], unfollowed := true, recurses := true, apart := false, narrowed := true }
def TrieWaysUptoSaid : Prop := trieWaysUptoRow.holds Try.pinned (OpenSpec.upto trieWaysSpec)

/-- 'bywaylaw04.TrieMore', WHERE WHAT IT READS IS OF BULK AT MOST 1048576: true; the input reads as it did. -/
def trieMoreUptoRow : OpenClaim := { program := "ytggjcjijoihilaa", sum := "9710b817a3aa994573bb452fde013e943090e08b8200d0e7969a7d86def10251", func := "byway/bywaylaw04.TrieMore", spec := "trieMore", inPlace := ["internal/bytealg.Compare", "slices.overlaps[byway/api.Route]"], unfollowed := true, recurses := true, apart := false, narrowed := true }
def TrieMoreUptoSaid : Prop := trieMoreUptoRow.holds Try.pinned (OpenSpec.upto trieMoreSpec)

/-- 'bywaylaw04.TrieDeep', WHERE WHAT IT READS IS OF BULK AT MOST 1048576: true; the input reads as it did. -/
def trieDeepUptoRow : OpenClaim := { program := "ytggjcjijoihilaa", sum := "9710b817a3aa994573bb452fde013e943090e08b8200d0e7969a7d86def10251", func := "byway/bywaylaw04.TrieDeep", spec := "trieDeep", inPlace := ["internal/bytealg.Compare"], unfollowed := true, recurses := true, apart := false, narrowed := true }
def TrieDeepUptoSaid : Prop := trieDeepUptoRow.holds Try.pinned (OpenSpec.upto trieDeepSpec)

end Rows
end Go.Proofs.Ytggjcjijoihilaa
