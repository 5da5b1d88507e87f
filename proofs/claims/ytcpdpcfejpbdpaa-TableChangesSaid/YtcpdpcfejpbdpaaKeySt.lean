/- A whole key, a whole prefix, stored. -/
import Derived.Test.YtcpdpcfejpbdpaaKeyCut
namespace Go.Proofs.Ytcpdpcfejpbdpaa
open Go.RowKit Go.Sort
attribute [local go_sem ↓] loadVar_key loadVar_pre

def preStore (a : Addr) (v : Value) : Sem Unit := storeVar 26 a v

theorem storeVar_pre (a : Addr) (v : Value) : storeVar 26 a v = preStore a v := rfl

attribute [local go_sem ↓] storeVar_key storeVar_pre

theorem pc_one (p : Pre) : (pc p).all (·.oneCell') = true := by
  rw [Array.all_eq_true_iff_forall_mem]; intro v hv
  simp only [pc, List.mem_toArray, List.mem_cons] at hv
  rcases hv with rfl | rfl | hv
  · rfl
  · rfl
  · exact kl_one _ v hv

theorem run_preStore {w : World} {g : Nat} {cs : Array Value} {t : TypeId} {p : Pre} (hg : w.heap[g]? = some (.cells cs t (0, 0))) (hs : cs.size = 18) :
    (preStore ⟨g, 0, none⟩ (.agg (pc p))).run Try.prog w = .ok () (w.setRow g (pc p)) :=
  run_storeVar_row w g t 26 cs (pc p) hg (by rw [pc_size]; exact infoPre) (by rw [hs, pc_size]) (pc_one p)

/-- A key of a few first bytes. -/
def few (l : List Nat) : Nat → Nat := fun i => l.getD i 0

theorem few_bytes (l : List Nat) (h : ∀ x ∈ l, x < 256) : Bytes16 (few l) := fun i => by
  unfold few
  by_cases hi : i < l.length
  · rw [List.getD_eq_getElem?_getD, List.getElem?_eq_getElem hi]; exact h _ (List.getElem_mem hi)
  · rw [List.getD_eq_getElem?_getD, List.getElem?_eq_none (by omega)]; exact Nat.zero_lt_succ _

theorem calls_of_eq {f : FuncId} {args : Array Value} {w : World} {v v' : Value} (h : Calls Try.prog f args w fun e w' => e = .returned v ∧ Below w.heap.size w w') (e : v = v') :
    Calls Try.prog f args w fun e w' => e = .returned v' ∧ Below w.heap.size w w' := by rw [← e]; exact h

end Go.Proofs.Ytcpdpcfejpbdpaa
