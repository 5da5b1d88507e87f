/- Whether two prefixes are the same, as the program asks it. A whole key, a whole prefix, stored. Plain laws: of two prefixes that may be just one is ahead, or they are the same. -/
import Derived.Test.YtggjcjijoihilaaKeyBase
import Derived.Test.YtggjcjijoihilaaKeyMay
import Derived.Test.YtggjcjijoihilaaKeyEnds
import Derived.Test.YtggjcjijoihilaaPure
namespace Go.Proofs.Ytggjcjijoihilaa
open Go.RowKit Go.Sort

theorem pc_key (p : Pre) : (pc p).extract 2 18 = kc p.key := by
  apply Array.ext_getElem?
  intro i
  rw [Array.getElem?_extract, pc_size]
  by_cases h : i < 16
  · rw [if_pos (by omega), pc_at p i h, kc_at _ i h]
  · rw [if_neg (by omega), Array.getElem?_eq_none (by rw [kc_size]; omega)]

/-- The comparison of two prefixes, behind a name, so that the walk meets it by a fact. -/
def preEql (x y : Value) : Sem Value := binOp .eql 26 x y
theorem binOp_preEql (x y : Value) : binOp .eql 26 x y = preEql x y := rfl

theorem run_preEql (p q : Pre) (w : World) : (preEql (.agg (pc p)) (.agg (pc q))).run Try.prog w = .ok (.bool (preEq p q)) w := by
  unfold preEql
  have h0 := pc_bits p
  have h1 := pc_bits q
  have h2 := pc_len p
  have h3 := pc_len q
  have h4 := pc_key p
  have h5 := pc_key q
  have hk := fun d => run_eqKey d p.key q.key w
  have hs : Try.prog.stoodInHeld 26 = false := by kernel_rfl
  have hf : Try.prog.underlying 26 = some (.struct (Try.prog.fieldsOf 26)) := by unfold Program.fieldsOf; rw [Try.underlying26]
  rw [run_eql_struct, run_equalIn_struct w 9999 26 _ _ hf hs]
  have hk := hk 9997
  unfold Program.fieldsOf
  rw [Try.underlying26]
  simp [Op.eqFields, part, isAgg, run_underlying Try.underlying3, run_underlying Try.underlying24, h0, h1, h2, h3, Sem.run_bind, run_equalIn_int w 9998 3 .i64 .i64 _ _ Try.underlying3, h4, h5, hk]
  unfold preEq
  by_cases e1 : p.bits = q.bits
  · by_cases e2 : p.len = q.len
    · cases keyEq p.key q.key <;> simp [e1, e2]
    · simp [e1, e2]
  · simp [e1]
end Go.Proofs.Ytggjcjijoihilaa
namespace Go.Proofs.Ytggjcjijoihilaa
open Go.RowKit Go.Sort
attribute [local go_sem ↓] loadVar_key loadVar_pre

def preStore (a : Addr) (v : Value) : Sem Unit := storeVar 26 a v

theorem storeVar_pre (a : Addr) (v : Value) : storeVar 26 a v = preStore a v := rfl

attribute [local go_sem ↓] storeVar_key storeVar_pre

theorem pc_one (p : Pre) : (pc p).all (·.oneCell') = true := by
  rw [Array.all_eq_true_iff_forall_mem]; intro v hv
  simp only [pc, List.mem_toArray, List.mem_cons] at hv
  rcases hv with rfl | rfl | hv
  · rfl
  · rfl
  · exact kl_one _ v hv

theorem run_preStore {w : World} {g : Nat} {cs : Array Value} {t : TypeId} {p : Pre} (hg : w.heap[g]? = some (.cells cs t (0, 0))) (hs : cs.size = 18) :
    (preStore ⟨g, 0, none⟩ (.agg (pc p))).run Try.prog w = .ok () (w.setRow g (pc p)) :=
  run_storeVar_row w g t 26 cs (pc p) hg (by rw [pc_size]; exact infoPre) (by rw [hs, pc_size]) (pc_one p)

/-- A key of a few first bytes. -/
def few (l : List Nat) : Nat → Nat := fun i => l.getD i 0

theorem few_bytes (l : List Nat) (h : ∀ x ∈ l, x < 256) : Bytes16 (few l) := fun i => by
  unfold few
  by_cases hi : i < l.length
  · rw [List.getD_eq_getElem?_getD, List.getElem?_eq_getElem hi]; exact h _ (List.getElem_mem hi)
  · rw [List.getD_eq_getElem?_getD, List.getElem?_eq_none (by omega)]; exact Nat.zero_lt_succ _

theorem calls_of_eq {f : FuncId} {args : Array Value} {w : World} {v v' : Value} (h : Calls Try.prog f args w fun e w' => e = .returned v ∧ Below w.heap.size w w') (e : v = v') :
    Calls Try.prog f args w fun e w' => e = .returned v' ∧ Below w.heap.size w w' := by rw [← e]; exact h

end Go.Proofs.Ytggjcjijoihilaa
namespace Go.Proofs.Ytggjcjijoihilaa
open Go.RowKit Go.Sort

theorem less_iff {p q : Pre} (mp : mayB p = true) (mq : mayB q = true) : lessB p q = true ↔ p.bits < q.bits ∨ (p.bits = q.bits ∧ (num p.key < num q.key ∨ (num p.key = num q.key ∧ p.len < q.len))) := by
  unfold lessB
  rw [mp, mq]
  by_cases e1 : p.bits = q.bits
  · by_cases e2 : num p.key = num q.key
    · simp [e1, e2]
    · simp [e1, e2]
  · simp [e1]

theorem pre_iff {p q : Pre} (hp : Bytes16 p.key) (hq : Bytes16 q.key) : preEq p q = true ↔ p.bits = q.bits ∧ p.len = q.len ∧ num p.key = num q.key := by
  unfold preEq
  simp only [Bool.and_eq_true, beq_iff_eq, keyEq_iff, num_eq hp hq, and_assoc]

/-- The laws of an order, of what the calls hand back. -/
theorem order_eq {p q : Pre} (hp : Bytes16 p.key) (hq : Bytes16 q.key) (mp : mayB p = true) (mq : mayB q = true) : preEq p q = (!lessB p q && !lessB q p) ∧ (lessB p q && lessB q p) = false := by
  have h1 := less_iff mp mq
  have h2 := less_iff mq mp
  have h3 := pre_iff hp hq
  generalize lessB p q = x at *
  generalize lessB q p = y at *
  generalize preEq p q = e at *
  generalize num p.key = a at *
  generalize num q.key = b at *
  cases x <;> cases y <;> cases e <;> simp at h1 h2 h3 ⊢ <;> omega

theorem order_trans {p q r : Pre} (mp : mayB p = true) (mq : mayB q = true) (mr : mayB r = true) (h1 : lessB p q = true) (h2 : lessB q r = true) : lessB p r = true := by
  rw [less_iff mp mq] at h1
  rw [less_iff mq mr] at h2
  rw [less_iff mp mr]
  omega

end Go.Proofs.Ytggjcjijoihilaa
