/- Plain laws: of two prefixes that may be just one is ahead, or they are the same. -/
import Derived.Test.YtcpdpcfejpbdpaaPureLaws
import Derived.Test.YtcpdpcfejpbdpaaKeyBase
namespace Go.Proofs.Ytcpdpcfejpbdpaa
open Go.RowKit Go.Sort

theorem less_iff {p q : Pre} (mp : mayB p = true) (mq : mayB q = true) : lessB p q = true ↔ p.bits < q.bits ∨ (p.bits = q.bits ∧ (num p.key < num q.key ∨ (num p.key = num q.key ∧ p.len < q.len))) := by
  unfold lessB
  rw [mp, mq]
  by_cases e1 : p.bits = q.bits
  · by_cases e2 : num p.key = num q.key
    · simp [e1, e2]
    · simp [e1, e2]
  · simp [e1]

theorem pre_iff {p q : Pre} (hp : Bytes16 p.key) (hq : Bytes16 q.key) : preEq p q = true ↔ p.bits = q.bits ∧ p.len = q.len ∧ num p.key = num q.key := by
  unfold preEq
  simp only [Bool.and_eq_true, beq_iff_eq, keyEq_iff, num_eq hp hq, and_assoc]

/-- The laws of an order, of what the calls hand back. -/
theorem order_eq {p q : Pre} (hp : Bytes16 p.key) (hq : Bytes16 q.key) (mp : mayB p = true) (mq : mayB q = true) : preEq p q = (!lessB p q && !lessB q p) ∧ (lessB p q && lessB q p) = false := by
  have h1 := less_iff mp mq
  have h2 := less_iff mq mp
  have h3 := pre_iff hp hq
  generalize lessB p q = x at *
  generalize lessB q p = y at *
  generalize preEq p q = e at *
  generalize num p.key = a at *
  generalize num q.key = b at *
  cases x <;> cases y <;> cases e <;> simp at h1 h2 h3 ⊢ <;> omega

theorem order_trans {p q r : Pre} (mp : mayB p = true) (mq : mayB q = true) (mr : mayB r = true) (h1 : lessB p q = true) (h2 : lessB q r = true) : lessB p r = true := by
  rw [less_iff mp mq] at h1
  rw [less_iff mq mr] at h2
  rw [less_iff mp mr]
  omega

end Go.Proofs.Ytcpdpcfejpbdpaa
