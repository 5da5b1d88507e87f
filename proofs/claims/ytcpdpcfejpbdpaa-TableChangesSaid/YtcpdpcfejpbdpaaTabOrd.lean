/- Plain: a prefix that may be, as a number in the document's order. -/
import Derived.Test.YtcpdpcfejpbdpaaTabPure
import Derived.Test.YtcpdpcfejpbdpaaTabStab
import Derived.Test.YtcpdpcfejpbdpaaTabSw
namespace Go.Proofs.Ytcpdpcfejpbdpaa

theorem numTo_bound {k : Nat → Nat} (h : Bytes16 k) : ∀ n, numTo k n < 256 ^ n
  | 0 => by simp [numTo]
  | n + 1 => by
    have := numTo_bound h n
    have h2 := h n
    simp only [numTo, Nat.pow_succ]
    omega
theorem num_bound {k : Nat → Nat} (h : Bytes16 k) : num k < 340282366920938463463374607431768211456 := by
  have := numTo_bound h 16
  unfold num
  simpa using this

def ordN (p : Pre) : Nat := (p.bits.toNat * 340282366920938463463374607431768211456 + num p.key) * 256 + p.len.toNat
def oR (r : Rt) : Nat := ordN r.pre

theorem may_bounds {p : Pre} (h : mayB p = true) : (p.bits = 32 ∨ p.bits = 128) ∧ 0 ≤ p.len ∧ p.len ≤ 128 := by
  unfold mayB at h
  simp only [Bool.and_eq_true, Bool.or_eq_true, beq_iff_eq, decide_eq_true_eq] at h
  obtain ⟨⟨⟨h1, h2⟩, h3⟩, -⟩ := h
  omega

theorem less_ord {p q : Pre} (hp : Bytes16 p.key) (hq : Bytes16 q.key) (mp : mayB p = true) (mq : mayB q = true) : lessB p q = true ↔ ordN p < ordN q := by
  rw [less_iff mp mq]
  obtain ⟨a1, a2, a3⟩ := may_bounds mp
  obtain ⟨b1, b2, b3⟩ := may_bounds mq
  have c1 := num_bound hp
  have c2 := num_bound hq
  unfold ordN
  generalize num p.key = x at *
  generalize num q.key = y at *
  omega
theorem eq_ord {p q : Pre} (hp : Bytes16 p.key) (hq : Bytes16 q.key) (mp : mayB p = true) (mq : mayB q = true) : preEq p q = true ↔ ordN p = ordN q := by
  rw [pre_iff hp hq]
  obtain ⟨a1, a2, a3⟩ := may_bounds mp
  obtain ⟨b1, b2, b3⟩ := may_bounds mq
  have c1 := num_bound hp
  have c2 := num_bound hq
  unfold ordN
  generalize num p.key = x at *
  generalize num q.key = y at *
  omega

def AllMay (l : List Rt) : Prop := ∀ r ∈ l, mayB r.pre = true
theorem AllMay.cls {l l' : List Rt} (h : AllMay l) (hc : Cls oR l' l) : AllMay l' := fun r hr => h r (hc.mem.1 hr)
theorem AllMay.left {a b : List Rt} (h : AllMay (a ++ b)) : AllMay a := fun r hr => h r (List.mem_append_left _ hr)
theorem AllMay.right {a b : List Rt} (h : AllMay (a ++ b)) : AllMay b := fun r hr => h r (List.mem_append_right _ hr)
theorem AllMay.mid {a b c : List Rt} (h : AllMay (a ++ b ++ c)) : AllMay b := h.left.right

theorem ordZ_neg {r s : Rt} (mr : mayB r.pre = true) (ms : mayB s.pre = true) : ordZ r.pre s.pre < 0 ↔ oR r < oR s := by
  unfold oR
  rw [← less_ord r.hk s.hk mr ms]
  unfold ordZ
  constructor
  · intro h
    by_cases h1 : lessB r.pre s.pre = true
    · exact h1
    · rw [if_neg h1] at h
      split at h <;> omega
  · intro h
    rw [if_pos h]; decide
end Go.Proofs.Ytcpdpcfejpbdpaa
