/- A reserve with none bad, one of whose blocks is replaced again and again, plainly. -/
import Derived.Test.YteifldppipnodaaBadAwake
namespace Go.Proofs.Yteifldppipnodaa.Bad

theorem good_step {st rest : List Nat} {k y : Nat} (h : Good st (y :: rest)) (hk : k < st.length) : Good (st.set k y) rest := by
  have e1 : st = st.take k ++ st[k] :: st.drop (k + 1) := by rw [List.getElem_cons_drop, List.take_append_drop]
  have e2 : st.set k y = st.take k ++ y :: st.drop (k + 1) := by rw [List.set_eq_take_append_cons_drop, if_pos hk]
  have hp : (st ++ y :: rest).Perm (st[k] :: (st.set k y ++ rest)) := by
    rw [e2]
    conv => lhs; rw [e1]
    simp only [List.append_assoc, List.cons_append]
    refine List.perm_middle.trans (List.Perm.cons _ ?_)
    refine List.Perm.append_left _ ?_
    exact List.perm_middle
  have hn := hp.nodup_iff.1 h.nodup
  have hl := hp.length_eq
  have h255 := h.few
  refine ⟨(List.nodup_cons.1 hn).2, fun x hx => h.small x (hp.mem_iff.2 (List.mem_cons_of_mem _ hx)), ?_, ?_⟩
  · rw [List.length_append, List.length_set]; omega
  · rw [List.length_cons] at hl; omega
def stG (n k : Nat) : Nat → List Nat
  | 0 => List.range n
  | i + 1 => (stG n k i).set k (n + i)
def lfG (n m i : Nat) : List Nat := (List.range (n + m)).drop (n + i)
theorem stG_length (n k : Nat) : ∀ i, (stG n k i).length = n
  | 0 => List.length_range
  | i + 1 => by show ((stG n k i).set k (n + i)).length = n; rw [List.length_set, stG_length n k i]
theorem lfG_next {n m i : Nat} (h : i < m) : lfG n m i = (n + i) :: lfG n m (i + 1) := by
  unfold lfG
  rw [List.drop_eq_getElem_cons (by rw [List.length_range]; omega), List.getElem_range]
  rfl
theorem lfG_end (n m : Nat) : lfG n m m = [] := by
  unfold lfG
  exact List.drop_of_length_le (by rw [List.length_range]; exact Nat.le_refl _)
theorem stG_at {n k : Nat} (hk : k < n) (i : Nat) : (stG n k (i + 1))[k]? = some (n + i) := by
  show ((stG n k i).set k (n + i))[k]? = _
  rw [List.getElem?_set_self (by rw [stG_length]; exact hk)]
theorem stG_other {n k j : Nat} (hj : j < n) (hne : j ≠ k) : ∀ i, (stG n k i)[j]? = some j
  | 0 => by show (List.range n)[j]? = _; rw [List.getElem?_eq_getElem (by rw [List.length_range]; exact hj), List.getElem_range]
  | i + 1 => by
    show ((stG n k i).set k (n + i))[j]? = _
    rw [List.getElem?_set_ne (fun e => hne e.symm)]
    exact stG_other hj hne i
theorem goodG {n m k : Nat} (hn : 1 ≤ n) (hm : n + m ≤ 255) (hk : k < n) : ∀ i, i ≤ m → Good (stG n k i) (lfG n m i)
  | 0, _ => by
    have e : stG n k 0 ++ lfG n m 0 = List.range (n + m) := by
      show List.range n ++ (List.range (n + m)).drop n = _
      conv => rhs; rw [← List.take_append_drop n (List.range (n + m))]
      rw [List.take_range, Nat.min_eq_left (by omega)]
    refine ⟨by rw [e]; exact List.nodup_range, fun x hx => ?_, by rw [e, List.length_range]; omega, by rw [e, List.length_range]; omega⟩
    rw [e] at hx
    have := List.mem_range.1 hx
    omega
  | i + 1, h => by
    have hG := goodG hn hm hk i (by omega)
    rw [lfG_next (by omega)] at hG
    exact good_step hG (by rw [stG_length]; exact hk)
theorem free_all (n : Nat) : freeL [] n = List.range n := by
  unfold freeL
  rw [List.filter_eq_self]
  intro x _
  simp
theorem take_all (n m : Nat) : (freeL [] (n + m)).take n = stG n 0 0 := by
  rw [free_all, List.take_range, Nat.min_eq_left (by omega)]; rfl
theorem drop_all (n m : Nat) : (freeL [] (n + m)).drop n = lfG n m 0 := by
  rw [free_all]; rfl
theorem stG_zero (n k : Nat) : stG n 0 0 = stG n k 0 := rfl
end Go.Proofs.Yteifldppipnodaa.Bad
