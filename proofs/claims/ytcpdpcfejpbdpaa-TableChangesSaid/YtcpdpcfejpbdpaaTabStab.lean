/- Plain laws on stable sorting: lists in order by a number, and the same in each class. Nothing of the program is named. -/
namespace Go.Proofs.Ytcpdpcfejpbdpaa
section
variable {α : Type} (o : α → Nat)

/-- In order, ties allowed. -/
def Srt (l : List α) : Prop := l.Pairwise fun a b => o a ≤ o b
/-- The same elements, and of those that tie in the same order. -/
def Cls (l l' : List α) : Prop := ∀ n, l.filter (fun x => o x == n) = l'.filter (fun x => o x == n)

variable {o}
theorem Cls.refl (l : List α) : Cls o l l := fun _ => rfl
theorem Cls.symm {a b : List α} (h : Cls o a b) : Cls o b a := fun n => (h n).symm
theorem Cls.trans {a b c : List α} (h : Cls o a b) (k : Cls o b c) : Cls o a c := fun n => (h n).trans (k n)
theorem Cls.app {a b c d : List α} (h : Cls o a b) (k : Cls o c d) : Cls o (a ++ c) (b ++ d) := fun n => by rw [List.filter_append, List.filter_append, h n, k n]
theorem Cls.mem {a b : List α} (h : Cls o a b) {x : α} : x ∈ a ↔ x ∈ b := by
  have e : ∀ l : List α, x ∈ l ↔ x ∈ l.filter (fun y => o y == o x) := fun l => by simp [List.mem_filter]
  rw [e a, e b, h (o x)]
theorem Cls.swap {u v : List α} (h : ∀ x ∈ u, ∀ y ∈ v, o x ≠ o y) : Cls o (u ++ v) (v ++ u) := fun n => by
  rw [List.filter_append, List.filter_append]
  by_cases hu : u.filter (fun x => o x == n) = []
  · rw [hu]; simp
  · obtain ⟨x, hx⟩ := List.exists_mem_of_ne_nil _ hu
    rw [List.mem_filter] at hx
    have hv : v.filter (fun x => o x == n) = [] := by
      rw [List.filter_eq_nil_iff]
      intro y hy e
      have e1 := beq_iff_eq.1 hx.2
      have e2 := beq_iff_eq.1 e
      exact h x hx.1 y hy (by omega)
    rw [hv]; simp
theorem Cls.mid {p u v q : List α} (h : Cls o u v) : Cls o (p ++ u ++ q) (p ++ v ++ q) := ((Cls.refl p).app h).app (Cls.refl q)
theorem Cls.swap_at {p u v q : List α} (h : ∀ x ∈ u, ∀ y ∈ v, o x ≠ o y) : Cls o (p ++ u ++ v ++ q) (p ++ v ++ u ++ q) := by
  have := Cls.mid (p := p) (q := q) (Cls.swap h)
  rwa [← List.append_assoc, ← List.append_assoc] at this

theorem Cls.length {a b : List α} (h : Cls o a b) : a.length = b.length := by
  induction a generalizing b with
  | nil =>
    cases b with
    | nil => rfl
    | cons y b => exact absurd ((h.mem (x := y)).2 (List.mem_cons_self)) (by simp)
  | cons x a ih =>
    have hx : x ∈ b := h.mem.1 List.mem_cons_self
    -- split b at its first of x's class
    have : ∃ s t, b = s ++ x :: t ∧ ∀ y ∈ s, o y ≠ o x := by
      have hf := h (o x)
      simp only [List.filter_cons, beq_self_eq_true, if_true] at hf
      clear ih h
      induction b with
      | nil => simp at hx
      | cons y b ihb =>
        by_cases e : o y = o x
        · simp only [List.filter_cons, e, beq_self_eq_true, if_true, List.cons.injEq] at hf
          exact ⟨[], b, by rw [hf.1]; rfl, by simp⟩
        · have e2 : (o y == o x) = false := by simpa using e
          rcases List.mem_cons.1 hx with rfl | hx'
          · exact absurd rfl e
          · rw [List.filter_cons, e2] at hf
            obtain ⟨s, t, rfl, hs⟩ := ihb hx' hf
            exact ⟨y :: s, t, rfl, fun z hz => by
              rcases List.mem_cons.1 hz with rfl | hz
              · exact e
              · exact hs z hz⟩
    obtain ⟨s, t, rfl, hs⟩ := this
    have h2 : Cls o a (s ++ t) := fun n => by
      have := h n
      rw [List.filter_append, List.filter_cons, List.filter_cons] at this
      rw [List.filter_append]
      by_cases e : o x = n
      · have e2 : (o x == n) = true := by simpa using e
        have hsn : s.filter (fun y => o y == n) = [] := by
          rw [List.filter_eq_nil_iff]
          intro y hy he
          exact hs y hy ((beq_iff_eq.1 he).trans e.symm)
        rw [e2, if_pos rfl, if_pos rfl, hsn, List.nil_append, List.cons.injEq] at this
        rw [this.2, hsn, List.nil_append]
      · have e2 : (o x == n) = false := by simpa using e
        rw [e2, if_neg Bool.false_ne_true, if_neg Bool.false_ne_true] at this
        exact this
    rw [List.length_cons, ih h2]
    simp only [List.length_append, List.length_cons]; omega

theorem Srt.app {a b : List α} (ha : Srt o a) (hb : Srt o b) (h : ∀ x ∈ a, ∀ y ∈ b, o x ≤ o y) : Srt o (a ++ b) := List.pairwise_append.2 ⟨ha, hb, h⟩
theorem Srt.left {a b : List α} (h : Srt o (a ++ b)) : Srt o a := (List.pairwise_append.1 h).1
theorem Srt.right {a b : List α} (h : Srt o (a ++ b)) : Srt o b := (List.pairwise_append.1 h).2.1
theorem Srt.across {a b : List α} (h : Srt o (a ++ b)) : ∀ x ∈ a, ∀ y ∈ b, o x ≤ o y := (List.pairwise_append.1 h).2.2
theorem srt_one (x : α) : Srt o [x] := List.pairwise_singleton _ _
theorem Srt.get {l : List α} (h : Srt o l) {i j : Nat} {x y : α} (hij : i ≤ j) (hx : l[i]? = some x) (hy : l[j]? = some y) : o x ≤ o y := by
  by_cases e : i = j
  · subst e; rw [hx] at hy; simp only [Option.some.injEq] at hy; rw [hy]; exact Nat.le_refl _
  · obtain ⟨h1, e1⟩ := List.getElem?_eq_some_iff.1 hx
    obtain ⟨h2, e2⟩ := List.getElem?_eq_some_iff.1 hy
    have := List.pairwise_iff_getElem.1 h i j h1 h2 (by omega)
    rw [e1, e2] at this
    exact this
theorem Cls.le_across {a b a' b' : List α} (ha : Cls o a a') (hb : Cls o b b') (h : ∀ x ∈ a', ∀ y ∈ b', o x ≤ o y) : ∀ x ∈ a, ∀ y ∈ b, o x ≤ o y := fun x hx y hy => h x (ha.mem.1 hx) y (hb.mem.1 hy)

/-- Two swapped, wherever they stand. -/
theorem swap_two (p m q : List α) (x y : α) : ((p ++ x :: (m ++ y :: q)).set p.length y).set (p.length + 1 + m.length) x = p ++ y :: (m ++ x :: q) := by
  rw [List.set_append_right _ _ (Nat.le_refl _), Nat.sub_self, List.set_cons_zero, List.set_append_right _ _ (by omega), show p.length + 1 + m.length - p.length = m.length + 1 by omega, List.set_cons_succ, List.set_append_right _ _ (Nat.le_refl _), Nat.sub_self, List.set_cons_zero]
theorem get_first (p q : List α) (x : α) : (p ++ x :: q)[p.length]? = some x := by
  rw [List.getElem?_append_right (Nat.le_refl _), Nat.sub_self]; rfl
theorem get_second (p m q : List α) (x y : α) : (p ++ x :: (m ++ y :: q))[p.length + 1 + m.length]? = some y := by
  rw [List.getElem?_append_right (by omega), show p.length + 1 + m.length - p.length = m.length + 1 by omega, List.getElem?_cons_succ]
  exact get_first m q y
end
end Go.Proofs.Ytcpdpcfejpbdpaa
