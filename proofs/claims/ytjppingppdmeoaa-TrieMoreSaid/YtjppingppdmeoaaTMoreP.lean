/- A route more in a table: what its trie finds, and what of it changes. -/
import Derived.Test.YtjppingppdmeoaaTBestP
namespace Go.Proofs.Ytjppingppdmeoaa

theorem best_zero {l : List Rt} {k : Nat → Nat} {bits : Int} (hr : rightB l = true) (hm : mayB (wholeP k bits) = false) : bestL l k bits = (zrt, 1) := by
  unfold bestL; rw [hr, hm]; rfl
theorem best_of {l : List Rt} (h : Good l) (hl : l.length ≤ 256) {k : Nat → Nat} (hk : Bytes16 k) {bits : Int} {x : Rt} (hx : BestIs l k bits x) : bestL l k bits = (x, 0) := by
  rcases best_cases h hl hk bits with ⟨e, h1, h2, h3, h4⟩ | ⟨r, h1, h2⟩
  · have := h4 x hx.mem hx.bit; rw [hx.fit] at this; cases this
  · rw [h1, best_one h hk h2 hx]
/-- Who is best in one table is best in another: both answer the same. -/
theorem best_move {l u : List Rt} (h : Good l) (hl : l.length ≤ 256) (hu : Good u) (hul : u.length ≤ 256) {k : Nat → Nat} (hk : Bytes16 k) {bits : Int}
    (h1 : ∀ x, BestIs l k bits x → BestIs u k bits x) (h2 : (∀ r ∈ l, r.pre.bits = bits → fitsB r.pre k = false) → ∀ r ∈ u, r.pre.bits = bits → fitsB r.pre k = false) : bestL u k bits = bestL l k bits := by
  rcases best_cases h hl hk bits with ⟨e, e1, e2, e3, e4⟩ | ⟨r, e1, e2⟩
  · cases hw : mayB (wholeP k bits) with
    | false => rw [best_zero ((right_iff u).2 ⟨hul, hu⟩) hw, best_zero ((right_iff l).2 ⟨hl, h⟩) hw]
    | true =>
      rw [e1, e3 hw]
      rcases best_cases hu hul hk bits with ⟨f, f1, f2, f3, f4⟩ | ⟨q, f1, f2⟩
      · rw [f1, f3 hw]
      · have := h2 e4 q f2.mem f2.bit; rw [f2.fit] at this; cases this
  · rw [e1, best_of hu hul hk (h1 r e2)]

/-- A table with a route more. -/
structure More (l : List Rt) (r : Rt) (u : List Rt) : Prop where
  may : mayB r.pre = true
  good : Good u
  few : u.length ≤ 256
  here : r ∈ u
  old : ∀ q ∈ u, q = r ∨ q ∈ l
  keep : ∀ q ∈ l, q ∈ u ∨ q.pre = r.pre
  tree : ∀ bits, r.pre.bits ≠ bits → treeL u bits = treeL l bits
theorem tree_skip {A C : List Rt} {r : Rt} {bits : Int} (h : r.pre.bits ≠ bits) : treeL (A ++ r :: C) bits = treeL (A ++ C) bits := by
  unfold treeL
  rw [adds_append, adds_append]
  conv => lhs; unfold Tr.adds
  rw [if_neg h]
theorem more_is {l : List Rt} (h : Good l) (hl : l.length ≤ 256) (r : Rt) (h0 : (applyL l [⟨r, false⟩]).2 = 0) : More l r (applyL l [⟨r, false⟩]).1 := by
  obtain ⟨hg, hgl⟩ := apply_good h hl [⟨r, false⟩]
  have hfold : foldL l [⟨r, false⟩] = if (changeL l ⟨r, false⟩).2 = 0 then ((changeL l ⟨r, false⟩).1, 0) else ([], (changeL l ⟨r, false⟩).2) := rfl
  rw [apply_right h hl, hfold] at h0 hg hgl ⊢
  have h1 : (changeL l ⟨r, false⟩).2 = 0 := by
    by_cases c : (changeL l ⟨r, false⟩).2 = 0
    · exact c
    · rw [if_neg c] at h0; simp only [if_neg c] at h0; exact absurd h0 c
  rw [if_pos h1] at hg hgl ⊢
  simp only [if_true] at hg hgl ⊢
  have hm : mayB r.pre = true := by
    cases e : mayB r.pre with
    | true => rfl
    | false => unfold changeL at h1; simp only [e] at h1; simp at h1
  cases ht : thereB l r.pre (idxL l r.pre) with
  | true =>
    have hc : changeL l ⟨r, false⟩ = (l.set (idxL l r.pre) r, 0) := by
      unfold changeL; simp only [hm, ht, if_true, Bool.false_eq_true, if_false]
    rw [hc] at hg hgl ⊢
    obtain ⟨s, hs, hse, hat⟩ := there_find ht
    have hpre := rt_pre_ext hse
    generalize hi : idxL l r.pre = i at *
    obtain ⟨hlt, hval⟩ := List.getElem?_eq_some_iff.1 hat
    have hset : l.set i r = l.take i ++ r :: l.drop (i + 1) := List.set_eq_take_append_cons_drop .. |>.trans (if_pos hlt)
    have hold : l = l.take i ++ s :: l.drop (i + 1) := by
      rw [← hval, List.getElem_cons_drop, List.take_append_drop]
    show More l r (l.set i r)
    simp only at hg hgl
    refine ⟨hm, hg, hgl, ?_, ?_, ?_, ?_⟩
    · rw [hset]; simp
    · intro q hq
      rw [hset] at hq
      rw [hold]
      simp only [List.mem_append, List.mem_cons] at hq ⊢
      rcases hq with h2 | h2 | h2
      · exact .inr (.inl h2)
      · exact .inl h2
      · exact .inr (.inr (.inr h2))
    · intro q hq
      rw [hold] at hq
      rw [hset]
      simp only [List.mem_append, List.mem_cons] at hq ⊢
      rcases hq with h2 | h2 | h2
      · exact .inl (.inl h2)
      · exact .inr (by rw [h2]; exact hpre)
      · exact .inl (.inr (.inr h2))
    · intro bits hb
      rw [hset, tree_skip hb]
      conv => rhs; rw [hold]
      rw [tree_skip (by rw [hpre]; exact hb)]
  | false =>
    by_cases h256 : l.length = 256
    · exfalso
      unfold changeL at h1; simp only [hm, ht, if_true, Bool.false_eq_true, if_false, if_pos h256] at h1
      simp at h1
    · have hc : changeL l ⟨r, false⟩ = (insL l (idxL l r.pre) r, 0) := by
        unfold changeL; simp only [hm, ht, if_true, Bool.false_eq_true, if_false]; rw [if_neg h256]
      rw [hc] at hg hgl ⊢
      refine ⟨hm, hg, hgl, (ins_mem _ _ _ _).2 (.inr rfl), ?_, ?_, ?_⟩
      · intro q hq
        rcases (ins_mem _ _ _ _).1 hq with h2 | h2
        · exact .inr h2
        · exact .inl h2
      · exact fun q hq => .inl ((ins_mem _ _ _ _).2 (.inl hq))
      · intro bits hb
        show treeL (insL l _ r) bits = _
        unfold insL
        rw [tree_skip hb, List.take_append_drop]

theorem more_other {l u : List Rt} {r : Rt} (h : Good l) (hl : l.length ≤ 256) (hu : More l r u) {k : Nat → Nat} (hk : Bytes16 k) {bits : Int} (hb : r.pre.bits ≠ bits ∨ fitsB r.pre k = false) : bestL u k bits = bestL l k bits := by
  refine best_move h hl hu.good hu.few hk (fun x hx => ?_) (fun hno q hq hqb => ?_)
  · refine ⟨?_, hx.bit, hx.fit, fun q hq hqb hqf => ?_⟩
    · rcases hu.keep x hx.mem with e | e
      · exact e
      · exfalso
        rcases hb with hb | hb
        · exact hb (by rw [← e]; exact hx.bit)
        · rw [← e, hx.fit] at hb; cases hb
    · rcases hu.old q hq with e | e
      · exfalso
        rcases hb with hb | hb
        · exact hb (by rw [← e]; exact hqb)
        · rw [← e, hqf] at hb; cases hb
      · exact hx.most q e hqb hqf
  · rcases hu.old q hq with e | e
    · rcases hb with hb | hb
      · exact absurd (by rw [← e]; exact hqb) hb
      · rw [e]; exact hb
    · exact hno q e hqb
theorem more_long {l u : List Rt} {r : Rt} (h : Good l) (hl : l.length ≤ 256) (hu : More l r u) {k : Nat → Nat} (hk : Bytes16 k) {bits : Int} {x : Rt} (hx : bestL l k bits = (x, 0)) (hlt : r.pre.len < x.pre.len) : bestL u k bits = bestL l k bits := by
  have hx2 : BestIs l k bits x := by
    rcases best_cases h hl hk bits with ⟨e, h1, h2, -⟩ | ⟨q, h1, h2⟩
    · rw [hx] at h1; simp only [Prod.mk.injEq] at h1; rcases h2 with h2 | h2 <;> omega
    · rw [hx] at h1; simp only [Prod.mk.injEq] at h1; rw [h1.1]; exact h2
  rw [hx]
  refine best_of hu.good hu.few hk ⟨?_, hx2.bit, hx2.fit, fun q hq hqb hqf => ?_⟩
  · rcases hu.keep x hx2.mem with e | e
    · exact e
    · rw [e] at hlt; omega
  · rcases hu.old q hq with e | e
    · rw [e]; omega
    · exact hx2.most q e hqb hqf
theorem more_new {l u : List Rt} {r : Rt} (h : Good l) (hl : l.length ≤ 256) (hu : More l r u) {k : Nat → Nat} (hk : Bytes16 k) {bits : Int} (hb : r.pre.bits = bits) (hf : fitsB r.pre k = true) (hno : (bestL l k bits).2 = 0 → (bestL l k bits).1.pre.len ≤ r.pre.len) : bestL u k bits = (r, 0) := by
  refine best_of hu.good hu.few hk ⟨hu.here, hb, hf, fun q hq hqb hqf => ?_⟩
  rcases hu.old q hq with e | e
  · rw [e]; exact Int.le_refl _
  · rcases best_cases h hl hk bits with ⟨e', h1, h2, h3, h4⟩ | ⟨x, h1, h2⟩
    · have := h4 q e hqb; rw [hqf] at this; cases this
    · have := hno (by rw [h1])
      rw [h1] at this
      have h5 := h2.most q e hqb hqf
      simp only at this
      omega
end Go.Proofs.Ytjppingppdmeoaa
