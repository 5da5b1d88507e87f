/- Plain laws on lists of routes that are in order. -/
import Derived.Test.YtcpdpcfejpbdpaaTabRt
namespace Go.Proofs.Ytcpdpcfejpbdpaa

/-- In order: each may be, and is ahead of all behind it. -/
structure Good (l : List Rt) : Prop where
  may : ∀ r ∈ l, mayB r.pre = true
  ord : l.Pairwise fun a b => lessB a.pre b.pre = true

theorem less_may {p q : Pre} (h : lessB p q = true) : mayB p = true ∧ mayB q = true := by
  unfold lessB at h
  simp only [Bool.and_eq_true] at h
  exact h.1
theorem less_trans {p q r : Pre} (h1 : lessB p q = true) (h2 : lessB q r = true) : lessB p r = true :=
  order_trans (less_may h1).1 (less_may h1).2 (less_may h2).2 h1 h2
theorem less_irrefl (p : Pre) : lessB p p = false := by
  unfold lessB; simp
theorem less_asymm {p q : Pre} (h : lessB p q = true) : lessB q p = false := by
  cases e : lessB q p with
  | false => rfl
  | true => have := less_irrefl p; rw [less_trans h e] at this; exact this

theorem Good.nil : Good [] := ⟨by simp, List.Pairwise.nil⟩
theorem Good.tail {r : Rt} {l : List Rt} (h : Good (r :: l)) : Good l := ⟨fun s hs => h.may s (List.mem_cons_of_mem _ hs), (List.pairwise_cons.1 h.ord).2⟩
theorem Good.cons {r : Rt} {l : List Rt} (hm : mayB r.pre = true) (ho : ∀ s ∈ l, lessB r.pre s.pre = true) (h : Good l) : Good (r :: l) :=
  ⟨fun s hs => by rcases List.mem_cons.1 hs with rfl | hs; · exact hm
                  · exact h.may s hs, List.pairwise_cons.2 ⟨ho, h.ord⟩⟩
theorem Good.sub {l l' : List Rt} (h : Good l) (hs : l'.Sublist l) : Good l' := ⟨fun s hm => h.may s (hs.subset hm), h.ord.sublist hs⟩

/-- Pairwise by neighbours. -/
theorem good_iff (l : List Rt) : Good l ↔ ∀ i r, l[i]? = some r → badAt l i = false := by
  constructor
  · intro h i r hr
    unfold badAt badB
    rw [hr]
    simp only [h.may r (List.mem_of_getElem? hr), if_true]
    cases i with
    | zero => simp
    | succ j =>
      have hlt : j + 1 < l.length := (List.getElem?_eq_some_iff.1 hr).1
      have hj : l[j]? = some l[j] := List.getElem?_eq_getElem (by omega)
      have := List.pairwise_iff_getElem.1 h.ord j (j + 1) (by omega) hlt (by omega)
      have hr2 : l[j + 1] = r := by rw [List.getElem?_eq_getElem hlt] at hr; simpa using hr
      rw [hr2] at this
      simp [prevOf, hj, this]
  · intro h
    have hm : ∀ (i : Nat) (r : Rt), l[i]? = some r → mayB r.pre = true := fun i r hr => by
      have := h i r hr
      unfold badAt badB at this
      rw [hr] at this
      cases e : mayB r.pre with
      | true => rfl
      | false => simp [e] at this
    have hn : ∀ (i : Nat) (r s : Rt), l[i]? = some r → l[i + 1]? = some s → lessB r.pre s.pre = true := fun i r s hr hs => by
      have := h (i + 1) s hs
      unfold badAt badB at this
      rw [hs] at this
      have hms := hm _ _ hs
      simpa [hms, prevOf, hr] using this
    refine ⟨fun r hr => by obtain ⟨i, hi⟩ := List.mem_iff_getElem?.1 hr; exact hm i r hi, ?_⟩
    rw [List.pairwise_iff_getElem]
    intro i j hi hj hij
    obtain ⟨d, rfl⟩ : ∃ d, j = i + 1 + d := ⟨j - i - 1, by omega⟩
    induction d with
    | zero => exact hn i _ _ (List.getElem?_eq_getElem hi) (List.getElem?_eq_getElem hj)
    | succ d ih => exact less_trans (ih (by omega) (by omega)) (hn (i + 1 + d) _ _ (List.getElem?_eq_getElem (by omega)) (List.getElem?_eq_getElem hj))

theorem okL_iff (l : List Rt) : okL l = true ↔ Good l := by
  rw [good_iff]
  unfold okL
  rw [List.all_eq_true]
  constructor
  · intro h i r hr
    have := h i (by simpa using (List.getElem?_eq_some_iff.1 hr).1)
    simpa using this
  · intro h i hi
    have hi : i < l.length := by simpa using hi
    simp [h i _ (List.getElem?_eq_getElem hi)]

theorem right_iff (l : List Rt) : rightB l = true ↔ l.length ≤ 256 ∧ Good l := by
  unfold rightB; rw [Bool.and_eq_true, decide_eq_true_eq, okL_iff]

/-- How many are ahead of a prefix. -/
def idxL (l : List Rt) (p : Pre) : Nat := (l.takeWhile fun r => lessB r.pre p).length

theorem idx_le (l : List Rt) (p : Pre) : idxL l p ≤ l.length := by
  unfold idxL
  exact (List.takeWhile_prefix _).length_le

theorem idx_mono {l : List Rt} (h : Good l) (p : Pre) : ∀ i r, l[i]? = some r → lessB r.pre p = decide (i < idxL l p) := by
  induction l with
  | nil => intro i r hr; simp at hr
  | cons s l ih =>
    intro i r hr
    unfold idxL
    rw [List.takeWhile_cons]
    cases hs : lessB s.pre p with
    | true =>
      rw [if_pos rfl, List.length_cons]
      cases i with
      | zero => simp at hr; subst hr; simp [hs]
      | succ i =>
        simp at hr
        rw [ih h.tail i r hr]
        unfold idxL
        congr 1
        apply propext; omega
    | false =>
      simp only [Bool.false_eq_true, if_false, List.length_nil, Nat.not_lt_zero, decide_false]
      cases i with
      | zero => simp at hr; subst hr; exact hs
      | succ i =>
        simp at hr
        have h1 := (List.pairwise_cons.1 h.ord).1 r (List.mem_of_getElem? hr)
        cases e : lessB r.pre p with
        | false => rfl
        | true => rw [less_trans h1 e] at hs; cases hs

theorem preEq_refl (p : Pre) : preEq p p = true := by unfold preEq keyEq; simp
/-- Prefixes as numbers are the same just if their cells are. -/
theorem rt_pre_ext {r s : Rt} (h : preEq r.pre s.pre = true) : r.pre = s.pre := by
  unfold preEq at h
  simp only [Bool.and_eq_true, beq_iff_eq, keyEq_iff] at h
  obtain ⟨⟨h1, h2⟩, h3⟩ := h
  have hk : r.pre.key = s.pre.key := by
    funext i
    by_cases hi : i < 16
    · exact h3 i hi
    · rw [r.hz i (by omega), s.hz i (by omega)]
  cases hr : r.pre; cases hs : s.pre
  simp only [hr, hs] at h1 h2 hk
  subst h1 h2 hk
  rfl
theorem rt_ext {r s : Rt} (h1 : r.pre = s.pre) (h2 : r.hop = s.hop) : r = s := by
  cases r; cases s; simp only at h1 h2; subst h1 h2; rfl
end Go.Proofs.Ytcpdpcfejpbdpaa
