/- What stands under a prefix, taken away. -/
import Derived.Test.YtggjcjijoihilaaTabLaws
namespace Go.Proofs.Ytggjcjijoihilaa
open Go.RowKit Go.Sort Go.Shelf

def goneOf (l : List Rt) : List Ch := l.map fun r => ⟨r, true⟩
theorem goneOf_length (l : List Rt) : (goneOf l).length = l.length := by simp [goneOf]

structure TakenAway (m us m' : List Rt) : Prop where
  good : Good m'
  mem : ∀ s, s ∈ m' ↔ s ∈ m ∧ s ∉ us
  len : m'.length + us.length = m.length

theorem fold_gone : ∀ (us m : List Rt), Good m → m.length ≤ 256 → Good us → (∀ s ∈ us, s ∈ m) → ∃ m', foldL m (goneOf us) = (m', 0) ∧ TakenAway m us m'
  | [], m, h, _, _, _ => ⟨m, rfl, h, by simp, by simp⟩
  | r :: us, m, h, hl, hu, hs => by
    have hr : r ∈ m := hs r (by simp)
    have hlt := (List.getElem?_eq_some_iff.1 (idx_mem h hr)).1
    have hc : changeL m ⟨r, true⟩ = (m.eraseIdx (idxL m r.pre), 0) := by
      unfold changeL
      simp only [h.may r hr, there_mem h hr, if_true]
    have hg : Good (m.eraseIdx (idxL m r.pre)) := h.sub (List.eraseIdx_sublist _ _)
    have hlen : (m.eraseIdx (idxL m r.pre)).length + 1 = m.length := by rw [List.length_eraseIdx_of_lt hlt]; omega
    have hlow := (List.pairwise_cons.1 hu.ord).1
    obtain ⟨m', e, g1, g2, g3⟩ := fold_gone us (m.eraseIdx (idxL m r.pre)) hg (by omega) hu.tail (fun s hm => (erase_mem h hr s).2 ⟨hs s (List.mem_cons_of_mem _ hm), fun e => by
      subst e; have := hlow s hm; rw [less_irrefl] at this; cases this⟩)
    refine ⟨m', ?_, g1, fun s => ?_, by rw [List.length_cons]; omega⟩
    · unfold goneOf
      rw [List.map_cons, foldL, hc, if_pos rfl]
      exact e
    · rw [g2, erase_mem h hr, List.mem_cons]
      constructor
      · rintro ⟨⟨h1, h2⟩, h3⟩; exact ⟨h1, fun h => h.elim h2 h3⟩
      · rintro ⟨h1, h2⟩; exact ⟨⟨h1, fun h => h2 (.inl h)⟩, fun h => h2 (.inr h)⟩

theorem under_good {t : List Rt} (h : Good t) (hl : t.length ≤ 256) (p : Pre) : underL t p = t.filter (fun r => coversB p r.pre) ∧ Good (underL t p) ∧ (underL t p).length ≤ t.length := by
  have e : underL t p = t.filter (fun r => coversB p r.pre) := by unfold underL; rw [(right_iff t).2 ⟨hl, h⟩, if_pos rfl]
  rw [e]
  exact ⟨rfl, h.sub List.filter_sublist, List.length_filter_le _ _⟩
theorem under_mem {t : List Rt} (h : Good t) (hl : t.length ≤ 256) (p : Pre) (r : Rt) : r ∈ underL t p ↔ r ∈ t ∧ coversB p r.pre = true := by
  rw [(under_good h hl p).1, List.mem_filter]

/-- What is left without what stands under a prefix. -/
theorem under_gone {t : List Rt} (h : Good t) (hl : t.length ≤ 256) (p : Pre) : ∃ m', applyL t (goneOf (underL t p)) = (m', 0) ∧ Good m' ∧ m'.length + (underL t p).length = t.length ∧ underL m' p = [] := by
  obtain ⟨e, g1, g2⟩ := under_good h hl p
  obtain ⟨m', e1, h1, h2, h3⟩ := fold_gone (underL t p) t h hl g1 (fun s hs => ((under_mem h hl p s).1 hs).1)
  refine ⟨m', ?_, h1, h3, ?_⟩
  · rw [apply_right h hl, e1]; rfl
  · rw [(under_good h1 (by omega) p).1, List.filter_eq_nil_iff]
    intro s hs hc
    obtain ⟨h4, h5⟩ := (h2 s).1 hs
    exact h5 ((under_mem h hl p s).2 ⟨h4, hc⟩)

theorem pre_ext {p q : Pre} (h : preEq p q = true) (hp : ∀ i, 16 ≤ i → p.key i = 0) (hq : ∀ i, 16 ≤ i → q.key i = 0) : p = q := by
  obtain ⟨h1, h2, h3⟩ := preEq_iff.1 h
  have hk : p.key = q.key := by
    funext i
    by_cases hi : i < 16
    · exact h3 i hi
    · rw [hp i (by omega), hq i (by omega)]
  cases p; cases q; simp only at h1 h2 hk; subst h1 h2 hk; rfl

theorem get_not {l : List Rt} (h : Good l) (hl : l.length ≤ 256) {r : Rt} (hm : mayB r.pre = true) (hr : ∀ s ∈ l, preEq s.pre r.pre = false) : getL l r.pre = (0, 6) := by
  unfold getL
  rw [(right_iff l).2 ⟨hl, h⟩, if_pos rfl, hm, if_pos rfl]
  cases ht : thereB l r.pre (idxL l r.pre) with
  | false => rfl
  | true =>
    obtain ⟨s, h1, h2, -⟩ := there_find ht
    rw [hr s h1] at h2; cases h2

/-- Who is found for a key that the prefix fits is under it, or covers it. -/
theorem under_best {t : List Rt} (h : Good t) (hl : t.length ≤ 256) {p : Pre} (hp : Bytes16 p.key) (hpz : ∀ i, 16 ≤ i → p.key i = 0) {k : Nat → Nat} (hk : Bytes16 k) (hf : fitsB p k = true) {r : Rt} (hr : BestIs t k p.bits r) :
    ∃ x e, getL (underL t p) r.pre = (x, e) ∧ ((e = 0 ∧ (coversB r.pre p = false ∨ coversB r.pre p = true ∧ preEq r.pre p = true)) ∨ (e = 6 ∧ coversB r.pre p = true ∧ preEq r.pre p = false)) := by
  obtain ⟨-, g1, g2⟩ := under_good h hl p
  cases hc : coversB p r.pre with
  | true =>
    have hm := (under_mem h hl p r).2 ⟨hr.mem, hc⟩
    refine ⟨r.hop, 0, get_mem g1 (by omega) hm, .inl ⟨rfl, ?_⟩⟩
    cases he : preEq p r.pre with
    | false => exact .inl (covers_same hp r.hk hc he)
    | true =>
      cases h2 : coversB r.pre p with
      | false => exact .inl rfl
      | true => exact .inr ⟨rfl, preEq_symm he⟩
  | false =>
    have hrm := h.may r hr.mem
    refine ⟨0, 6, get_not g1 (by omega) hrm (fun s hs => ?_), .inr ⟨rfl, covers_one hp r.hk hk hf hr.fit hr.bit.symm hc, ?_⟩⟩
    · obtain ⟨h1, h2⟩ := (under_mem h hl p s).1 hs
      cases e : preEq s.pre r.pre with
      | false => rfl
      | true => rw [rt_pre_ext e, hc] at h2; cases h2
    · cases e : preEq r.pre p with
      | false => rfl
      | true =>
        have e2 := pre_ext e r.hz hpz
        rw [← e2] at hc
        have := covers_shorter (p := r.pre) (q := r.pre) r.hk r.hk (k := r.pre.key) ?_ ?_ rfl (Int.le_refl _)
        · rw [hc] at this; cases this
        all_goals exact (fitsB_iff _ _ r.hk).2 ⟨hrm, fun j h1 h2 => by
          obtain ⟨-, h3, h4, h5⟩ := (mayB_iff _ r.hk).1 hrm
          exact h5 j (by omega) h2, fun _ _ => rfl⟩
end Go.Proofs.Ytggjcjijoihilaa
