/- What the table's answers are to one another. -/
import Derived.Test.YtcpdpcfejpbdpaaTabAwake
import Derived.Test.YtcpdpcfejpbdpaaPureLaws
namespace Go.Proofs.Ytcpdpcfejpbdpaa
open Go.RowKit Go.Sort Go.Shelf

/-- Where a route of a table stands. -/
theorem idx_mem {l : List Rt} (h : Good l) {r : Rt} (hr : r ∈ l) : l[idxL l r.pre]? = some r := by
  obtain ⟨i, hi⟩ := List.mem_iff_getElem?.1 hr
  have h1 := idx_mono h r.pre i r hi
  rw [less_irrefl] at h1
  have h2 : ¬ i < idxL l r.pre := by simpa using h1.symm
  have hlt := (List.getElem?_eq_some_iff.1 hi).1
  rcases Nat.lt_or_ge (idxL l r.pre) i with h3 | h3
  · have hs : l[idxL l r.pre]? = some (l[idxL l r.pre]'(by omega)) := List.getElem?_eq_getElem _
    have h4 := idx_mono h r.pre _ _ hs
    have h5 := List.pairwise_iff_getElem.1 h.ord (idxL l r.pre) i (by omega) hlt h3
    have h6 : l[i] = r := (List.getElem?_eq_some_iff.1 hi).2
    rw [h6] at h5
    rw [h5] at h4
    simp at h4
  · rw [show idxL l r.pre = i by omega]; exact hi
theorem there_mem {l : List Rt} (h : Good l) {r : Rt} (hr : r ∈ l) : thereB l r.pre (idxL l r.pre) = true := by
  unfold thereB; rw [idx_mem h hr]; exact preEq_refl _
theorem there_find {l : List Rt} {p : Pre} (ht : thereB l p (idxL l p) = true) : ∃ r ∈ l, preEq r.pre p = true ∧ l[idxL l p]? = some r := by
  unfold thereB at ht
  cases e : l[idxL l p]? with
  | none => rw [e] at ht; cases ht
  | some r => rw [e] at ht; exact ⟨r, List.mem_of_getElem? e, ht, rfl⟩
theorem get_mem {l : List Rt} (h : Good l) (hl : l.length ≤ 256) {r : Rt} (hr : r ∈ l) : getL l r.pre = (r.hop, 0) := by
  unfold getL
  rw [(right_iff l).2 ⟨hl, h⟩, if_pos rfl, h.may r hr, if_pos rfl, there_mem h hr, if_pos rfl, idx_mem h hr]; rfl

/-! ### Who fits best -/
theorem may_whole {p : Pre} {k : Nat → Nat} (hk : Bytes16 k) (hp : Bytes16 p.key) (h : fitsB p k = true) : mayB (wholeP k p.bits) = true := by
  obtain ⟨h1, h2, -⟩ := (fitsB_iff p k hk).1 h
  obtain ⟨h3, h4, h5, -⟩ := (mayB_iff p hp).1 h1
  exact (mayB_iff (wholeP k p.bits) hk).2 ⟨h3, by show (0 : Int) ≤ p.bits; omega, Int.le_refl _, h2⟩
theorem covers_whole {p : Pre} {k : Nat → Nat} {bits : Int} (hp : Bytes16 p.key) (hw : mayB (wholeP k bits) = true) : coversB p (wholeP k bits) = true ↔ p.bits = bits ∧ fitsB p k = true := by
  rw [covers_iff]
  constructor
  · rintro ⟨-, h2, -, h4⟩; exact ⟨h2, h4⟩
  · rintro ⟨h1, h2⟩
    refine ⟨hw, h1, ?_, h2⟩
    have := (mayB_iff p hp).1 (fits_may h2)
    show p.len ≤ bits
    omega

/-- Who of two that fit stands behind the other one isn't shorter. -/
theorem fit_order {p q : Pre} {k : Nat → Nat} (hp : Bytes16 p.key) (hq : Bytes16 q.key) (hk : Bytes16 k) (f1 : fitsB p k = true) (f2 : fitsB q k = true) (hb : p.bits = q.bits) (h : lessB p q = true) : p.len ≤ q.len := by
  by_cases hl : p.len ≤ q.len
  · exact hl
  · have := covers_ahead hq hp (covers_shorter hp hk f2 f1 hb.symm (by omega))
    rw [h] at this; cases this

structure BestIs (l : List Rt) (k : Nat → Nat) (bits : Int) (r : Rt) : Prop where
  mem : r ∈ l
  bit : r.pre.bits = bits
  fit : fitsB r.pre k = true
  most : ∀ s ∈ l, s.pre.bits = bits → fitsB s.pre k = true → s.pre.len ≤ r.pre.len

theorem best_cases {l : List Rt} (h : Good l) (hl : l.length ≤ 256) {k : Nat → Nat} (hk : Bytes16 k) (bits : Int) :
    (∃ e : Int, bestL l k bits = (zrt, e) ∧ (e = 1 ∨ e = 6) ∧ (mayB (wholeP k bits) = true → e = 6) ∧ ∀ r ∈ l, r.pre.bits = bits → fitsB r.pre k = false) ∨ ∃ r, bestL l k bits = (r, 0) ∧ BestIs l k bits r := by
  have hr := (right_iff l).2 ⟨hl, h⟩
  unfold bestL
  rw [hr, if_pos rfl]
  cases hm : mayB (wholeP k bits) with
  | false =>
    refine .inl ⟨1, rfl, .inl rfl, fun h => (by cases h), fun r hr hb => ?_⟩
    cases hf : fitsB r.pre k with
    | false => rfl
    | true => have := may_whole hk r.hk hf; rw [hb, hm] at this; cases this
  | true =>
    rw [if_pos rfl]
    cases hf : l.reverse.find? (fun r => coversB r.pre (wholeP k bits)) with
    | none =>
      refine .inl ⟨6, rfl, .inr rfl, fun _ => rfl, fun r hr hb => ?_⟩
      cases e : fitsB r.pre k with
      | false => rfl
      | true => exact absurd ((covers_whole r.hk hm).2 ⟨hb, e⟩) (List.find?_eq_none.1 hf r (List.mem_reverse.2 hr))
    | some r =>
      refine .inr ⟨r, rfl, ?_⟩
      obtain ⟨hc, xs, bs, hab, hno⟩ := List.find?_eq_some_iff_append.1 hf
      have hl2 : l = bs.reverse ++ r :: xs.reverse := by
        have := congrArg List.reverse hab
        simpa using this
      obtain ⟨hb, hfit⟩ := (covers_whole r.hk hm).1 (by simpa using hc)
      refine ⟨by rw [hl2]; simp, hb, hfit, fun s hs hsb hsf => ?_⟩
      have hcs := (covers_whole s.hk hm).2 ⟨hsb, hsf⟩
      have ho := h.ord
      rw [hl2] at hs ho
      rcases List.mem_append.1 hs with hs | hs
      · exact fit_order s.hk r.hk hk hsf hfit (by rw [hsb, hb]) ((List.pairwise_append.1 ho).2.2 s hs r (by simp))
      · rcases List.mem_cons.1 hs with rfl | hs
        · exact Int.le_refl _
        · have := hno s (List.mem_reverse.1 hs)
          rw [hcs] at this; cases this

/-! ### A route taken away -/
theorem erase_mem {l : List Rt} (h : Good l) {r : Rt} (hr : r ∈ l) (s : Rt) : s ∈ l.eraseIdx (idxL l r.pre) ↔ s ∈ l ∧ s ≠ r := by
  have hi := idx_mem h hr
  obtain ⟨hlt, hg⟩ := List.getElem?_eq_some_iff.1 hi
  have e : l = l.take (idxL l r.pre) ++ r :: l.drop (idxL l r.pre + 1) := by
    conv => lhs; rw [← List.take_append_drop (idxL l r.pre) l]
    rw [List.drop_eq_getElem_cons hlt, hg]
  rw [List.eraseIdx_eq_take_drop_succ]
  have ho := h.ord
  rw [e] at ho
  obtain ⟨-, h2, h3⟩ := List.pairwise_append.1 ho
  have h4 := (List.pairwise_cons.1 h2).1
  constructor
  · intro hs
    rcases List.mem_append.1 hs with hs | hs
    · exact ⟨List.mem_of_mem_take hs, fun e => (by subst e; have := h3 s hs s (by simp); rw [less_irrefl] at this; cases this)⟩
    · exact ⟨List.mem_of_mem_drop hs, fun e => (by subst e; have := h4 s hs; rw [less_irrefl] at this; cases this)⟩
  · rintro ⟨hs, hne⟩
    rw [e] at hs
    rcases List.mem_append.1 hs with hs | hs
    · exact List.mem_append.2 (.inl hs)
    · rcases List.mem_cons.1 hs with hs | hs
      · exact absurd hs hne
      · exact List.mem_append.2 (.inr hs)

theorem apply_gone {l : List Rt} (h : Good l) (hl : l.length ≤ 256) {r : Rt} (hr : r ∈ l) (x : Rt) (hx : x.pre = r.pre) : applyL l [⟨x, true⟩] = (l.eraseIdx (idxL l r.pre), 0) := by
  have hc : changeL l ⟨x, true⟩ = (l.eraseIdx (idxL l r.pre), 0) := by
    unfold changeL
    simp only [hx]
    simp only [h.may r hr, there_mem h hr, if_true]
  unfold applyL foldL
  rw [(right_iff l).2 ⟨hl, h⟩, if_pos rfl, hc]
  rfl

/-- Without who fits best: who fits best then is shorter, and covers it. -/
theorem best_less {l : List Rt} (h : Good l) {k : Nat → Nat} (hk : Bytes16 k) {bits : Int} {r s : Rt} (hr : BestIs l k bits r) (hs : BestIs (l.eraseIdx (idxL l r.pre)) k bits s) : s.pre.len < r.pre.len ∧ coversB s.pre r.pre = true := by
  obtain ⟨hm, hne⟩ := (erase_mem h hr.mem s).1 hs.mem
  have hle := hr.most s hm hs.bit hs.fit
  have hb : s.pre.bits = r.pre.bits := by rw [hs.bit, hr.bit]
  have hc := covers_shorter r.hk hk hs.fit hr.fit hb hle
  refine ⟨?_, hc⟩
  rcases Int.lt_or_le s.pre.len r.pre.len with hlt | hge
  · exact hlt
  · exfalso
    have hc2 := covers_shorter s.hk hk hr.fit hs.fit hb.symm hge
    cases e : preEq s.pre r.pre with
    | false => have := covers_same s.hk r.hk hc e; rw [hc2] at this; cases this
    | true =>
      have h1 := find_mem h hm
      rw [rt_pre_ext e, find_mem h hr.mem] at h1
      exact hne (by simpa using h1.symm)
end Go.Proofs.Ytcpdpcfejpbdpaa
