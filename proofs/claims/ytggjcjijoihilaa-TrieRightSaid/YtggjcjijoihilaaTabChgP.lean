/- Where prefixes lead behind changes; tables sorted; the routes of short keys. -/
import Derived.Test.YtggjcjijoihilaaTabUndP
namespace Go.Proofs.Ytggjcjijoihilaa
open Go.RowKit Go.Sort Go.Shelf

theorem good_one {l : List Rt} (h : Good l) {r s : Rt} (hr : r ∈ l) (hs : s ∈ l) (e : r.pre = s.pre) : r = s := by
  have h1 := find_mem h hr
  rw [e, find_mem h hs] at h1
  simpa using h1.symm

theorem set_mem {l : List Rt} (h : Good l) {r0 : Rt} (hr : r0 ∈ l) (x s : Rt) : s ∈ l.set (idxL l r0.pre) x ↔ (s ∈ l ∧ s ≠ r0) ∨ s = x := by
  have hi := idx_mem h hr
  obtain ⟨hlt, hg⟩ := List.getElem?_eq_some_iff.1 hi
  have e : l.eraseIdx (idxL l r0.pre) = l.take (idxL l r0.pre) ++ l.drop (idxL l r0.pre + 1) := List.eraseIdx_eq_take_drop_succ _ _
  have e2 : l.set (idxL l r0.pre) x = l.take (idxL l r0.pre) ++ x :: l.drop (idxL l r0.pre + 1) := by rw [List.set_eq_take_append_cons_drop, if_pos hlt]
  rw [← erase_mem h hr s, e, e2, List.mem_append, List.mem_append, List.mem_cons]
  constructor
  · rintro (h | h | h)
    · exact .inl (.inl h)
    · exact .inr h
    · exact .inl (.inr h)
  · rintro ((h | h) | h)
    · exact .inl h
    · exact .inr (.inr h)
    · exact .inr (.inl h)

/-- Who is there behind one change. -/
theorem change_mem {m : List Rt} (h : Good m) (c : Ch) (h0 : (changeL m c).2 = 0) : mayB c.rt.pre = true ∧ ∀ s, s ∈ (changeL m c).1 ↔ (s ∈ m ∧ s.pre ≠ c.rt.pre) ∨ (c.gone = false ∧ s = c.rt) := by
  unfold changeL at h0 ⊢
  cases hm : mayB c.rt.pre with
  | false => simp [hm] at h0
  | true =>
    refine ⟨rfl, ?_⟩
    simp only [hm, if_true] at h0 ⊢
    cases ht : thereB m c.rt.pre (idxL m c.rt.pre) with
    | true =>
      obtain ⟨r0, hr0, he, -⟩ := there_find ht
      have he := rt_pre_ext he
      have hu : ∀ s, (s ∈ m ∧ s ≠ r0) ↔ (s ∈ m ∧ s.pre ≠ c.rt.pre) := fun s =>
        ⟨fun ⟨a, b⟩ => ⟨a, fun e => b (good_one h a hr0 (e.trans he.symm))⟩, fun ⟨a, b⟩ => ⟨a, fun e => b (e ▸ he)⟩⟩
      cases hg : c.gone with
      | true =>
        simp only [if_true]
        intro s
        rw [← he, erase_mem h hr0, hu, he]
        simp
      | false =>
        simp only [Bool.false_eq_true, if_false, if_true]
        intro s
        rw [← he, set_mem h hr0, hu, he]
        simp
    | false =>
      have hn : ∀ s ∈ m, s.pre ≠ c.rt.pre := fun s hs e => by rw [← e, there_mem h hs] at ht; cases ht
      cases hg : c.gone with
      | true => simp [hg, ht] at h0
      | false =>
        simp only [hg, ht, Bool.false_eq_true, if_false] at h0 ⊢
        by_cases h6 : m.length = 256
        · simp [h6] at h0
        · simp only [h6, if_false]
          intro s
          rw [ins_mem]
          constructor
          · rintro (a | a)
            · exact .inl ⟨a, hn s a⟩
            · exact .inr ⟨trivial, a⟩
          · rintro (⟨a, -⟩ | ⟨-, a⟩)
            · exact .inl a
            · exact .inr a

/-- Behind changes: a prefix that one of them names leads where the last one of it says; the others as before. -/
structure Behind (t : List Rt) (cs : List Ch) (u : List Rt) : Prop where
  may : ∀ c ∈ cs, mayB c.rt.pre = true
  other : ∀ s : Rt, (∀ c ∈ cs, c.rt.pre ≠ s.pre) → (s ∈ u ↔ s ∈ t)
  last : ∀ (i : Nat) (c : Ch), cs[i]? = some c → (∀ j d, i < j → cs[j]? = some d → d.rt.pre ≠ c.rt.pre) → ∀ s : Rt, s.pre = c.rt.pre → (s ∈ u ↔ c.gone = false ∧ s = c.rt)

theorem behind_fold : ∀ {t : List Rt}, Good t → t.length ≤ 256 → ∀ (cs : List Ch), (foldL t cs).2 = 0 → Behind t cs (foldL t cs).1
  | t, _, _, [], _ => ⟨by simp, fun s _ => by simp [foldL], fun i c h => by simp at h⟩
  | t, h, hl, c :: cs, h0 => by
    simp only [foldL] at h0 ⊢
    by_cases hc : (changeL t c).2 = 0
    · simp only [hc, if_true] at h0 ⊢
      obtain ⟨g1, g2⟩ := change_good h hl c hc
      obtain ⟨m1, m2⟩ := change_mem h c hc
      have ih := behind_fold g1 g2 cs h0
      refine ⟨fun d hd => ?_, fun s hs => ?_, fun i d hi hlast s hs => ?_⟩
      · rcases List.mem_cons.1 hd with rfl | hd
        · exact m1
        · exact ih.may d hd
      · rw [ih.other s (fun d hd => hs d (List.mem_cons_of_mem _ hd)), m2]
        have hne := hs c (by simp)
        constructor
        · rintro (⟨a, -⟩ | ⟨-, a⟩)
          · exact a
          · exact absurd (by rw [a]) hne
        · intro a; exact .inl ⟨a, fun e => hne e.symm⟩
      · cases i with
        | zero =>
          simp only [List.getElem?_cons_zero, Option.some.injEq] at hi
          subst hi
          rw [ih.other s (fun d hd => by
            obtain ⟨j, hj⟩ := List.mem_iff_getElem?.1 hd
            rw [hs]; exact hlast (j + 1) d (by omega) (by simpa using hj)), m2]
          constructor
          · rintro (⟨-, a⟩ | a)
            · exact absurd hs a
            · exact a
          · exact .inr
        | succ i =>
          simp only [List.getElem?_cons_succ] at hi
          exact ih.last i d hi (fun j e hj he => hlast (j + 1) e (by omega) (by simpa using he)) s hs
    · simp only [hc, if_false] at h0

theorem find_reverse {l : List Rt} (h : Good l) (p : Pre) : findP l.reverse p = findP l p := by
  cases e1 : findP l p with
  | none =>
    unfold findP at e1 ⊢
    rw [List.find?_eq_none] at e1 ⊢
    exact fun r hr => e1 r (List.mem_reverse.1 hr)
  | some r =>
    obtain ⟨h1, h2⟩ := mem_find e1
    cases e2 : findP l.reverse p with
    | none =>
      unfold findP at e2
      rw [List.find?_eq_none] at e2
      exact absurd h2 (e2 r (List.mem_reverse.2 h1))
    | some s =>
      obtain ⟨h3, h4⟩ := mem_find e2
      rw [good_one h (List.mem_reverse.1 h3) h1 (rt_pre_ext (preEq_trans h4 (preEq_symm h2)))]
theorem sort_good {l out : List Rt} (h : Good l) (hs : SortSpec l out) : out = l := by
  refine good_ext hs.good h fun p => ?_
  have e : mayL l = l := by unfold mayL; rw [List.filter_eq_self]; exact fun r hr => h.may r hr
  rw [hs.find, e, find_reverse h]

/-! ### The routes of short keys -/
def shortP : Pre := ⟨32, 0, zkey⟩
theorem covers_short {r : Rt} (h : mayB r.pre = true) : coversB shortP r.pre = (r.pre.bits == 32) := by
  rw [Bool.eq_iff_iff, covers_iff, beq_iff_eq]
  constructor
  · rintro ⟨-, a, -⟩; exact a.symm
  · intro e
    obtain ⟨h1, h2, h3, h4⟩ := (mayB_iff _ r.hk).1 h
    refine ⟨h, e.symm, h2, (fitsB_iff _ _ r.hk).2 ⟨by kernel_rfl, fun j a b => h4 j (by have : (32 : Int) ≤ j := a; omega) b, fun j a => by have : (j : Int) < 0 := a; omega⟩⟩
def shortL (l : List Rt) : List Rt := l.filter fun r => r.pre.bits == 32
theorem under_short {l : List Rt} (h : Good l) (hl : l.length ≤ 256) : underL l shortP = shortL l := by
  rw [(under_good h hl shortP).1]
  exact List.filter_congr fun r hr => covers_short (h.may r hr)

/-- What a prefix leads to, by who is there. -/
theorem get_some {u : List Rt} (h : Good u) (hl : u.length ≤ 256) {s x : Rt} (hs : s ∈ u) (e : s.pre = x.pre) : getL u x.pre = (s.hop, 0) := by rw [← e]; exact get_mem h hl hs
theorem get_gone {u : List Rt} (h : Good u) (hl : u.length ≤ 256) {x : Rt} (hm : mayB x.pre = true) (hn : ∀ s ∈ u, s.pre ≠ x.pre) : getL u x.pre = (0, 6) :=
  get_not h hl hm fun s hs => by
    cases e : preEq s.pre x.pre with
    | false => rfl
    | true => exact absurd (rt_pre_ext e) (hn s hs)
end Go.Proofs.Ytggjcjijoihilaa
