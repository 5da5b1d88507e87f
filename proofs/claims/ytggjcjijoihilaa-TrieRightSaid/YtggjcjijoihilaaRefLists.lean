/- The document's lists: a route put, changes made, routes sorted, the longest that fits; and what the program's are to them. -/
import Derived.Test.YtggjcjijoihilaaTabChgP
import Derived.Test.YtggjcjijoihilaaRefGet
namespace Go.Proofs.Ytggjcjijoihilaa
open Go.RowKit Go.Sort Go.Shelf

/-! ### A route put -/
def putGo (r : Rt) : List Rt → Bool → List Rt
  | [], d => if d = true then [] else [r]
  | s :: l, d => (if (!d && !lessB s.pre r.pre) = true then [r] else []) ++ ((if preEq s.pre r.pre = true then [] else [s]) ++ putGo r l (d || !lessB s.pre r.pre))
def putL (l : List Rt) (r : Rt) : List Rt := if thereB l r.pre (idxL l r.pre) = true then l.set (idxL l r.pre) r else insL l (idxL l r.pre) r

theorem putGo_done {l : List Rt} {r : Rt} (h : ∀ s ∈ l, preEq s.pre r.pre = false) : putGo r l true = l := by
  induction l with
  | nil => rfl
  | cons s l ih => unfold putGo; simp [h s (by simp), ih fun s hs => h s (List.mem_cons_of_mem _ hs)]
theorem putGo_is {l : List Rt} (h : Good l) (r : Rt) : putGo r l false = putL l r := by
  induction l with
  | nil => rfl
  | cons s l ih =>
    cases hs : lessB s.pre r.pre with
    | true =>
      have hi : idxL (s :: l) r.pre = idxL l r.pre + 1 := by unfold idxL; rw [List.takeWhile_cons, hs]; simp
      have hne : preEq s.pre r.pre = false := by
        cases e : preEq s.pre r.pre with
        | false => rfl
        | true => rw [rt_pre_ext e, less_irrefl] at hs; cases hs
      unfold putGo
      rw [hs, hne]
      simp only [Bool.not_true, Bool.and_false, Bool.false_eq_true, if_false, Bool.or_false, List.nil_append, List.cons_append]
      rw [ih h.tail]
      unfold putL thereB
      rw [hi, List.getElem?_cons_succ]
      unfold insL
      cases l[idxL l r.pre]? with
      | none => simp
      | some x => cases hx : preEq x.pre r.pre <;> simp [hx]
    | false =>
      have hi : idxL (s :: l) r.pre = 0 := by unfold idxL; rw [List.takeWhile_cons, hs]; simp
      have hall : ∀ x ∈ l, preEq x.pre r.pre = false := fun x hx => by
        have h1 := (List.pairwise_cons.1 h.ord).1 x hx
        cases e : preEq x.pre r.pre with
        | false => rfl
        | true => rw [rt_pre_ext e, hs] at h1; cases h1
      unfold putGo
      rw [hs]
      simp only [Bool.not_false, Bool.and_true, if_true, Bool.or_true]
      rw [putGo_done hall]
      unfold putL thereB insL
      rw [hi]
      cases e : preEq s.pre r.pre <;> simp [e]

theorem put_good {l : List Rt} (h : Good l) {r : Rt} (mr : mayB r.pre = true) : Good (putL l r) := by
  unfold putL
  cases ht : thereB l r.pre (idxL l r.pre) with
  | true => exact good_set h ht
  | false => exact good_ins h mr ht
theorem put_length (l : List Rt) (r : Rt) : (putL l r).length ≤ l.length + 1 := by
  unfold putL
  split
  · rw [List.length_set]; omega
  · rw [insL_length]; omega
theorem put_mem {m : List Rt} (h : Good m) (r s : Rt) : s ∈ putL m r ↔ (s ∈ m ∧ s.pre ≠ r.pre) ∨ s = r := by
  unfold putL
  cases ht : thereB m r.pre (idxL m r.pre) with
  | true =>
    obtain ⟨r0, hr0, he, -⟩ := there_find ht
    have he := rt_pre_ext he
    simp only [if_true]
    rw [← he, set_mem h hr0]
    constructor
    · rintro (⟨a, b⟩ | a)
      · exact .inl ⟨a, fun e => b (good_one h a hr0 e)⟩
      · exact .inr a
    · rintro (⟨a, b⟩ | a)
      · exact .inl ⟨a, fun e => b (e ▸ rfl)⟩
      · exact .inr a
  | false =>
    have hn : ∀ s ∈ m, s.pre ≠ r.pre := fun s hs e => by rw [← e, there_mem h hs] at ht; cases ht
    simp only [Bool.false_eq_true, if_false]
    rw [ins_mem]
    constructor
    · rintro (a | a)
      · exact .inl ⟨a, hn s a⟩
      · exact .inr a
    · rintro (⟨a, -⟩ | a)
      · exact .inl a
      · exact .inr a

theorem find_iff {l : List Rt} (h : Good l) (p : Pre) (s : Rt) : findP l p = some s ↔ s ∈ l ∧ preEq s.pre p = true := by
  refine ⟨mem_find, fun ⟨h1, h2⟩ => ?_⟩
  cases e : findP l p with
  | none =>
    unfold findP at e
    exact absurd h2 (List.find?_eq_none.1 e s h1)
  | some x =>
    obtain ⟨h3, h4⟩ := mem_find e
    rw [good_one h h3 h1 (rt_pre_ext (preEq_trans h4 (preEq_symm h2)))]
theorem put_find {l : List Rt} (h : Good l) {r : Rt} (mr : mayB r.pre = true) (p : Pre) : findP (putL l r) p = if preEq r.pre p = true then some r else findP l p := by
  refine Option.ext fun s => ?_
  show findP (putL l r) p = some s ↔ _ = some s
  rw [find_iff (put_good h mr), put_mem h]
  cases e : preEq r.pre p with
  | true =>
    simp only [if_true, Option.some.injEq]
    constructor
    · rintro ⟨⟨-, h2⟩ | h1, h3⟩
      · exact absurd (rt_pre_ext (preEq_trans h3 (preEq_symm e))) h2
      · exact h1.symm
    · rintro rfl; exact ⟨.inr rfl, e⟩
  | false =>
    simp only [Bool.false_eq_true, if_false]
    rw [find_iff h]
    constructor
    · rintro ⟨⟨h1, -⟩ | h1, h3⟩
      · exact ⟨h1, h3⟩
      · subst h1; rw [e] at h3; cases h3
    · rintro ⟨h1, h3⟩
      refine ⟨.inl ⟨h1, fun e2 => ?_⟩, h3⟩
      rw [e2, e] at h3; cases h3

/-! ### Routes sorted -/
def sortGo : List Rt → List Rt → List Rt
  | o, [] => o
  | o, s :: l => sortGo (if mayB s.pre = true then putL o s else o) l
theorem sortGo_snoc (o l : List Rt) (s : Rt) : sortGo o (l ++ [s]) = if mayB s.pre = true then putL (sortGo o l) s else sortGo o l := by
  induction l generalizing o with
  | nil => rfl
  | cons x l ih => exact ih _
theorem sortGo_find (l : List Rt) : ∀ o, Good o → Good (sortGo o l) ∧ ∀ p, findP (sortGo o l) p = (findP (mayL l).reverse p).or (findP o p) := by
  induction l with
  | nil => intro o h; exact ⟨h, fun p => rfl⟩
  | cons s l ih =>
    intro o h
    unfold sortGo
    cases hm : mayB s.pre with
    | false =>
      obtain ⟨h1, h2⟩ := ih o h
      refine ⟨h1, fun p => ?_⟩
      have e : mayL (s :: l) = mayL l := by unfold mayL; rw [List.filter_cons, hm]; rfl
      rw [e]; exact h2 p
    | true =>
      obtain ⟨h1, h2⟩ := ih (putL o s) (put_good h hm)
      refine ⟨h1, fun p => ?_⟩
      have e : mayL (s :: l) = s :: mayL l := by unfold mayL; rw [List.filter_cons, hm]; rfl
      rw [e, if_pos rfl, h2, put_find h hm]
      unfold findP
      rw [List.reverse_cons, List.find?_append, Option.or_assoc]
      congr 1
      cases hx : preEq s.pre p <;> simp [hx]
theorem sort_same {l out : List Rt} (h : SortSpec l out) : out = sortGo [] l := by
  obtain ⟨h1, h2⟩ := sortGo_find l [] Good.nil
  refine good_ext h.good h1 fun p => ?_
  rw [h.find, h2]
  simp [findP]
theorem sortGo_length (l : List Rt) : ∀ o, (sortGo o l).length ≤ o.length + l.length := by
  induction l with
  | nil => intro o; exact Nat.le_refl _
  | cons s l ih =>
    intro o
    unfold sortGo
    refine Nat.le_trans (ih _) ?_
    split
    · have := put_length o s; simp only [List.length_cons]; omega
    · simp only [List.length_cons]; omega

/-! ### The longest that fits -/
def fitTo (k : Nat → Nat) (bits : Int) (r : Rt) : Prop := r.pre.bits = bits ∧ fitsB r.pre k = true
instance (k : Nat → Nat) (bits : Int) (r : Rt) : Decidable (fitTo k bits r) := by unfold fitTo; infer_instance
def bestGo (k : Nat → Nat) (bits : Int) : Rt → List Rt → Rt
  | o, [] => o
  | o, r :: l => bestGo k bits (if fitTo k bits r ∧ o.pre.len < r.pre.len then r else o) l
theorem bestGo_snoc (k : Nat → Nat) (bits : Int) (l : List Rt) (r : Rt) : ∀ o, bestGo k bits o (l ++ [r]) = if fitTo k bits r ∧ (bestGo k bits o l).pre.len < r.pre.len then r else bestGo k bits o l := by
  induction l with
  | nil => intro o; rfl
  | cons x l ih => intro o; exact ih _
theorem bestGo_is (k : Nat → Nat) (bits : Int) (l : List Rt) : ∀ o, (bestGo k bits o l = o ∨ (bestGo k bits o l ∈ l ∧ fitTo k bits (bestGo k bits o l))) ∧ o.pre.len ≤ (bestGo k bits o l).pre.len ∧ ∀ s ∈ l, fitTo k bits s → s.pre.len ≤ (bestGo k bits o l).pre.len := by
  induction l with
  | nil => intro o; exact ⟨.inl rfl, Int.le_refl _, by simp⟩
  | cons r l ih =>
    intro o
    unfold bestGo
    by_cases h : fitTo k bits r ∧ o.pre.len < r.pre.len
    · rw [if_pos h]
      obtain ⟨h1, h2, h3⟩ := ih r
      refine ⟨.inr ?_, by omega, fun s hs hf => ?_⟩
      · rcases h1 with e | ⟨h1, h4⟩
        · rw [e]; exact ⟨by simp, h.1⟩
        · exact ⟨List.mem_cons_of_mem _ h1, h4⟩
      · rcases List.mem_cons.1 hs with rfl | hs
        · exact h2
        · exact h3 s hs hf
    · rw [if_neg h]
      obtain ⟨h1, h2, h3⟩ := ih o
      refine ⟨?_, h2, fun s hs hf => ?_⟩
      · rcases h1 with e | ⟨h1, h4⟩
        · exact .inl e
        · exact .inr ⟨List.mem_cons_of_mem _ h1, h4⟩
      · rcases List.mem_cons.1 hs with rfl | hs
        · have : ¬ o.pre.len < s.pre.len := fun h5 => h ⟨hf, h5⟩
          omega
        · exact h3 s hs hf
/-- What stands ahead of all routes: a route that is shorter than any. -/
def negR : Rt := ⟨⟨0, -1, zkey⟩, 0, zkey_bytes, fun _ _ => rfl, by decide⟩
def rbestL (l : List Rt) (k : Nat → Nat) (bits : Int) : Rt × Int :=
  if mayB (wholeP k bits) = true then (if (bestGo k bits negR l).pre.len < 0 then (zrt, 6) else (bestGo k bits negR l, 0)) else (zrt, 1)
theorem best_one {l : List Rt} (h : Good l) {k : Nat → Nat} (hk : Bytes16 k) {bits : Int} {r s : Rt} (hr : BestIs l k bits r) (hs : BestIs l k bits s) : r = s := by
  have h1 := hr.most s hs.mem hs.bit hs.fit
  have h2 := hs.most r hr.mem hr.bit hr.fit
  have hc := covers_shorter s.hk hk hr.fit hs.fit (by rw [hr.bit, hs.bit]) h2
  have hc2 := covers_shorter r.hk hk hs.fit hr.fit (by rw [hr.bit, hs.bit]) h1
  cases e : preEq r.pre s.pre with
  | true => exact good_one h hr.mem hs.mem (rt_pre_ext e)
  | false =>
    have ho := h.ord
    obtain ⟨i, hi⟩ := List.mem_iff_getElem?.1 hr.mem
    have h3 := covers_same r.hk s.hk hc e
    exfalso
    have h4 := covers_ahead r.hk s.hk hc
    have h5 := covers_ahead s.hk r.hk hc2
    have := (order_eq r.hk s.hk (h.may r hr.mem) (h.may s hs.mem)).1
    rw [e, h4, h5] at this
    simp at this
theorem best_same {l : List Rt} (h : Good l) (hl : l.length ≤ 256) {k : Nat → Nat} (hk : Bytes16 k) (bits : Int) : rbestL l k bits = bestL l k bits := by
  obtain ⟨h1, h2, h3⟩ := bestGo_is k bits l negR
  unfold rbestL
  cases hm : mayB (wholeP k bits) with
  | false =>
    unfold bestL
    rw [(right_iff l).2 ⟨hl, h⟩, hm]; rfl
  | true =>
    rw [if_pos rfl]
    rcases best_cases h hl hk bits with ⟨e, h4, -, h5, h6⟩ | ⟨r, h4, h5⟩
    · rw [h4, h5 hm]
      rcases h1 with e1 | ⟨h7, h8⟩
      · rw [e1]; rfl
      · have := h6 _ h7 h8.1
        rw [h8.2] at this; cases this
    · rw [h4]
      have h6 := h3 r h5.mem ⟨h5.bit, h5.fit⟩
      have h7 := ((mayB_iff _ r.hk).1 (fits_may h5.fit)).2.1
      rw [if_neg (by omega)]
      congr 1
      rcases h1 with e1 | ⟨h8, h9⟩
      · rw [e1] at h6
        have : negR.pre.len = -1 := rfl
        omega
      · exact best_one h hk ⟨h8, h9.1, h9.2, fun s hs hb hf => h3 s hs ⟨hb, hf⟩⟩ h5
end Go.Proofs.Ytggjcjijoihilaa
