/- table.Sort: of each prefix that may be the last route, in order. -/
import Derived.Test.YtggjcjijoihilaaTabRev
import Derived.Test.YtggjcjijoihilaaTabPlace
namespace Go.Proofs.Ytggjcjijoihilaa
open Go.RowKit Go.Sort Go.Shelf Go.Deep
attribute [local go_sem ↓] loadVar_key loadVar_pre loadVar_route storeVar_pre storeVar_route buildSlice_row binOp_preEql

/-! ### Plain -/
def findP (l : List Rt) (p : Pre) : Option Rt := l.find? fun r => preEq r.pre p

theorem preEq_iff {p q : Pre} : preEq p q = true ↔ p.bits = q.bits ∧ p.len = q.len ∧ ∀ i, i < 16 → p.key i = q.key i := by
  unfold preEq
  simp [keyEq_iff, and_assoc]
theorem preEq_symm {p q : Pre} (h : preEq p q = true) : preEq q p = true := by
  obtain ⟨a, b, c⟩ := preEq_iff.1 h
  exact preEq_iff.2 ⟨a.symm, b.symm, fun i hi => (c i hi).symm⟩
theorem preEq_trans {p q r : Pre} (h : preEq p q = true) (k : preEq q r = true) : preEq p r = true := by
  obtain ⟨a, b, c⟩ := preEq_iff.1 h
  obtain ⟨a', b', c'⟩ := preEq_iff.1 k
  exact preEq_iff.2 ⟨a.trans a', b.trans b', fun i hi => (c i hi).trans (c' i hi)⟩

/-- What a list of routes sorted is: in order, and of each prefix the last one. -/
structure SortSpec (l out : List Rt) : Prop where
  good : Good out
  find : ∀ p, findP out p = findP (mayL l).reverse p

theorem find_cls {a b : List Rt} (hm : AllMay b) (h : Cls oR a b) (p : Pre) : findP a p = findP b p := by
  unfold findP
  rw [← List.head?_filter, ← List.head?_filter]
  by_cases hx : ∃ r ∈ b, preEq r.pre p = true
  · obtain ⟨r, hr, hp⟩ := hx
    have e : ∀ l : List Rt, (∀ s ∈ l, mayB s.pre = true) → l.filter (fun s => preEq s.pre p) = l.filter (fun s => oR s == oR r) := fun l hl => by
      refine List.filter_congr fun s hs => ?_
      rw [Bool.eq_iff_iff, beq_iff_eq]
      have h1 := eq_ord s.hk r.hk (hl s hs) (hm r hr)
      constructor
      · intro h2; exact h1.1 (preEq_trans h2 (preEq_symm hp))
      · intro h2; exact preEq_trans (h1.2 h2) hp
    rw [e a (fun s hs => hm s (h.mem.1 hs)), e b hm, h (oR r)]
  · have e : ∀ l : List Rt, (∀ s ∈ l, s ∈ b) → l.filter (fun s => preEq s.pre p) = [] := fun l hl => by
      rw [List.filter_eq_nil_iff]
      intro s hs hp
      exact hx ⟨s, hl s hs, hp⟩
    rw [e a (fun s hs => h.mem.1 hs), e b (fun _ h => h)]

/-- What stands first of each prefix, of a list in order. -/
structure KeptAt (Z : List Rt) (j : Nat) : Prop where
  strict : (kept Z j).Pairwise fun a b => oR a < oR b
  sub : ∀ r ∈ kept Z j, r ∈ Z.take j
  find : ∀ p, findP (kept Z j) p = findP (Z.take j) p

theorem kept_at {Z : List Rt} (hs : Srt oR Z) (hm : AllMay Z) : ∀ j, j ≤ Z.length → KeptAt Z j
  | 0, _ => ⟨List.Pairwise.nil, fun r hr => by simp [kept] at hr, fun p => by simp [kept]⟩
  | j + 1, hj => by
    have ih := kept_at hs hm j (by omega)
    have hr : Z[j]? = some (Z[j]'(by omega)) := List.getElem?_eq_getElem _
    obtain ⟨r, er⟩ : ∃ r, r = Z[j]'(by omega) := ⟨_, rfl⟩
    rw [← er] at hr
    have ht : Z.take (j + 1) = Z.take j ++ [r] := by rw [List.take_add_one, hr]; rfl
    have hmr : mayB r.pre = true := hm r (List.mem_of_getElem? hr)
    cases hk : keepAt Z j with
    | true =>
      refine ⟨?_, ?_, ?_⟩
      · rw [kept_yes hr hk, List.pairwise_append]
        refine ⟨ih.strict, List.pairwise_singleton _ _, fun a ha b hb => ?_⟩
        simp at hb
        subst hb
        obtain ⟨i, hi⟩ := List.mem_iff_getElem?.1 (ih.sub a ha)
        rw [List.getElem?_take] at hi
        split at hi
        · rename_i hij
          cases j with
          | zero => omega
          | succ j =>
            have hs2 : Z[j]? = some (Z[j]'(by omega)) := List.getElem?_eq_getElem _
            have h1 := hs.get (i := i) (j := j) (by omega) hi hs2
            have h2 := hs.get (i := j) (j := j + 1) (by omega) hs2 hr
            have h3 : oR (Z[j]'(by omega)) ≠ oR b := fun e => by
              have := keep_at hr hs2
              rw [hk] at this
              have h4 := (eq_ord b.hk (Z[j]'(by omega)).hk hmr (hm _ (List.getElem_mem _))).2 e.symm
              rw [h4] at this
              cases this
            omega
        · cases hi
      · rw [kept_yes hr hk, ht]
        intro x hx
        rcases List.mem_append.1 hx with hx | hx
        · exact List.mem_append_left _ (ih.sub x hx)
        · exact List.mem_append_right _ hx
      · intro p
        rw [kept_yes hr hk, ht]
        have := ih.find p
        unfold findP at this ⊢
        rw [List.find?_append, List.find?_append, this]
    | false =>
      refine ⟨by rw [kept_no hr hk]; exact ih.strict, ?_, ?_⟩
      · rw [kept_no hr hk, ht]
        intro x hx
        exact List.mem_append_left _ (ih.sub x hx)
      · intro p
        rw [kept_no hr hk, ht]
        have := ih.find p
        unfold findP at this ⊢
        rw [this, List.find?_append]
        cases hf : (Z.take j).find? (fun r => preEq r.pre p) with
        | some x => rfl
        | none =>
          have hno : preEq r.pre p = false := by
            cases hp : preEq r.pre p with
            | false => rfl
            | true =>
              exfalso
              cases j with
              | zero => simp [keepAt] at hk
              | succ j =>
                have hs2 : Z[j]? = some (Z[j]'(by omega)) := List.getElem?_eq_getElem _
                have h1 := keep_at hr hs2
                rw [hk] at h1
                have h2 : preEq r.pre (Z[j]'(by omega)).pre = true := by simpa using h1.symm
                have h3 := preEq_trans (preEq_symm h2) hp
                rw [List.find?_eq_none] at hf
                exact hf _ (by
                  have : (Z.take (j + 1))[j]? = some (Z[j]'(by omega)) := by rw [List.getElem?_take, if_pos (by omega)]; exact hs2
                  exact List.mem_of_getElem? this) h3
          simp [hno]

theorem mayL_may (l : List Rt) : AllMay (mayL l) := fun _ hr => (List.mem_filter.1 hr).2
theorem sort_spec {l Z : List Rt} (hs : Srt oR Z) (hc : Cls oR Z (mayL l).reverse) : SortSpec l (keptL Z) := by
  have hmr : AllMay (mayL l).reverse := fun r hr => mayL_may l r (by simpa using hr)
  have hm : AllMay Z := hmr.cls hc
  have h := kept_at hs hm Z.length (Nat.le_refl _)
  have hmk : ∀ r ∈ keptL Z, mayB r.pre = true := fun r hr => hm r (List.mem_of_mem_take (h.sub r hr))
  refine ⟨⟨hmk, ?_⟩, fun p => ?_⟩
  · refine (List.Pairwise.and_mem.1 h.strict).imp ?_
    rintro a b ⟨ha, hb, hlt⟩
    exact (less_ord a.hk b.hk (hmk a ha) (hmk b hb)).2 hlt
  · have := h.find p
    rw [List.take_of_length_le (Nat.le_refl _)] at this
    exact this.trans (find_cls hmr hc p)

/-! ### The calls -/
theorem own_sw {w w' : World} {base g cap : Nat} {l l' : List Rt} {rest : List Value} (h : OwnAt w base g cap l rest) (hs : SW w g rest l' w') (hl : l'.length = l.length) : Own w' base (.slice (some ⟨g, 0, none⟩) l.length cap) l' := by
  have h1 : OwnAt w' base g cap l' rest := ⟨h.base, hs.row, by rw [hl]; exact h.size, by rw [hl]; exact h.le, h.max⟩
  have h2 := h1.own
  rw [hl] at h2
  exact h2

theorem reverse_own (l : List Rt) (v : Value) (base : Nat) (w : World) (ho : Own w base v l) (h16 : l.length ≤ 65536) :
    Calls Try.prog 47 #[v] w fun e w' => e = .returned (.tuple #[]) ∧ Own w' base v l.reverse ∧ w.grownBy w' v.ownBlock := by
  rcases ho.at' with ⟨rfl, rfl⟩ | ⟨g, cap, rest, rfl, hat⟩
  · refine (reverse_nil w).mono ?_
    rintro e w' ⟨rfl, rfl⟩
    exact ⟨rfl, own_nil _ _, grown_refl _ _⟩
  · refine (reverse_any w g rest l l.length cap w ⟨grown_refl _ _, hat.row⟩ rfl h16).mono ?_
    rintro e w' ⟨rfl, hs⟩
    exact ⟨rfl, own_sw hat hs (List.length_reverse), hs.grown⟩

theorem sort_own (l : List Rt) (v : Value) (base : Nat) (w : World) (ho : Own w base v l) (h16 : l.length ≤ 65536) (hm : AllMay l) :
    Calls Try.prog 48 #[v, cmpV] w fun e w' => e = .returned (.tuple #[]) ∧ ∃ Z, Own w' base v Z ∧ Srt oR Z ∧ Cls oR Z l ∧ w.grownBy w' v.ownBlock := by
  rcases ho.at' with ⟨rfl, rfl⟩ | ⟨g, cap, rest, rfl, hat⟩
  · refine (sortStable_nil w).mono ?_
    rintro e w' ⟨rfl, rfl⟩
    exact ⟨rfl, [], own_nil _ _, srt_nil, Cls.refl _, grown_refl _ _⟩
  · refine (sortStable_any w g rest l l.length cap w ⟨grown_refl _ _, hat.row⟩ rfl h16 hm).mono ?_
    rintro e w' ⟨rfl, Z, hs, h1, h2⟩
    rw [List.nil_append, List.append_nil] at hs
    exact ⟨rfl, Z, own_sw hat hs h2.length, h1, h2, hs.grown⟩

def SortPost (w : World) (l : List Rt) (e : Ending) (w' : World) : Prop := ∃ v' out, e = .returned v' ∧ Own w' w.heap.size v' out ∧ SortSpec l out ∧ Below w.heap.size w w'

theorem own_below {a w w' : World} {base : Nat} {v : Value} {l : List Rt} (h : Below base a w) (ho : Own w base v l) (hb : base ≤ w.heap.size) (hg : w.grownBy w' v.ownBlock) : Below base a w' :=
  h.grown hg hb (fun k hk => (ho.lt k hk).1)

set_option maxHeartbeats 2000000 in
set_option maxRecDepth 100000 in
theorem sort_any (l : List Rt) (v : Value) (w : World) (hR : Rd w v l) (h16 : l.length ≤ 65536) :
    Calls Try.prog 17 #[v] w (SortPost w l) := by
  have C1 := clone_any l h16 v w hR
  have HC1 := Lib.hid C1
  have H16 := Lib.hid h16
  clear C1 hR h16
  unfold SortPost
  go_enter Try.func17, Try.ntmps17
  go_wp2_with fail
  refine HC1.out.mono ?_
  rintro e w1 ⟨v1, rfl, ho1, h1⟩
  have C2 := deleteFunc_any l v1 w.heap.size w1 ho1 H16.out
  have HC2 := Lib.hid C2
  have HO1 := Lib.hid ho1
  have HB1 := Lib.hid h1
  clear C2 ho1 h1
  go_wp2_with fail
  refine HC2.out.mono ?_
  rintro e w2 ⟨v2, rfl, ho2, hg2⟩
  have HB2 := Lib.hid (own_below HB1.out HO1.out HB1.out.size hg2)
  have hl2 : (mayL l).length ≤ 65536 := Nat.le_trans (List.length_filter_le _ _) H16.out
  have C3 := reverse_own (mayL l) v2 w.heap.size w2 ho2 hl2
  have HC3 := Lib.hid C3
  have HO2 := Lib.hid ho2
  have HL2 := Lib.hid hl2
  clear C3 ho2 hg2 hl2
  go_wp2_with fail
  refine HC3.out.mono ?_
  rintro e w3 ⟨rfl, ho3, hg3⟩
  have HB3 := Lib.hid (own_below HB2.out HO2.out HB2.out.size hg3)
  have C4 := sort_own (mayL l).reverse v2 w.heap.size w3 ho3 (by rw [List.length_reverse]; exact HL2.out) (fun r hr => mayL_may l r (by simpa using hr))
  unfold cmpV at C4
  have HC4 := Lib.hid C4
  have HO3 := Lib.hid ho3
  clear C4 ho3 hg3
  go_wp2_with fail
  refine HC4.out.mono ?_
  rintro e w4 ⟨rfl, Z, ho4, hs4, hc4, hg4⟩
  have HB4 := Lib.hid (own_below HB3.out HO3.out HB3.out.size hg4)
  have C5 := compact_any Z v2 w.heap.size w4 ho4 (by rw [hc4.length, List.length_reverse]; exact HL2.out)
  have HC5 := Lib.hid C5
  have HO4 := Lib.hid ho4
  have HS := Lib.hid (sort_spec hs4 hc4)
  clear C5 ho4 hg4 hs4 hc4
  go_wp2_with fail
  refine HC5.out.mono ?_
  rintro e w5 ⟨v5, rfl, ho5, hg5⟩
  have HB5 := Lib.hid (own_below HB4.out HO4.out HB4.out.size hg5)
  have HO5 := Lib.hid ho5
  clear ho5 hg5
  go_wp2
  go_ret
  exact ⟨v5, _, rfl, HO5.out, HS.out, HB5.out⟩
end Go.Proofs.Ytggjcjijoihilaa
