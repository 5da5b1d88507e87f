/- Orders one behind the other, and which block is first by them. -/
import Derived.Test.YtkpdkpfmljcllaaWearP
namespace Go.Proofs.Ytkpdkpfmljcllaa.Wear

theorem cmpI_cases (a b : Int) : (a < b ∧ cmpI a b = -1) ∨ (a = b ∧ cmpI a b = 0) ∨ (b < a ∧ cmpI a b = 1) := by
  unfold cmpI
  by_cases h1 : a < b
  · exact .inl ⟨h1, if_pos h1⟩
  · by_cases h2 : b < a
    · exact .inr (.inr ⟨h2, by rw [if_neg h1, if_pos h2]⟩)
    · exact .inr (.inl ⟨by omega, by rw [if_neg h1, if_neg h2]⟩)
/-- An order that compares by a number. -/
def Keyed (o : Order) : Prop := ∃ f : Wb → Int, ∀ a b, o a b = cmpI (f a) (f b)
theorem keyed_used : Keyed moreUsed := ⟨fun b => -b.used, fun a b => by
  show cmpI b.used a.used = cmpI (-a.used) (-b.used)
  rcases cmpI_cases b.used a.used with ⟨h1, h2⟩ | ⟨h1, h2⟩ | ⟨h1, h2⟩ <;> rcases cmpI_cases (-a.used) (-b.used) with ⟨h3, h4⟩ | ⟨h3, h4⟩ | ⟨h3, h4⟩ <;> omega⟩
theorem keyed_worn : Keyed lessWorn := ⟨fun b => b.worn, fun _ _ => rfl⟩
theorem keyed_live : Keyed lessLive := ⟨fun b => b.live, fun _ _ => rfl⟩
theorem keyed_bad : Keyed badAhead := ⟨fun b => if b.bad = true then 0 else 1, fun a b => by
  obtain ⟨_, _, _, x⟩ := a
  obtain ⟨_, _, _, y⟩ := b
  cases x <;> cases y <;> rfl⟩
def AllKeyed (os : List Order) : Prop := ∀ o ∈ os, Keyed o
theorem keyed_front : AllKeyed [moreUsed, lessWorn] := fun o ho => by
  simp at ho
  rcases ho with rfl | rfl
  · exact keyed_used
  · exact keyed_worn
theorem keyed_dead : AllKeyed [lessWorn] := fun o ho => by
  simp at ho; subst ho; exact keyed_worn
theorem keyed_victim : AllKeyed [badAhead, lessLive, lessWorn] := fun o ho => by
  simp at ho
  rcases ho with rfl | rfl | rfl
  · exact keyed_bad
  · exact keyed_live
  · exact keyed_worn
theorem cmpL_anti : ∀ {os : List Order}, AllKeyed os → ∀ a b, cmpL os b a = - cmpL os a b
  | [], _, _, _ => rfl
  | o :: os, h, a, b => by
    obtain ⟨f, hf⟩ := h o List.mem_cons_self
    have ih := cmpL_anti (fun o ho => h o (List.mem_cons_of_mem _ ho)) a b
    show (if o b a = 0 then cmpL os b a else o b a) = - (if o a b = 0 then cmpL os a b else o a b)
    rw [hf, hf]
    rcases cmpI_cases (f a) (f b) with ⟨h1, h2⟩ | ⟨h1, h2⟩ | ⟨h1, h2⟩
    · rcases cmpI_cases (f b) (f a) with ⟨h3, h4⟩ | ⟨h3, h4⟩ | ⟨h3, h4⟩
      · omega
      · omega
      · rw [h2, h4]; rfl
    · rcases cmpI_cases (f b) (f a) with ⟨h3, h4⟩ | ⟨h3, h4⟩ | ⟨h3, h4⟩
      · omega
      · rw [h2, h4, if_pos rfl, if_pos rfl]; exact ih
      · omega
    · rcases cmpI_cases (f b) (f a) with ⟨h3, h4⟩ | ⟨h3, h4⟩ | ⟨h3, h4⟩
      · rw [h2, h4]; rfl
      · omega
      · omega
theorem cmpL_trans : ∀ {os : List Order}, AllKeyed os → ∀ a b c, cmpL os a b ≤ 0 → cmpL os b c ≤ 0 → cmpL os a c ≤ 0 ∧ (cmpL os a b < 0 ∨ cmpL os b c < 0 → cmpL os a c < 0)
  | [], _, _, _, _ => fun _ _ => ⟨Int.le_refl _, fun h => by rcases h with h | h <;> exact h⟩
  | o :: os, h, a, b, c => by
    obtain ⟨f, hf⟩ := h o List.mem_cons_self
    have ih := cmpL_trans (fun o ho => h o (List.mem_cons_of_mem _ ho)) a b c
    show (if o a b = 0 then cmpL os a b else o a b) ≤ 0 → (if o b c = 0 then cmpL os b c else o b c) ≤ 0 → (if o a c = 0 then cmpL os a c else o a c) ≤ 0 ∧ ((if o a b = 0 then cmpL os a b else o a b) < 0 ∨ (if o b c = 0 then cmpL os b c else o b c) < 0 → (if o a c = 0 then cmpL os a c else o a c) < 0)
    rw [hf, hf, hf]
    rcases cmpI_cases (f a) (f b) with ⟨h1, h2⟩ | ⟨h1, h2⟩ | ⟨h1, h2⟩
    · rcases cmpI_cases (f b) (f c) with ⟨h3, h4⟩ | ⟨h3, h4⟩ | ⟨h3, h4⟩
      · rcases cmpI_cases (f a) (f c) with ⟨h5, h6⟩ | ⟨h5, h6⟩ | ⟨h5, h6⟩
        · rw [h2, h4, h6]; simp
        · omega
        · omega
      · rcases cmpI_cases (f a) (f c) with ⟨h5, h6⟩ | ⟨h5, h6⟩ | ⟨h5, h6⟩
        · rw [h2, h4, h6]; simp
        · omega
        · omega
      · rw [h2, h4]; simp
    · rcases cmpI_cases (f b) (f c) with ⟨h3, h4⟩ | ⟨h3, h4⟩ | ⟨h3, h4⟩
      · rcases cmpI_cases (f a) (f c) with ⟨h5, h6⟩ | ⟨h5, h6⟩ | ⟨h5, h6⟩
        · rw [h2, h4, h6]; simp
        · omega
        · omega
      · rcases cmpI_cases (f a) (f c) with ⟨h5, h6⟩ | ⟨h5, h6⟩ | ⟨h5, h6⟩
        · omega
        · rw [h2, h4, h6]; simpa using ih
        · omega
      · rw [h2, h4]; simp
    · rw [h2]; simp

/-- What the first one is. -/
structure BestIs (R : Wb → Bool) (os : List Order) (l : List Wb) (n k : Nat) (y : Wb) : Prop where
  at' : l[k]? = some y
  lt : k < n
  fits : R y = true
  least : ∀ (j : Nat) x, j < n → l[j]? = some x → R x = true → 0 ≤ cmpL os x y
  ahead : ∀ (j : Nat) x, j < k → l[j]? = some x → R x = true → 0 < cmpL os x y
theorem cmpL_self {os : List Order} (ho : AllKeyed os) (a : Wb) : cmpL os a a = 0 := by have := cmpL_anti ho a a; omega
theorem best_is {R : Wb → Bool} {os : List Order} (ho : AllKeyed os) (l : List Wb) : ∀ n, n ≤ l.length → (∀ k, bestTo R os l n = some k → ∃ y, BestIs R os l n k y) ∧ (bestTo R os l n = none → ∀ (j : Nat) x, j < n → l[j]? = some x → R x = false)
  | 0, _ => ⟨fun k h => by simp [bestTo] at h, fun _ j x hj => by omega⟩
  | n + 1, hn => by
    obtain ⟨ih1, ih2⟩ := best_is (R := R) ho l n (by omega)
    have hx : l[n]? = some (l[n]'(by omega)) := List.getElem?_eq_getElem _
    obtain ⟨x, hxe⟩ : ∃ x, l[n]'(by omega) = x := ⟨_, rfl⟩
    rw [hxe] at hx
    clear hxe
    have hlast : ∀ (j : Nat) z, j < n + 1 → l[j]? = some z → j < n ∨ (j = n ∧ z = x) := fun j z hj hz => by
      by_cases e : j = n
      · subst e; rw [hx] at hz; cases hz; exact .inr ⟨rfl, rfl⟩
      · exact .inl (by omega)
    by_cases hR : R x = true
    · cases hq : bestTo R os l n with
      | none =>
        have e : bestTo R os l (n + 1) = some n := by
          show (match l[n]? with | none => _ | some b => _) = _
          rw [hx]; dsimp only; rw [if_pos hR, hq]
        have h0 := ih2 hq
        rw [e]
        refine ⟨fun k hk => ?_, fun h => by cases h⟩
        cases hk
        refine ⟨x, hx, by omega, hR, fun j z hj hz hz2 => ?_, fun j z hj hz hz2 => ?_⟩
        · rcases hlast j z hj hz with h | ⟨-, rfl⟩
          · rw [h0 j z h hz] at hz2; cases hz2
          · rw [cmpL_self ho]; exact Int.le_refl _
        · rw [h0 j z hj hz] at hz2; cases hz2
      | some k =>
        obtain ⟨y, hy⟩ := ih1 k hq
        have e : bestTo R os l (n + 1) = if cmpL os x y < 0 then some n else some k := by
          show (match l[n]? with | none => _ | some b => _) = _
          rw [hx]; dsimp only; rw [if_pos hR, hq]; dsimp only
          rw [show l.getD k default = y by rw [List.getD_eq_getElem?_getD, hy.at']; rfl]
        rw [e]
        by_cases hc : cmpL os x y < 0
        · rw [if_pos hc]
          refine ⟨fun k' hk => ?_, fun h => by cases h⟩
          cases hk
          have hbefore : ∀ (j : Nat) z, j < n → l[j]? = some z → R z = true → 0 < cmpL os z x := fun j z hj hz hz2 => by
            have h1 := hy.least j z hj hz hz2
            have h2 := cmpL_anti ho z y
            have h3 := (cmpL_trans ho x y z (by omega) (by omega)).2 (.inl hc)
            have h4 := cmpL_anti ho x z
            omega
          refine ⟨x, hx, by omega, hR, fun j z hj hz hz2 => ?_, hbefore⟩
          rcases hlast j z hj hz with h | ⟨-, rfl⟩
          · have := hbefore j z h hz hz2; omega
          · rw [cmpL_self ho]; exact Int.le_refl _
        · rw [if_neg hc]
          refine ⟨fun k' hk => ?_, fun h => by cases h⟩
          cases hk
          refine ⟨y, hy.at', by have := hy.lt; omega, hy.fits, fun j z hj hz hz2 => ?_, hy.ahead⟩
          rcases hlast j z hj hz with h | ⟨-, rfl⟩
          · exact hy.least j z h hz hz2
          · omega
    · have hRf : R x = false := by simpa using hR
      have e : bestTo R os l (n + 1) = bestTo R os l n := by
        show (match l[n]? with | none => _ | some b => _) = _
        rw [hx]; dsimp only; rw [if_neg hR]
      rw [e]
      refine ⟨fun k hk => ?_, fun h j z hj hz => ?_⟩
      · obtain ⟨y, hy⟩ := ih1 k hk
        refine ⟨y, hy.at', by have := hy.lt; omega, hy.fits, fun j z hj hz hz2 => ?_, hy.ahead⟩
        rcases hlast j z hj hz with h | ⟨-, rfl⟩
        · exact hy.least j z h hz hz2
        · rw [hRf] at hz2; cases hz2
      · rcases hlast j z hj hz with h1 | ⟨-, rfl⟩
        · exact ih2 h j z h1 hz
        · exact hRf
/-- The same of a whole list. -/
theorem first_some {R : Wb → Bool} {os : List Order} (ho : AllKeyed os) {l : List Wb} {p : Int} {k : Nat} (h : firstL R os l p = some k) : ∃ y, BestIs R os l l.length k y := by
  unfold firstL at h
  split at h
  · exact (best_is ho l l.length (Nat.le_refl _)).1 k h
  · cases h
theorem first_none {R : Wb → Bool} {os : List Order} (ho : AllKeyed os) {l : List Wb} {p : Int} (hr : rightB l p = true) (h : firstL R os l p = none) : ∀ x ∈ l, R x = false := fun x hx => by
  unfold firstL at h
  rw [if_pos hr] at h
  obtain ⟨j, hj⟩ := List.mem_iff_getElem?.1 hx
  exact (best_is ho l l.length (Nat.le_refl _)).2 h j x (List.getElem?_eq_some_iff.1 hj).1 hj
/-- A first one is just one. -/
theorem first_unique {R : Wb → Bool} {os : List Order} (ho : AllKeyed os) {l : List Wb} {p : Int} (hr : rightB l p = true) {k : Nat} {y : Wb} (h : BestIs R os l l.length k y) : firstL R os l p = some k := by
  cases hq : firstL R os l p with
  | none => have := first_none ho hr hq y (List.mem_of_getElem? h.at'); rw [h.fits] at this; cases this
  | some j =>
    obtain ⟨z, hz⟩ := first_some ho hq
    rcases Nat.lt_trichotomy j k with h1 | h1 | h1
    · have h2 := h.ahead j z h1 hz.at' hz.fits
      have h3 := hz.least k y h.lt h.at' h.fits
      have h4 := cmpL_anti ho y z
      omega
    · rw [h1]
    · have h2 := hz.ahead k y h1 h.at' h.fits
      have h3 := h.least j z hz.lt hz.at' hz.fits
      have h4 := cmpL_anti ho y z
      omega
end Go.Proofs.Ytkpdkpfmljcllaa.Wear
