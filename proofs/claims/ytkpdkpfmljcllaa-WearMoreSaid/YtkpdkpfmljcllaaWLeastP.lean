/- Of blocks that are right: who is front, dead, the victim; how much room there is. -/
import Derived.Test.YtkpdkpfmljcllaaWearOrd
import Derived.Test.YtkpdkpfmljcllaaWearAwake
namespace Go.Proofs.Ytkpdkpfmljcllaa.Wear

theorem roomE_pos {p : Int} {b : Wb} (hp : 1 ≤ p) (h : rightE p b = true) : (0 < roomE p b ↔ (freeB p b = true ∨ deadB b = true)) := by
  have := rightE_iff.1 h
  obtain ⟨lv, us, wo, bad⟩ := b
  dsimp only at this
  unfold roomE freeB
  cases bad with
  | true => simp [deadB]
  | false =>
    cases hd : deadB ⟨lv, us, wo, false⟩ with
    | true => simp; omega
    | false => simp
theorem roomTo_zero {p : Int} {l : List Wb} (h : ∀ b ∈ l, roomE p b = 0) : ∀ n, n ≤ l.length → roomTo p l n = 0
  | 0, _ => by simp [roomTo]
  | n + 1, hn => by
    have hx : l[n]? = some (l[n]'(by omega)) := List.getElem?_eq_getElem _
    rw [roomTo_next hx, roomTo_zero h n (by omega), h _ (List.mem_of_getElem? hx)]; rfl
theorem roomTo_pos {p : Int} {l : List Wb} (hp : 0 ≤ p) (hl : ∀ b ∈ l, rightE p b = true) {j : Nat} {b : Wb} (hb : l[j]? = some b) (h : 0 < roomE p b) : ∀ n, j < n → n ≤ l.length → 0 < roomTo p l n
  | 0, h1, _ => by omega
  | n + 1, h1, hn => by
    have hx : l[n]? = some (l[n]'(by omega)) := List.getElem?_eq_getElem _
    rw [roomTo_next hx]
    have h2 := roomE_bound hp (hl _ (List.mem_of_getElem? hx))
    by_cases e : j = n
    · subst e
      rw [hx] at hb
      have e2 : l[j] = b := Option.some.inj hb
      rw [e2]
      have := roomTo_bound hp hl j (by omega)
      omega
    · have := roomTo_pos hp hl hb h n (by omega) (by omega)
      omega
/-- What the law of the least asks. -/
structure Least (l : List Wb) (p : Int) (f d v : Option Nat) (room : Int) : Prop where
  front : ∀ k, f = some k → ∃ y, l[k]? = some y ∧ y.bad = false ∧ y.used < p ∧ ∀ (j : Nat) x, l[j]? = some x → x.bad = false → x.used < p → x.used ≤ y.used
  dead : ∀ k, d = some k → ∃ y, l[k]? = some y ∧ y.bad = false ∧ y.live = 0 ∧ ∀ (j : Nat) x, l[j]? = some x → x.bad = false → x.live = 0 → 0 < x.used → y.worn ≤ x.worn
  victim : ∀ k, v = some k → ∃ y, l[k]? = some y ∧ y.live ≠ 0
  some' : decide (0 < room) = (f.isSome || d.isSome)
  most : room ≤ p * (l.length : Int)
theorem least_is {l : List Wb} {p : Int} (hr : rightB l p = true) : Least l p (frontL l p) (deadL l p) (victimL l p) (roomL l p) := by
  obtain ⟨h1, h2, h3, h4, hall⟩ := rightB_iff.1 hr
  refine ⟨fun k hk => ?_, fun k hk => ?_, fun k hk => ?_, ?_, ?_⟩
  · obtain ⟨y, hy⟩ := first_some keyed_front hk
    have hf := hy.fits
    unfold freeB at hf
    simp at hf
    refine ⟨y, hy.at', hf.1, hf.2, fun j x hj hb hu => ?_⟩
    have h := hy.least j x (List.getElem?_eq_some_iff.1 hj).1 hj (by unfold freeB; simp [hb, hu])
    unfold cmpL at h
    unfold moreUsed at h
    rcases cmpI_cases y.used x.used with ⟨a1, a2⟩ | ⟨a1, a2⟩ | ⟨a1, a2⟩
    · rw [a2] at h; simp at h
    · omega
    · omega
  · obtain ⟨y, hy⟩ := first_some keyed_dead hk
    have hf := hy.fits
    unfold deadB at hf
    simp at hf
    refine ⟨y, hy.at', hf.1.1, hf.1.2, fun j x hj hb hl hu => ?_⟩
    have h := hy.least j x (List.getElem?_eq_some_iff.1 hj).1 hj (by unfold deadB; simp [hb, hl, hu])
    unfold cmpL at h
    unfold lessWorn at h
    rcases cmpI_cases x.worn y.worn with ⟨a1, a2⟩ | ⟨a1, a2⟩ | ⟨a1, a2⟩
    · rw [a2] at h; simp at h
    · omega
    · omega
  · obtain ⟨y, hy⟩ := first_some keyed_victim hk
    have hf := hy.fits
    unfold mixedB at hf
    refine ⟨y, hy.at', ?_⟩
    split at hf
    · simp at hf; omega
    · simp at hf; omega
  · unfold roomL
    rw [if_pos hr]
    cases hf : frontL l p with
    | some k =>
      obtain ⟨y, hy⟩ := first_some keyed_front hf
      have hm := hall y (List.mem_of_getElem? hy.at')
      have := roomTo_pos (by omega) hall hy.at' ((roomE_pos h3 hm).2 (.inl hy.fits)) l.length hy.lt (Nat.le_refl _)
      simp [this]
    | none =>
      cases hd : deadL l p with
      | some k =>
        obtain ⟨y, hy⟩ := first_some keyed_dead hd
        have hm := hall y (List.mem_of_getElem? hy.at')
        have := roomTo_pos (by omega) hall hy.at' ((roomE_pos h3 hm).2 (.inr hy.fits)) l.length hy.lt (Nat.le_refl _)
        simp [this]
      | none =>
        have e := roomTo_zero (p := p) (l := l) (fun b hb => by
          have a1 := first_none keyed_front hr hf b hb
          have a2 := first_none keyed_dead hr hd b hb
          have a3 := (roomE_pos h3 (hall b hb))
          have a4 := roomE_bound (p := p) (by omega) (hall b hb)
          rw [a1, a2] at a3
          simp at a3
          omega) l.length (Nat.le_refl _)
        rw [e]; rfl
  · unfold roomL
    rw [if_pos hr]
    exact (roomTo_bound (by omega) hall l.length (Nat.le_refl _)).2
end Go.Proofs.Ytkpdkpfmljcllaa.Wear
