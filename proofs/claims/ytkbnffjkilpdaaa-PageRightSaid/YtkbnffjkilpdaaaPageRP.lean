/- Which page bytes are, as the document asks it of the bytes themselves. -/
import Derived.Test.YtkbnffjkilpdaaaPageP
namespace Go.Proofs.Ytkbnffjkilpdaaa.Page

def mid (l : List UInt8) : List UInt8 := l.take (l.length - 4)
theorem open_mid {l : List UInt8} (h : (openL l).2 = 0) : (openL l).1 = mid l := by
  unfold openL at *
  by_cases h4 : l.length < 4
  · rw [if_pos h4] at h; exact absurd h (by decide)
  · rw [if_neg h4] at h ⊢
    by_cases hd : l.drop (l.length - 4) = sealB (l.take (l.length - 4))
    · rw [if_pos hd]; rfl
    · rw [if_neg hd] at h; exact absurd h (by decide)
theorem mid_length (l : List UInt8) : (mid l).length = l.length - 4 := by unfold mid; rw [List.length_take]; omega
theorem mid_at {l : List UInt8} {j : Nat} (h : j < l.length - 4) : (mid l)[j]? = l[j]? := by unfold mid; rw [List.getElem?_take_of_lt h]
theorem mid_part (l : List UInt8) {a b : Nat} (h : a + b ≤ l.length - 4) : ((mid l).drop a).take b = (l.drop a).take b := by
  unfold mid
  rw [List.drop_take, List.take_take, Nat.min_eq_left (by omega)]
theorem two_list {l : List UInt8} {a : Nat} {x y : UInt8} (hx : l[a]? = some x) (hy : l[a + 1]? = some y) : (l.drop a).take 2 = [x, y] := by
  apply List.ext_getElem?
  intro j
  match j with
  | 0 => rw [List.getElem?_take_of_lt (by decide), List.getElem?_drop, Nat.add_zero, hx]; rfl
  | 1 => rw [List.getElem?_take_of_lt (by decide), List.getElem?_drop, hy]; rfl
  | j + 2 => rw [List.getElem?_eq_none (by rw [List.length_take]; omega)]; rfl
theorem get_two (x y : UInt8) : getB [x, y] = 256 * x.toNat + y.toNat := by
  rw [getB_val]
  have h1 : x.toNat < 256 := x.toNat_lt
  have h2 : y.toNat < 256 := y.toNat_lt
  show (([x, y] : List UInt8).foldl _ 0) % _ = _
  simp only [List.foldl]
  omega
theorem mid_many {l : List UInt8} {x y : UInt8} (hl : 24 ≤ l.length) (hx : l[8]? = some x) (hy : l[9]? = some y) : manyN (mid l) = 256 * x.toNat + y.toNat := by
  unfold manyN
  rw [mid_part l (by omega), two_list hx hy, get_two]
theorem mid_opened {l : List UInt8} {x0 x1 : UInt8} {m : Nat} (hl : 24 ≤ l.length) (h0 : l[0]? = some x0) (h1 : l[1]? = some x1) (hm : manyN (mid l) = m) (hmn : m ≤ l.length - 16) :
    openedP (mid l) = ⟨(x0.toNat : Int), (x1.toNat : Int), getB ((l.drop 2).take 6), (l.drop 10).take m⟩ := by
  unfold openedP
  rw [hm, mid_part l (by omega), mid_part l (by omega), List.getD_eq_getElem?_getD, List.getD_eq_getElem?_getD, mid_at (by omega), mid_at (by omega), h0, h1]
  rfl
theorem gen_lt (l : List UInt8) (h : l.length = 6) : getB l < 281474976710656 := by
  rw [getB_val]
  have h1 := valB_lt l
  rw [h, show (256 : Nat) ^ 6 = 281474976710656 by decide] at h1
  exact Nat.lt_of_le_of_lt (Nat.mod_le _ _) h1
/-- All bytes behind a body are noughts, as far as a place. -/
def Noughts (l : List UInt8) (a b : Nat) : Prop := ∀ (j : Nat) y, a ≤ j → j < b → l[j]? = some y → y = 0
theorem mid_noughts {l : List UInt8} {a : Nat} (h : Noughts l a (l.length - 4)) : allB ((mid l).drop a) 0 = true := all_iff.2 fun y hy => by
  obtain ⟨j, hj, e⟩ := List.getElem_of_mem hy
  have hj' : a + j < l.length - 4 := by rw [List.length_drop, mid_length] at hj; omega
  have e2 : ((mid l).drop a)[j]? = some y := by rw [List.getElem?_eq_getElem hj, e]
  rw [List.getElem?_drop, mid_at hj'] at e2
  exact h (a + j) y (by omega) hj' e2
theorem mid_not {l : List UInt8} {a j : Nat} {y : UInt8} (h1 : a ≤ j) (h2 : j < l.length - 4) (hy : l[j]? = some y) (hne : y ≠ 0) : allB ((mid l).drop a) 0 = false := by
  refine all_not (x := 0) (y := y) ?_ hne
  refine List.mem_of_getElem? (i := j - a) ?_
  rw [List.getElem?_drop, show a + (j - a) = j by omega, mid_at h2, hy]
/-- Whether they are a page's. -/
theorem mid_good {l : List UInt8} {x0 x1 : UInt8} {m : Nat} (hl : 24 ≤ l.length) (hl2 : l.length ≤ 256) (h0 : l[0]? = some x0) (h1 : l[1]? = some x1) (hm : manyN (mid l) = m) (hk : x0.toNat = 1 ∨ x0.toNat = 2) (hi : x1.toNat ≤ 63) (hmn : m ≤ l.length - 16) :
    goodB (mid l) l.length = allB ((mid l).drop (10 + m)) 0 := by
  have ho := mid_opened hl h0 h1 hm hmn
  have hmay : mayB (openedP (mid l)) (l.length : Int) = true := by
    rw [ho]
    have hg := gen_lt ((l.drop 2).take 6) (by rw [List.length_take, List.length_drop]; omega)
    refine may_iff.2 ⟨⟨by omega, by omega⟩, by simp only; omega, ⟨by simp only; omega, by simp only; omega⟩, hg, ?_⟩
    simp only [List.length_take]
    omega
  unfold goodB
  rw [hmay, hm, decide_eq_true hmn]
  rfl
theorem mid_bad {l : List UInt8} {x0 x1 : UInt8} {m : Nat} (hl : 24 ≤ l.length) (h0 : l[0]? = some x0) (h1 : l[1]? = some x1) (hm : manyN (mid l) = m) (h : ¬ (x0.toNat = 1 ∨ x0.toNat = 2) ∨ 63 < x1.toNat ∨ l.length - 16 < m) : goodB (mid l) l.length = false := by
  unfold goodB
  rw [hm]
  by_cases hmn : m ≤ l.length - 16
  · have hmay : mayB (openedP (mid l)) (l.length : Int) = false := by
      rw [mid_opened hl h0 h1 hm hmn]
      cases hc : mayB ⟨(x0.toNat : Int), (x1.toNat : Int), getB ((l.drop 2).take 6), (l.drop 10).take m⟩ (l.length : Int) with
      | false => rfl
      | true =>
        exfalso
        obtain ⟨-, h2, ⟨-, h3⟩, -⟩ := may_iff.1 hc
        simp only at h2 h3
        rcases h with h | h | h <;> omega
    rw [hmay]; simp
  · rw [decide_eq_false hmn]; rfl
/-- What is read, if the sum is that. -/
theorem read_mid {l : List UInt8} (hs : sizedB (l.length : Int) = true) (ha : allB l 255 = false) (ho : (openL l).2 = 0) : readL l = if goodB (mid l) l.length = true then (openedP (mid l), 0) else (zeroP, 2) := by
  unfold readL
  rw [hs, ha, if_neg (by decide), if_neg (by decide), if_pos ho, open_mid ho]
end Go.Proofs.Ytkbnffjkilpdaaa.Page
