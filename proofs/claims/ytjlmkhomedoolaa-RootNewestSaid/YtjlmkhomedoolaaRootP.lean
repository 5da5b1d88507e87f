/- The document's root, as plain numbers and lists: which may be, its page, which root a page is; the newest of many; that a root is read as it was, and that of all that are whole the newest counts. -/
import Derived.Test.YtjlmkhomedoolaaPageP
namespace Go.Proofs.Ytjlmkhomedoolaa.Root
open Go.Proofs.Ytjlmkhomedoolaa Go.Proofs.Ytjlmkhomedoolaa.Page

structure Ro where
  gen : Nat
  nums : List Int
def zeroR : Ro := ⟨0, []⟩
def mostI (n : Int) : Int := min 64 (roomI n / 2)
def wrongB (x : Int) : Bool := decide (x < 0) || decide (65535 < x)
def mayR (r : Ro) (n : Int) : Bool := mayB ⟨2, 0, r.gen, []⟩ n && (decide ((r.nums.length : Int) ≤ mostI n) && !(r.nums.any wrongB))
def idL (n : Nat) : Int := max ((n : Int) - 1) 0
def hi (x : Int) : UInt8 := UInt8.ofNat (x.toNat / 256)
def lo (x : Int) : UInt8 := UInt8.ofNat x.toNat
def two (x : Int) : List UInt8 := [hi x, lo x]
def bytesL (l : List Int) : List UInt8 := l.flatMap two
def laidP (r : Ro) : Pg := ⟨2, idL r.nums.length, r.gen, bytesL r.nums⟩
def pairN (x y : UInt8) : Int := ((x.toNat * 256 + y.toNat : Nat) : Int)
def numsL : List UInt8 → List Int
  | x :: y :: l => pairN x y :: numsL l
  | _ => []
def isR (p : Pg) : Bool := p.kind == 2 && (p.body.length % 2 == 0 && p.id == idL (p.body.length / 2))
def openR (p : Pg) : Ro := ⟨p.gen, numsL p.body⟩
def readR (b : List UInt8) : Ro × Int :=
  if (readL b).2 = 0 then (if (readL b).1.kind = 0 then (zeroR, 6) else if isR (readL b).1 = true then (openR (readL b).1, 0) else (zeroR, 2)) else (zeroR, (readL b).2)
def lackE (l : List (List UInt8)) : Int := if l.all (fun b => allB b 255) = true then 6 else 2
/-- What stands behind so many bytes: where, which root, the error. -/
structure Nw where
  pos : Nat
  root : Ro
  err : Int
def stepN (s : Nw) (n : Nat) (b : List UInt8) : Nw := if (readR b).2 = 0 ∧ s.root.gen ≤ (readR b).1.gen then ⟨n, (readR b).1, 0⟩ else s
def newN (l : List (List UInt8)) : Nat → Nw
  | 0 => ⟨0, zeroR, lackE l⟩
  | n + 1 => match l[n]? with
    | some b => stepN (newN l n) n b
    | none => newN l n
def newL (l : List (List UInt8)) : Nw := newN l l.length

theorem bytes_length (l : List Int) : (bytesL l).length = 2 * l.length := by
  unfold bytesL
  induction l with
  | nil => rfl
  | cons x l ih => rw [List.flatMap_cons, List.length_append, ih, List.length_cons]; show 2 + _ = _; omega
theorem nums_length : ∀ l : List UInt8, (numsL l).length = l.length / 2
  | [] => rfl
  | [_] => by simp [numsL]
  | x :: y :: l => by rw [numsL, List.length_cons, nums_length l]; simp only [List.length_cons]; omega
theorem pair_of {x : Int} (h : wrongB x = false) : pairN (hi x) (lo x) = x := by
  unfold wrongB at h
  simp at h
  unfold pairN hi lo
  rw [UInt8.toNat_ofNat', UInt8.toNat_ofNat']
  omega
theorem nums_bytes {l : List Int} (h : l.any wrongB = false) : numsL (bytesL l) = l := by
  induction l with
  | nil => rfl
  | cons x l ih =>
    rw [List.any_cons, Bool.or_eq_false_iff] at h
    show numsL (hi x :: lo x :: bytesL l) = _
    rw [numsL, ih h.2, pair_of h.1]
theorem most_of {n : Int} (h : sizedB n = true) : mostI n = min 64 ((n - 16) / 2) := by unfold mostI; rw [room_of h]
theorem mayR_iff {r : Ro} {n : Int} : mayR r n = true ↔ (24 ≤ n ∧ n ≤ 256) ∧ r.gen < 281474976710656 ∧ (r.nums.length : Int) ≤ mostI n ∧ r.nums.any wrongB = false := by
  unfold mayR
  simp only [Bool.and_eq_true, Bool.not_eq_true', decide_eq_true_eq, may_iff]
  constructor
  · rintro ⟨⟨h1, h2, h3, h4, h5⟩, h6, h7⟩
    exact ⟨h1, h4, h6, h7⟩
  · rintro ⟨h1, h4, h6, h7⟩
    exact ⟨⟨h1, by simp, ⟨by omega, by omega⟩, h4, by show (0 : Int) ≤ _; omega⟩, h6, h7⟩
theorem laid_may {r : Ro} {n : Int} (h : mayR r n = true) : mayB (laidP r) n = true := by
  obtain ⟨h1, h2, h3, h4⟩ := mayR_iff.1 h
  rw [most_of (sized_iff.2 h1)] at h3
  refine may_iff.2 ⟨h1, .inr rfl, ⟨?_, ?_⟩, h2, ?_⟩
  · show 0 ≤ idL _; unfold idL; omega
  · show idL _ < 64; unfold idL; omega
  · show ((bytesL r.nums).length : Int) ≤ _; rw [bytes_length]; omega
def putB2 (r : Ro) (n : Nat) : List UInt8 := pagePut (laidP r) n
theorem laid_is {r : Ro} {n : Int} (h : mayR r n = true) : isR (laidP r) = true ∧ openR (laidP r) = r := by
  obtain ⟨-, -, -, h4⟩ := mayR_iff.1 h
  constructor
  · unfold isR
    show ((2 : Int) == 2 && ((bytesL r.nums).length % 2 == 0 && idL r.nums.length == idL ((bytesL r.nums).length / 2))) = true
    rw [bytes_length, show 2 * r.nums.length % 2 = 0 by omega, show 2 * r.nums.length / 2 = r.nums.length by omega]
    simp
  · show (⟨r.gen, numsL (bytesL r.nums)⟩ : Ro) = r
    rw [nums_bytes h4]
theorem readR_put {r : Ro} {n : Nat} (h : mayR r n = true) : readR (putB2 r n) = (r, 0) := by
  unfold readR putB2
  rw [read_put (laid_may h)]
  obtain ⟨h1, h2⟩ := laid_is h
  rw [if_pos rfl, if_neg (by show ¬ (2 : Int) = 0; omega), if_pos h1, h2]
theorem put2_length {r : Ro} {n : Nat} (h : mayR r n = true) : (putB2 r n).length = n := put_length (laid_may h)
theorem readR_flip {r : Ro} {n : Nat} (h : mayR r n = true) {i : Nat} (hi : i < 8 * n) : readR (flipB (putB2 r n) i) = (zeroR, 4) := by
  unfold readR putB2
  rw [read_flip (laid_may h) hi, if_neg (by show ¬ (4 : Int) = 0; omega)]
theorem flip_lack {r : Ro} {n : Nat} (h : mayR r n = true) (i : Nat) : allB (flipB (putB2 r n) i) 255 = false := flip_blank (laid_may h) i
theorem readR_none {b : List UInt8} (h : (readR b).2 ≠ 0) : (readR b).1 = zeroR := by
  unfold readR at *
  split
  · rename_i h0
    rw [if_pos h0] at h
    split
    · rfl
    · rename_i h1
      rw [if_neg h1] at h
      split
      · rename_i h2
        rw [if_pos h2] at h
        exact absurd rfl h
      · rfl
  · rfl
theorem readL_err {b : List UInt8} : 0 ≤ (readL b).2 ∧ (readL b).2 ≤ 4 := by
  have k : ∀ (p : Pg) (n : Int), 0 ≤ n → n ≤ 4 → 0 ≤ (p, n).2 ∧ (p, n).2 ≤ 4 := fun p n h1 h2 => ⟨h1, h2⟩
  unfold readL; split
  · exact k _ _ (by omega) (by omega)
  · split
    · exact k _ _ (by omega) (by omega)
    · split
      · split <;> exact k _ _ (by omega) (by omega)
      · exact k _ _ (by omega) (by omega)
theorem readR_err {b : List UInt8} : 0 ≤ (readR b).2 ∧ (readR b).2 ≤ 6 := by
  have k : ∀ (p : Ro) (n : Int), 0 ≤ n → n ≤ 6 → 0 ≤ (p, n).2 ∧ (p, n).2 ≤ 6 := fun p n h1 h2 => ⟨h1, h2⟩
  have h := readL_err (b := b)
  unfold readR; split
  · split
    · exact k _ _ (by omega) (by omega)
    · split <;> exact k _ _ (by omega) (by omega)
  · exact k _ _ h.1 (by omega)
theorem root_gen {b : List UInt8} (h : (readR b).2 = 0) : allB b 255 = false := by
  cases ha : allB b 255 with
  | false => rfl
  | true =>
    exfalso
    cases hs : sizedB b.length with
    | false =>
      have e : readL b = (zeroP, 3) := by unfold readL; rw [hs]; rfl
      unfold readR at h
      rw [e, if_neg (by show ¬ (3 : Int) = 0; omega)] at h
      exact absurd h (by show ¬ (3 : Int) = 0; omega)
    | true =>
      have e : readL b = (zeroP, 0) := by unfold readL; rw [hs, ha]; rfl
      unfold readR at h
      rw [e, if_pos rfl, if_pos (show (zeroP.kind = 0) from rfl)] at h
      exact absurd h (by show ¬ (6 : Int) = 0; omega)

/-- A root stands there. -/
def At (l : List (List UInt8)) (i : Nat) (r : Ro) : Prop := ∃ b, l[i]? = some b ∧ readR b = (r, 0)
/-- Of the first n the newest one. -/
def Best (l : List (List UInt8)) (n i : Nat) (r : Ro) : Prop := i < n ∧ At l i r ∧ ∀ j s, j < n → At l j s → s.gen ≤ r.gen ∧ (i < j → s.gen < r.gen)
def NoneIn (l : List (List UInt8)) (n : Nat) : Prop := ∀ j s, j < n → ¬ At l j s
theorem new_is (l : List (List UInt8)) : ∀ n, (∃ i r, newN l n = ⟨i, r, 0⟩ ∧ Best l n i r) ∨ (newN l n = ⟨0, zeroR, lackE l⟩ ∧ NoneIn l n)
  | 0 => .inr ⟨rfl, fun j s h => absurd h (Nat.not_lt_zero _)⟩
  | n + 1 => by
    have ih := new_is l n
    unfold newN
    cases hb : l[n]? with
    | none =>
      have hno : ∀ s, ¬ At l n s := fun s ⟨b, h, _⟩ => by rw [hb] at h; cases h
      rcases ih with ⟨i, r, e, h1, h2, h3⟩ | ⟨e, h⟩
      · refine .inl ⟨i, r, e, by omega, h2, fun j s hj hs => ?_⟩
        by_cases hjn : j = n
        · subst hjn; exact absurd hs (hno s)
        · exact h3 j s (by omega) hs
      · refine .inr ⟨e, fun j s hj hs => ?_⟩
        by_cases hjn : j = n
        · subst hjn; exact hno s hs
        · exact h j s (by omega) hs
    | some b =>
      show (∃ i r, stepN (newN l n) n b = ⟨i, r, 0⟩ ∧ Best l (n + 1) i r) ∨ (stepN (newN l n) n b = ⟨0, zeroR, lackE l⟩ ∧ NoneIn l (n + 1))
      by_cases h0 : (readR b).2 = 0
      · have hat : At l n (readR b).1 := ⟨b, hb, by rw [← h0]⟩
        have huni : ∀ s, At l n s → s = (readR b).1 := fun s ⟨b', h, h'⟩ => by rw [hb] at h; cases h; rw [h']
        by_cases hg : (newN l n).root.gen ≤ (readR b).1.gen
        · have e : stepN (newN l n) n b = ⟨n, (readR b).1, 0⟩ := by unfold stepN; rw [if_pos ⟨h0, hg⟩]
          refine .inl ⟨n, _, e, by omega, hat, fun j s hj hs => ?_⟩
          by_cases hjn : j = n
          · subst hjn; rw [huni s hs]; exact ⟨Nat.le_refl _, fun h => by omega⟩
          · rcases ih with ⟨i, r, e, h1, h2, h3⟩ | ⟨e, h⟩
            · rw [e] at hg
              have := (h3 j s (by omega) hs).1
              exact ⟨Nat.le_trans this hg, fun h => by omega⟩
            · exact absurd hs (h j s (by omega))
        · have e : stepN (newN l n) n b = newN l n := by unfold stepN; rw [if_neg (fun h => hg h.2)]
          rcases ih with ⟨i, r, e1, h1, h2, h3⟩ | ⟨e1, h⟩
          · refine .inl ⟨i, r, by rw [e, e1], by omega, h2, fun j s hj hs => ?_⟩
            by_cases hjn : j = n
            · subst hjn
              rw [huni s hs]
              rw [e1] at hg
              have : (readR b).1.gen < r.gen := by simpa using hg
              exact ⟨by omega, fun _ => this⟩
            · exact h3 j s (by omega) hs
          · rw [e1] at hg
            exact absurd (Nat.zero_le _) hg
      · have e : stepN (newN l n) n b = newN l n := by unfold stepN; rw [if_neg (fun h => h0 h.1)]
        have hno : ∀ s, ¬ At l n s := fun s ⟨b', h, h'⟩ => by rw [hb] at h; cases h; rw [h'] at h0; exact h0 rfl
        rcases ih with ⟨i, r, e1, h1, h2, h3⟩ | ⟨e1, h⟩
        · refine .inl ⟨i, r, by rw [e, e1], by omega, h2, fun j s hj hs => ?_⟩
          by_cases hjn : j = n
          · subst hjn; exact absurd hs (hno s)
          · exact h3 j s (by omega) hs
        · refine .inr ⟨by rw [e, e1], fun j s hj hs => ?_⟩
          by_cases hjn : j = n
          · subst hjn; exact hno s hs
          · exact h j s (by omega) hs
theorem newL_is (l : List (List UInt8)) : (∃ i r, newL l = ⟨i, r, 0⟩ ∧ Best l l.length i r) ∨ (newL l = ⟨0, zeroR, lackE l⟩ ∧ NoneIn l l.length) := new_is l l.length
theorem lack_not (l : List (List UInt8)) : lackE l ≠ 0 := by unfold lackE; split <;> decide
theorem At.lt {l : List (List UInt8)} {i : Nat} {r : Ro} (h : At l i r) : i < l.length := by
  obtain ⟨b, h, -⟩ := h
  exact (List.getElem?_eq_some_iff.1 h).1
theorem At.one {l : List (List UInt8)} {i : Nat} {r s : Ro} (h : At l i r) (h' : At l i s) : r = s := by
  obtain ⟨b, h1, h2⟩ := h
  obtain ⟨b', h3, h4⟩ := h'
  rw [h1] at h3; cases h3
  rw [h2] at h4; exact (Prod.mk.inj h4).1
theorem Best.one {l : List (List UInt8)} {n i j : Nat} {r s : Ro} (h : Best l n i r) (h' : Best l n j s) : i = j ∧ r = s := by
  obtain ⟨h1, h2, h3⟩ := h
  obtain ⟨g1, g2, g3⟩ := h'
  have a := h3 j s g1 g2
  have b := g3 i r h1 h2
  have hij : i = j := by
    rcases Nat.lt_trichotomy i j with h | h | h
    · have := a.2 h; omega
    · exact h
    · have := b.2 h; omega
  subst hij
  exact ⟨rfl, h2.one g2⟩
theorem newL_best {l : List (List UInt8)} {i : Nat} {r : Ro} (h : Best l l.length i r) : newL l = ⟨i, r, 0⟩ := by
  rcases newL_is l with ⟨j, s, e, hb⟩ | ⟨e, hn⟩
  · obtain ⟨rfl, rfl⟩ := h.one hb
    exact e
  · exact absurd h.2.1 (hn i r h.1)
theorem newL_none {l : List (List UInt8)} (h : NoneIn l l.length) : newL l = ⟨0, zeroR, lackE l⟩ := by
  rcases newL_is l with ⟨j, s, e, hb⟩ | ⟨e, hn⟩
  · exact absurd hb.2.1 (h j s hb.1)
  · exact e
theorem at_app {l : List (List UInt8)} {b : List UInt8} {i : Nat} {r : Ro} : At (l ++ [b]) i r ↔ At l i r ∨ (i = l.length ∧ readR b = (r, 0)) := by
  unfold At
  constructor
  · rintro ⟨c, h1, h2⟩
    by_cases hi : i < l.length
    · rw [List.getElem?_append_left hi] at h1
      exact .inl ⟨c, h1, h2⟩
    · have hlt := (List.getElem?_eq_some_iff.1 h1).1
      rw [List.length_append, List.length_singleton] at hlt
      have hi2 : i = l.length := by omega
      subst hi2
      rw [List.getElem?_append_right (Nat.le_refl _), Nat.sub_self] at h1
      cases h1
      exact .inr ⟨rfl, h2⟩
  · rintro (⟨c, h1, h2⟩ | ⟨rfl, h2⟩)
    · exact ⟨c, by rw [List.getElem?_append_left (List.getElem?_eq_some_iff.1 h1).1]; exact h1, h2⟩
    · exact ⟨b, by rw [List.getElem?_append_right (Nat.le_refl _), Nat.sub_self]; rfl, h2⟩
theorem at_cons {l : List (List UInt8)} {b : List UInt8} {i : Nat} {r : Ro} : At (b :: l) i r ↔ (i = 0 ∧ readR b = (r, 0)) ∨ (∃ j, i = j + 1 ∧ At l j r) := by
  unfold At
  cases i with
  | zero =>
    constructor
    · rintro ⟨c, h1, h2⟩
      cases h1
      exact .inl ⟨rfl, h2⟩
    · rintro (⟨-, h⟩ | ⟨j, h, -⟩)
      · exact ⟨b, rfl, h⟩
      · cases h
  | succ i =>
    constructor
    · rintro ⟨c, h1, h2⟩
      exact .inr ⟨i, rfl, c, h1, h2⟩
    · rintro (⟨h, -⟩ | ⟨j, h, c, h1, h2⟩)
      · cases h
      · cases h
        exact ⟨c, h1, h2⟩
theorem app_length (l : List (List UInt8)) (b : List UInt8) : (l ++ [b]).length = l.length + 1 := by simp
/-- Put behind others. -/
theorem new_behind {l : List (List UInt8)} {b : List UInt8} {r : Ro} (hb : readR b = (r, 0)) :
    newL (l ++ [b]) = if (newL l).err ≠ 0 ∨ (newL l).root.gen ≤ r.gen then ⟨l.length, r, 0⟩ else ⟨(newL l).pos, (newL l).root, 0⟩ := by
  rcases newL_is l with ⟨i, s, e, h1, h2, h3⟩ | ⟨e, hn⟩
  · rw [e]
    show _ = if (0 : Int) ≠ 0 ∨ s.gen ≤ r.gen then (⟨l.length, r, 0⟩ : Nw) else ⟨i, s, 0⟩
    by_cases hg : s.gen ≤ r.gen
    · rw [if_pos (.inr hg)]
      refine newL_best ⟨by rw [app_length]; omega, at_app.2 (.inr ⟨rfl, hb⟩), fun j t hj ht => ?_⟩
      rcases at_app.1 ht with hu | ⟨rfl, hu⟩
      · have := (h3 j t hu.lt hu).1
        exact ⟨by omega, fun h => by have := hu.lt; omega⟩
      · rw [hb] at hu
        cases hu
        exact ⟨Nat.le_refl _, fun h => by omega⟩
    · rw [if_neg (by rintro (h | h); exact h rfl; exact hg h)]
      refine newL_best ⟨by rw [app_length]; omega, at_app.2 (.inl h2), fun j t hj ht => ?_⟩
      rcases at_app.1 ht with hu | ⟨rfl, hu⟩
      · exact h3 j t hu.lt hu
      · rw [hb] at hu
        cases hu
        exact ⟨by omega, fun _ => by omega⟩
  · rw [e]
    rw [if_pos (.inl (lack_not l))]
    refine newL_best ⟨by rw [app_length]; omega, at_app.2 (.inr ⟨rfl, hb⟩), fun j t hj ht => ?_⟩
    rcases at_app.1 ht with hu | ⟨rfl, hu⟩
    · exact absurd hu (hn j t hu.lt)
    · rw [hb] at hu
      cases hu
      exact ⟨Nat.le_refl _, fun h => by omega⟩
/-- Put ahead of them. -/
theorem new_ahead {l : List (List UInt8)} {b : List UInt8} {r : Ro} (hb : readR b = (r, 0)) :
    newL (b :: l) = if (newL l).err ≠ 0 ∨ (newL l).root.gen < r.gen then ⟨0, r, 0⟩ else ⟨(newL l).pos + 1, (newL l).root, 0⟩ := by
  rcases newL_is l with ⟨i, s, e, h1, h2, h3⟩ | ⟨e, hn⟩
  · rw [e]
    show _ = if (0 : Int) ≠ 0 ∨ s.gen < r.gen then (⟨0, r, 0⟩ : Nw) else ⟨i + 1, s, 0⟩
    by_cases hg : s.gen < r.gen
    · rw [if_pos (.inr hg)]
      refine newL_best ⟨by simp, at_cons.2 (.inl ⟨rfl, hb⟩), fun j t hj ht => ?_⟩
      rcases at_cons.1 ht with ⟨rfl, hu⟩ | ⟨k, rfl, hu⟩
      · rw [hb] at hu
        cases hu
        exact ⟨Nat.le_refl _, fun h => by omega⟩
      · have := (h3 k t hu.lt hu).1
        exact ⟨by omega, fun _ => by omega⟩
    · rw [if_neg (by rintro (h | h); exact h rfl; exact hg h)]
      refine newL_best ⟨by simp; omega, at_cons.2 (.inr ⟨i, rfl, h2⟩), fun j t hj ht => ?_⟩
      rcases at_cons.1 ht with ⟨rfl, hu⟩ | ⟨k, rfl, hu⟩
      · rw [hb] at hu
        cases hu
        exact ⟨by omega, fun h => by omega⟩
      · have := h3 k t hu.lt hu
        exact ⟨this.1, fun h => this.2 (by omega)⟩
  · rw [e]
    rw [if_pos (.inl (lack_not l))]
    refine newL_best ⟨by simp, at_cons.2 (.inl ⟨rfl, hb⟩), fun j t hj ht => ?_⟩
    rcases at_cons.1 ht with ⟨rfl, hu⟩ | ⟨k, rfl, hu⟩
    · rw [hb] at hu
      cases hu
      exact ⟨Nat.le_refl _, fun h => by omega⟩
    · exact absurd hu (hn k t hu.lt)
/-- One more that is torn. -/
theorem new_torn {l : List (List UInt8)} {b : List UInt8} (hb : (readR b).2 ≠ 0) (ha : allB b 255 = false) :
    newL (l ++ [b]) = if (newL l).err = 0 then newL l else ⟨(newL l).pos, (newL l).root, 2⟩ := by
  rcases newL_is l with ⟨i, s, e, h1, h2, h3⟩ | ⟨e, hn⟩
  · rw [e, if_pos rfl]
    refine newL_best ⟨by rw [app_length]; omega, at_app.2 (.inl h2), fun j t hj ht => ?_⟩
    rcases at_app.1 ht with hu | ⟨rfl, hu⟩
    · exact h3 j t hu.lt hu
    · rw [hu] at hb; exact absurd rfl hb
  · rw [e, if_neg (lack_not l)]
    have h2 : lackE (l ++ [b]) = 2 := by
      unfold lackE
      rw [List.all_append, List.all_cons, ha, if_neg (by simp)]
    rw [newL_none (l := l ++ [b]) (fun j t hj ht => ?_), h2]
    rcases at_app.1 ht with hu | ⟨rfl, hu⟩
    · exact hn j t hu.lt hu
    · rw [hu] at hb; exact absurd rfl hb
theorem lack_two (l : List (List UInt8)) : lackE l = 6 ∨ lackE l = 2 := by unfold lackE; split; exact .inl rfl; exact .inr rfl
theorem new_err (l : List (List UInt8)) : (newL l).err = 0 ∨ ((newL l).pos = 0 ∧ (newL l).root = zeroR ∧ ((newL l).err = 6 ∨ (newL l).err = 2)) := by
  rcases newL_is l with ⟨i, s, e, -⟩ | ⟨e, -⟩
  · rw [e]; exact .inl rfl
  · rw [e]; exact .inr ⟨rfl, rfl, lack_two l⟩
theorem new_at {l : List (List UInt8)} (h : (newL l).err = 0) : At l (newL l).pos (newL l).root ∧ ∀ j s, At l j s → s.gen ≤ (newL l).root.gen ∧ ((newL l).pos < j → s.gen < (newL l).root.gen) := by
  rcases newL_is l with ⟨i, s, e, h1, h2, h3⟩ | ⟨e, -⟩
  · rw [e]; exact ⟨h2, fun j s hs => h3 j s hs.lt hs⟩
  · rw [e] at h; exact absurd h (lack_not l)
theorem new_no {l : List (List UInt8)} (h : (newL l).err ≠ 0) : ∀ j s, ¬ At l j s := by
  rcases newL_is l with ⟨i, s, e, -⟩ | ⟨e, hn⟩
  · rw [e] at h; exact absurd rfl h
  · exact fun j s hs => hn j s hs.lt hs
end Go.Proofs.Ytjlmkhomedoolaa.Root
