/- Texts as lists of bytes: numbers in tens, pieces between a sign, keys, prefixes and routes as text, and read. Nothing of the program is named. -/
import Derived.Test.YtpjojbiiceedjaaDoorPure
import Derived.Lib.ItoaNum
import Derived.Lib.SplitLaws
import Derived.Lib.IndexMore
namespace Go.Proofs.YtpjojbiiceedjaaDoor.Rr
open Go.Lib

/-! ### Numbers -/

def dv (c : UInt8) : Nat := c.toNat - 48
def isDigit (c : UInt8) : Bool := decide (48 ≤ c.toNat) && decide (c.toNat ≤ 57)

/-- Digits that go on behind a number, up to a limit. -/
def rnum (lim : Nat) : Nat → List UInt8 → Option Nat
  | n, [] => some n
  | n, c :: cs => if isDigit c = true ∧ 10 * n + dv c ≤ lim then rnum lim (10 * n + dv c) cs else none

def readNum (lim : Nat) (s : List UInt8) : Option Nat := if s = [] ∨ (s.head? = some 48 ∧ s ≠ [48]) then none else rnum lim 0 s

theorem rnum_append (lim : Nat) : ∀ (a b : List UInt8) (n : Nat), rnum lim n (a ++ b) = (rnum lim n a).bind fun m => rnum lim m b
  | [], b, n => rfl
  | c :: a, b, n => by
    simp only [List.cons_append, rnum]
    split
    · exact rnum_append lim a b _
    · rfl

theorem rnum_le (lim : Nat) : ∀ (s : List UInt8) (n m : Nat), rnum lim n s = some m → n ≤ lim → m ≤ lim
  | [], n, m, h, hn => by simp only [rnum, Option.some.injEq] at h; omega
  | c :: s, n, m, h, hn => by
    simp only [rnum] at h
    split at h
    · rename_i hc; exact rnum_le lim s _ m h hc.2
    · cases h

theorem dec_small {n : Nat} (h : n < 10) : decDigits n = [UInt8.ofNat (48 + n)] := decDigits_one h
theorem dec_big {n : Nat} (h : ¬ n < 10) : decDigits n = decDigits (n / 10) ++ [UInt8.ofNat (48 + n % 10)] := by rw [decDigits, dif_neg h]

theorem digit_byte (d : Nat) (h : d < 10) : isDigit (UInt8.ofNat (48 + d)) = true ∧ dv (UInt8.ofNat (48 + d)) = d := by
  have e : (UInt8.ofNat (48 + d)).toNat = 48 + d := by rw [UInt8.toNat_ofNat']; omega
  unfold isDigit dv
  rw [e]
  simp
  omega

theorem byte_digit (c : UInt8) (h : isDigit c = true) : dv c < 10 ∧ c = UInt8.ofNat (48 + dv c) := by
  unfold isDigit at h
  simp only [Bool.and_eq_true, decide_eq_true_eq] at h
  unfold dv
  refine ⟨by omega, ?_⟩
  apply UInt8.toNat_inj.1
  rw [UInt8.toNat_ofNat']
  omega

theorem dec_ne (n : Nat) : decDigits n ≠ [] := by
  by_cases h : n < 10
  · rw [dec_small h]; simp
  · rw [dec_big h]; simp

theorem dec_head : ∀ (k n : Nat), n ≤ k → (decDigits n).head? = some (48 : UInt8) → n = 0
  | 0, n, h, _ => by omega
  | k + 1, n, h, hh => by
    by_cases hn : n < 10
    · rw [dec_small hn] at hh
      simp only [List.head?_cons, Option.some.injEq] at hh
      have := congrArg UInt8.toNat hh
      rw [UInt8.toNat_ofNat'] at this
      simp at this
      omega
    · rw [dec_big hn] at hh
      have h1 : (decDigits (n / 10) ++ [UInt8.ofNat (48 + n % 10)]).head? = (decDigits (n / 10)).head? := by
        cases e : decDigits (n / 10) with
        | nil => exact absurd e (dec_ne _)
        | cons x r => rfl
      rw [h1] at hh
      have := dec_head k (n / 10) (by omega) hh
      omega

theorem rnum_dec (lim : Nat) : ∀ (k n : Nat), n ≤ k → rnum lim 0 (decDigits n) = if n ≤ lim then some n else none
  | 0, n, h => by
    obtain rfl : n = 0 := by omega
    rw [dec_small (by decide)]
    obtain ⟨h1, h2⟩ := digit_byte 0 (by decide)
    simp only [rnum, h1, h2]
    simp
  | k + 1, n, h => by
    by_cases hn : n < 10
    · obtain ⟨h1, h2⟩ := digit_byte n hn
      rw [dec_small hn]
      simp only [rnum, h1, h2]
      simp
    · obtain ⟨h1, h2⟩ := digit_byte (n % 10) (by omega)
      rw [dec_big hn, rnum_append, rnum_dec lim k (n / 10) (by omega)]
      by_cases hl : n / 10 ≤ lim
      · rw [if_pos hl]
        simp only [Option.bind_some, rnum, h1, h2, true_and]
        rw [show 10 * (n / 10) + n % 10 = n by omega]
      · rw [if_neg hl, if_neg (by omega)]; rfl

theorem readNum_dec (lim n : Nat) : readNum lim (decDigits n) = if n ≤ lim then some n else none := by
  unfold readNum
  rw [if_neg ?_, rnum_dec lim n n (Nat.le_refl _)]
  rintro (h | ⟨h1, h2⟩)
  · exact dec_ne n h
  · obtain rfl := dec_head n n (Nat.le_refl _) h1
    exact h2 (by rw [dec_small (by decide)]; rfl)

theorem rnum_is_dec (lim : Nat) : ∀ (k : Nat) (s : List UInt8) (n : Nat), s.length ≤ k → s ≠ [] → (s.head? = some 48 → s = [48]) → rnum lim 0 s = some n → s = decDigits n
  | 0, s, n, hk, hs, _, _ => absurd (List.length_eq_zero_iff.1 (by omega)) hs
  | k + 1, s, n, hk, hs, hh, hr => by
    obtain ⟨t, c, rfl⟩ : ∃ t c, s = t ++ [c] := ⟨s.dropLast, s.getLast hs, (List.dropLast_concat_getLast hs).symm⟩
    rw [rnum_append] at hr
    cases hm : rnum lim 0 t with
    | none => rw [hm] at hr; cases hr
    | some m =>
      rw [hm] at hr
      simp only [Option.bind_some, rnum] at hr
      split at hr
      · rename_i hc
        obtain ⟨d1, d2⟩ := byte_digit c hc.1
        simp only [Option.some.injEq] at hr
        by_cases ht : t = []
        · subst ht
          simp only [rnum, Option.some.injEq] at hm
          subst hm
          have : n = dv c := by omega
          subst this
          rw [dec_small d1, ← d2]; rfl
        · have hh2 : t.head? ≠ some 48 := fun e => by
            have h3 : (t ++ [c]).head? = t.head? := by cases t with
              | nil => exact absurd rfl ht
              | cons x r => rfl
            have := hh (by rw [h3]; exact e)
            have := congrArg List.length this
            cases t with
            | nil => exact ht rfl
            | cons x r => simp at this
          have ih := rnum_is_dec lim k t m (by simp at hk; omega) ht (fun e => absurd e hh2) hm
          have hm0 : m ≠ 0 := fun e => by
            subst e
            rw [ih, dec_small (by decide)] at hh2
            exact hh2 rfl
          rw [← hr, dec_big (by omega), show (10 * m + dv c) / 10 = m by omega, show (10 * m + dv c) % 10 = dv c by omega, ← d2, ← ih]
      · cases hr

theorem readNum_is {lim : Nat} {s : List UInt8} {n : Nat} (h : readNum lim s = some n) : s = decDigits n ∧ n ≤ lim := by
  unfold readNum at h
  split at h
  · cases h
  · rename_i hn
    simp only [not_or, not_and, ne_eq, Decidable.not_not] at hn
    exact ⟨rnum_is_dec lim s.length s n (Nat.le_refl _) hn.1 hn.2 h, rnum_le lim s 0 n h (Nat.zero_le _)⟩

theorem readNum_iff {lim : Nat} {s : List UInt8} {n : Nat} : readNum lim s = some n ↔ s = decDigits n ∧ n ≤ lim :=
  ⟨readNum_is, fun ⟨h1, h2⟩ => by rw [h1, readNum_dec, if_pos h2]⟩

theorem dec_digits : ∀ (k n : Nat), n ≤ k → ∀ c ∈ decDigits n, isDigit c = true
  | 0, n, h, c, hc => by
    obtain rfl : n = 0 := by omega
    rw [dec_small (by decide)] at hc
    simp only [List.mem_singleton] at hc
    rw [hc]; exact (digit_byte 0 (by decide)).1
  | k + 1, n, h, c, hc => by
    by_cases hn : n < 10
    · rw [dec_small hn] at hc
      simp only [List.mem_singleton] at hc
      rw [hc]; exact (digit_byte n hn).1
    · rw [dec_big hn] at hc
      simp only [List.mem_append, List.mem_singleton] at hc
      rcases hc with hc | hc
      · exact dec_digits k (n / 10) (by omega) c hc
      · rw [hc]; exact (digit_byte _ (by omega)).1

theorem dec_not {n : Nat} {c : UInt8} (h : isDigit c = false) : c ∉ decDigits n := fun hc => by
  have := dec_digits n n (Nat.le_refl _) c hc
  rw [h] at this; cases this

theorem dec_length {n k : Nat} (h : n < 10 ^ (k + 1)) : (decDigits n).length ≤ k + 1 := by
  rw [decDigits_length]
  induction k generalizing n with
  | zero => rw [nDigits_small (by simpa using h)]; omega
  | succ k ih =>
    by_cases hn : n < 10
    · rw [nDigits_small hn]; omega
    · rw [nDigits_big hn]
      have := ih (n := n / 10) (by rw [Nat.pow_succ] at h; omega)
      omega

/-! ### Pieces between a sign -/

def pieces (c : UInt8) : List UInt8 → List (List UInt8)
  | [] => [[]]
  | b :: l => if b = c then [] :: pieces c l else match pieces c l with
    | [] => [[b]]
    | p :: r => (b :: p) :: r

theorem pieces_ne (c : UInt8) : ∀ s : List UInt8, pieces c s ≠ []
  | [] => by simp [pieces]
  | b :: l => by
    unfold pieces
    split
    · simp
    · split <;> simp

theorem pieces_cons_ne {c b : UInt8} {l : List UInt8} (h : b ≠ c) : ∃ p r, pieces c l = p :: r ∧ pieces c (b :: l) = (b :: p) :: r := by
  cases e : pieces c l with
  | nil => exact absurd e (pieces_ne c l)
  | cons p r => exact ⟨p, r, rfl, by simp [pieces, h, e]⟩

theorem pieces_none {c : UInt8} : ∀ {s : List UInt8}, c ∉ s → pieces c s = [s]
  | [], _ => rfl
  | b :: l, h => by
    have hb : b ≠ c := fun e => h (by simp [e])
    obtain ⟨p, r, h1, h2⟩ := pieces_cons_ne (l := l) hb
    rw [pieces_none (s := l) fun hc => h (by simp [hc])] at h1
    simp only [List.cons.injEq] at h1
    rw [h2, ← h1.1, ← h1.2]

theorem pieces_at {c : UInt8} : ∀ {a : List UInt8} (b : List UInt8), c ∉ a → pieces c (a ++ c :: b) = a :: pieces c b
  | [], b, _ => by simp [pieces]
  | x :: a, b, h => by
    have hx : x ≠ c := fun e => h (by simp [e])
    obtain ⟨p, r, h1, h2⟩ := pieces_cons_ne (l := a ++ c :: b) hx
    rw [pieces_at b fun hc => h (by simp [hc])] at h1
    simp only [List.cons.injEq] at h1
    rw [List.cons_append, h2, ← h1.1, ← h1.2]

/-- Ahead of the first sign, and behind it. -/
def ahead (c : UInt8) (s : List UInt8) : List UInt8 := s.takeWhile (· != c)
def behind (c : UInt8) (s : List UInt8) : List UInt8 := (s.dropWhile (· != c)).drop 1

theorem ahead_none {c : UInt8} {s : List UInt8} (h : c ∉ s) : ahead c s = s ∧ behind c s = [] := by
  induction s with
  | nil => exact ⟨rfl, rfl⟩
  | cons b l ih =>
    have hb : (b != c) = true := by simpa using fun e : b = c => h (by simp [e])
    obtain ⟨h1, h2⟩ := ih fun hc => h (by simp [hc])
    unfold ahead behind at *
    rw [List.takeWhile_cons, List.dropWhile_cons, hb]
    exact ⟨by simp [h1], by simpa using h2⟩

theorem ahead_at {c : UInt8} {a : List UInt8} (b : List UInt8) (h : c ∉ a) : ahead c (a ++ c :: b) = a ∧ behind c (a ++ c :: b) = b := by
  induction a with
  | nil => unfold ahead behind; simp
  | cons x l ih =>
    have hb : (x != c) = true := by simpa using fun e : x = c => h (by simp [e])
    obtain ⟨h1, h2⟩ := ih fun hc => h (by simp [hc])
    unfold ahead behind at *
    rw [List.cons_append, List.takeWhile_cons, List.dropWhile_cons, hb]
    exact ⟨by simp [h1], by simpa using h2⟩

theorem split_first {c : UInt8} {s : List UInt8} (h : c ∈ s) : s = ahead c s ++ c :: behind c s ∧ c ∉ ahead c s := by
  induction s with
  | nil => cases h
  | cons b l ih =>
    by_cases e : b = c
    · subst e; unfold ahead behind; simp
    · have hb : (b != c) = true := by simpa using e
      obtain ⟨h1, h2⟩ := ih (by simpa [Ne.symm e] using h)
      have e1 : ahead c (b :: l) = b :: ahead c l := by unfold ahead; rw [List.takeWhile_cons, hb]; rfl
      have e2 : behind c (b :: l) = behind c l := by unfold behind; rw [List.dropWhile_cons, hb]; rfl
      rw [e1, e2]
      exact ⟨by rw [List.cons_append, ← h1], by simp [h2, Ne.symm e]⟩

theorem ahead_le (c : UInt8) (s : List UInt8) : (ahead c s).length ≤ s.length ∧ (behind c s).length ≤ s.length := by
  by_cases h : c ∈ s
  · have := congrArg List.length (split_first h).1
    simp at this
    omega
  · obtain ⟨h1, h2⟩ := ahead_none h
    rw [h1, h2]; simp

theorem index_ne (b c : UInt8) (l : List UInt8) (h : b ≠ c) : index (b :: l) [c] = if index l [c] == -1 then -1 else index l [c] + 1 := by
  have hp : ([c] : List UInt8).isPrefixOf (b :: l) = false := by simp [List.isPrefixOf, Ne.symm h]
  rw [index, hp]; simp
theorem index_eq (c : UInt8) (l : List UInt8) : index (c :: l) [c] = 0 := by rw [index]; simp [List.isPrefixOf]

/-- Where a sign stands first. -/
theorem index_ahead (c : UInt8) : ∀ s : List UInt8, index s [c] = if c ∈ s then ((ahead c s).length : Int) else -1
  | [] => by simp [index]
  | b :: l => by
    by_cases e : b = c
    · subst e; rw [index_eq]; simp [ahead]
    · have hb : (b != c) = true := by simpa using e
      rw [index_ne b c l e, index_ahead c l]
      have e1 : ahead c (b :: l) = b :: ahead c l := by unfold ahead; rw [List.takeWhile_cons, hb]; rfl
      by_cases hm : c ∈ l
      · have hm2 : c ∈ b :: l := List.mem_cons_of_mem _ hm
        rw [if_pos hm, if_pos hm2, e1, if_neg (by rw [beq_iff_eq]; omega)]
        simp
      · have hm2 : c ∉ b :: l := by simp [hm, Ne.symm e]
        rw [if_neg hm, if_neg hm2, if_pos (by rfl)]

theorem contains_is (c : UInt8) (s : List UInt8) : contains s [c] = decide (c ∈ s) := by
  unfold contains
  rw [index_ahead]
  by_cases h : c ∈ s
  · simp [h]
  · simp [h]

theorem take_ahead {c : UInt8} {s : List UInt8} (h : c ∈ s) : s.take (ahead c s).length = ahead c s ∧ s.drop ((ahead c s).length + 1) = behind c s := by
  obtain ⟨h1, _⟩ := split_first h
  generalize ahead c s = a at *
  generalize behind c s = b at *
  subst h1
  constructor
  · simp
  · rw [List.drop_append]; simp

theorem cut_is (c : UInt8) (s : List UInt8) : Lib.cut s [c] = (ahead c s, behind c s, decide (c ∈ s)) := by
  unfold Lib.cut
  rw [index_ahead]
  by_cases h : c ∈ s
  · obtain ⟨h1, h2⟩ := take_ahead h
    rw [if_pos h, if_pos (by omega)]
    simp [h1, h2, h]
  · obtain ⟨h1, h2⟩ := ahead_none h
    simp [h, h1, h2]

theorem splitK_pieces (c : UInt8) : ∀ s : List UInt8, splitK [c] 0 (count s [c]) s = pieces c s
  | [] => by simp [count_miss (show index [] [c] = -1 by simp [index]), splitK, pieces]
  | b :: l => by
    have ih := splitK_pieces c l
    by_cases e : b = c
    · subst e
      rw [count_cons_eq, Nat.add_comm, splitK, index_eq]
      simp [pieces, ih]
    · obtain ⟨p, r, h1, h2⟩ := pieces_cons_ne (l := l) e
      rw [count_cons_ne b c l e, h2]
      rw [h1] at ih
      cases hk : count l [c] with
      | zero =>
        rw [hk] at ih
        simp only [splitK, List.cons.injEq] at ih
        simp [splitK, ih.1, ← ih.2]
      | succ k =>
        rw [hk] at ih
        have hix : index l [c] ≠ -1 := fun h => by rw [count_miss h] at hk; cases hk
        have hge := index_ge l [c]
        obtain ⟨j, hj⟩ : ∃ j : Nat, index l [c] = j := ⟨(index l [c]).toNat, by omega⟩
        have hb1 : (((j : Nat) : Int) == -1) = false := by rw [beq_eq_false_iff_ne]; omega
        have hb2 : ((((j : Nat) : Int) + 1) == -1) = false := by rw [beq_eq_false_iff_ne]; omega
        rw [splitK, hj, hb1] at ih
        rw [splitK, index_ne b c l e, hj, hb1]
        simp only [Bool.false_eq_true, if_false, Nat.add_zero, Int.toNat_natCast, List.cons.injEq, List.length_singleton] at ih ⊢
        rw [hb2]
        simp only [Bool.false_eq_true, if_false, List.cons.injEq]
        rw [show (((j : Nat) : Int) + 1).toNat = j + 1 by omega]
        exact ⟨by rw [List.take_succ_cons, ih.1], by rw [List.drop_succ_cons, ih.2]⟩

theorem pieces_length (c : UInt8) : ∀ s : List UInt8, (pieces c s).length = s.count c + 1
  | [] => rfl
  | b :: l => by
    by_cases e : b = c
    · subst e; simp [pieces, pieces_length b l]
    · obtain ⟨p, r, h1, h2⟩ := pieces_cons_ne (l := l) e
      have := pieces_length c l
      rw [h1] at this
      rw [h2, List.count_cons_of_ne (by simpa using e), ← this]; rfl

theorem pieces_le (c : UInt8) : ∀ (s p : List UInt8), p ∈ pieces c s → p.length ≤ s.length
  | [], p, h => by simp [pieces] at h; simp [h]
  | b :: l, p, h => by
    by_cases e : b = c
    · subst e
      simp only [pieces, if_true, List.mem_cons] at h
      rcases h with h | h
      · simp [h]
      · have := pieces_le b l p h; simp; omega
    · obtain ⟨q, r, h1, h2⟩ := pieces_cons_ne (l := l) e
      rw [h2] at h
      simp only [List.mem_cons] at h
      rcases h with h | h
      · have := pieces_le c l q (by rw [h1]; simp)
        rw [h]; simp; omega
      · have := pieces_le c l p (by rw [h1]; simp [h])
        simp; omega

theorem pieces_one {c : UInt8} {s p : List UInt8} (h : pieces c s = [p]) : c ∉ s ∧ s = p := by
  have h1 := pieces_length c s
  rw [h] at h1
  have hc : c ∉ s := by rw [← List.count_eq_zero]; simpa using h1.symm
  rw [pieces_none hc] at h
  simp only [List.cons.injEq, and_true] at h
  exact ⟨hc, h⟩

theorem pieces_more {c : UInt8} {s p q : List UInt8} {r : List (List UInt8)} (h : pieces c s = p :: q :: r) : c ∈ s ∧ p = ahead c s ∧ q :: r = pieces c (behind c s) := by
  have hc : c ∈ s := by
    by_cases hc : c ∈ s
    · exact hc
    · rw [pieces_none hc] at h; simp at h
  obtain ⟨h1, h2⟩ := split_first hc
  have h3 := pieces_at (behind c s) h2
  rw [← h1, h] at h3
  simp only [List.cons.injEq] at h3
  exact ⟨hc, h3.1, h3.2⟩

end Go.Proofs.YtpjojbiiceedjaaDoor.Rr
