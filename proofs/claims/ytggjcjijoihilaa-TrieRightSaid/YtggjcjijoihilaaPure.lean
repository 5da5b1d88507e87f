/- Plain facts on keys of sixteen bytes: bits, cuts, bits in common, numbers. Nothing of the program is named. Plain laws on what covers, fits, and is ahead of what. Nothing of the program is named. -/
namespace Go.Proofs.Ytggjcjijoihilaa

/-- Bit n of a key, the highest bit of its first byte first. -/
def bt (k : Nat → Nat) (n : Nat) : Nat := k (n / 8) / 2 ^ (7 - n % 8) % 2

def Bytes16 (k : Nat → Nat) : Prop := ∀ i, k i < 256

def bitZ (k : Nat → Nat) (n : Int) : Int := if 0 ≤ n ∧ n < 128 then (bt k n.toNat : Int) else 0

theorem bt_lt (k : Nat → Nat) (n : Nat) : bt k n < 2 := Nat.mod_lt _ (by decide)

/-- Byte i of a key that is cut behind its first n bits. -/
def cutB (k : Nat → Nat) (n i : Nat) : Nat := if 8 * i + 8 ≤ n then k i else if n ≤ 8 * i then 0 else k i / 2 ^ (8 * i + 8 - n) * 2 ^ (8 * i + 8 - n)

theorem cutB_le (k : Nat → Nat) (n i : Nat) : cutB k n i ≤ k i := by
  unfold cutB; split
  · exact Nat.le_refl _
  · split
    · exact Nat.zero_le _
    · exact Nat.div_mul_le_self _ _

theorem cutB_bytes {k : Nat → Nat} (h : Bytes16 k) (n : Nat) : Bytes16 (cutB k n) := fun i => Nat.lt_of_le_of_lt (cutB_le k n i) (h i)

theorem byte_cut (x m : Nat) (hm : m ≤ 8) (j : Nat) (hj : j < 8) : x / 2 ^ m * 2 ^ m / 2 ^ (7 - j) % 2 = if j < 8 - m then x / 2 ^ (7 - j) % 2 else 0 := by
  have h1 : m = 0 ∨ m = 1 ∨ m = 2 ∨ m = 3 ∨ m = 4 ∨ m = 5 ∨ m = 6 ∨ m = 7 ∨ m = 8 := by omega
  have h2 : j = 0 ∨ j = 1 ∨ j = 2 ∨ j = 3 ∨ j = 4 ∨ j = 5 ∨ j = 6 ∨ j = 7 := by omega
  rcases h1 with rfl | rfl | rfl | rfl | rfl | rfl | rfl | rfl | rfl <;> rcases h2 with rfl | rfl | rfl | rfl | rfl | rfl | rfl | rfl <;> simp <;> omega

theorem bt_cut (k : Nat → Nat) (n j : Nat) : bt (cutB k n) j = if j < n then bt k j else 0 := by
  unfold bt cutB
  by_cases h1 : 8 * (j / 8) + 8 ≤ n
  · rw [if_pos h1, if_pos (by omega)]
  · rw [if_neg h1]
    by_cases h2 : n ≤ 8 * (j / 8)
    · rw [if_pos h2, if_neg (by omega)]; simp
    · rw [if_neg h2, byte_cut _ _ (by omega) _ (by omega)]
      by_cases h3 : j < n
      · rw [if_pos h3, if_pos (by omega)]
      · rw [if_neg h3, if_neg (by omega)]

/-- Bytes are the same if their eight bits are. -/
theorem byte_ext (x y : Nat) (hx : x < 256) (hy : y < 256) (h : ∀ j, j < 8 → x / 2 ^ (7 - j) % 2 = y / 2 ^ (7 - j) % 2) : x = y := by
  have h0 := h 0 (by decide); have h1 := h 1 (by decide); have h2 := h 2 (by decide); have h3 := h 3 (by decide)
  have h4 := h 4 (by decide); have h5 := h 5 (by decide); have h6 := h 6 (by decide); have h7 := h 7 (by decide)
  simp at h0 h1 h2 h3 h4 h5 h6 h7
  omega

theorem key_ext {a b : Nat → Nat} (ha : Bytes16 a) (hb : Bytes16 b) : (∀ i, i < 16 → a i = b i) ↔ ∀ j, j < 128 → bt a j = bt b j := by
  constructor
  · intro h j hj
    unfold bt; rw [h (j / 8) (by omega)]
  · intro h i hi
    refine byte_ext _ _ (ha i) (hb i) fun j hj => ?_
    have := h (8 * i + j) (by omega)
    unfold bt at this
    rwa [show (8 * i + j) / 8 = i by omega, show (8 * i + j) % 8 = j by omega] at this

/-- Two keys are the same, as a truth. -/
def keyEq (a b : Nat → Nat) : Bool := (List.range 16).all fun i => a i == b i

theorem keyEq_iff {a b : Nat → Nat} : keyEq a b = true ↔ ∀ i, i < 16 → a i = b i := by simp [keyEq]

theorem keyEq_bits {a b : Nat → Nat} (ha : Bytes16 a) (hb : Bytes16 b) : keyEq a b = true ↔ ∀ j, j < 128 → bt a j = bt b j := keyEq_iff.trans (key_ext ha hb)

/-- No bit is set behind the first n. -/
def endsB (k : Nat → Nat) (n : Nat) : Bool := keyEq (cutB k n) k

theorem endsB_iff {k : Nat → Nat} (hk : Bytes16 k) (n : Nat) : endsB k n = true ↔ ∀ j, n ≤ j → j < 128 → bt k j = 0 := by
  unfold endsB
  rw [keyEq_bits (cutB_bytes hk n) hk]
  constructor
  · intro h j h1 h2
    have := h j h2
    rw [bt_cut, if_neg (by omega)] at this
    exact this.symm
  · intro h j hj
    rw [bt_cut]
    by_cases h1 : j < n
    · rw [if_pos h1]
    · rw [if_neg h1, h j (by omega) hj]

/-- How many of the first bits are the same, from bit n on, with so many to go. -/
def comFrom (a b : Nat → Nat) : Nat → Nat → Nat
  | 0, n => n
  | f + 1, n => if bt a n = bt b n then comFrom a b f (n + 1) else n

def com (a b : Nat → Nat) : Nat := comFrom a b 128 0

theorem comFrom_spec (a b : Nat → Nat) : ∀ (f n : Nat), n ≤ comFrom a b f n ∧ comFrom a b f n ≤ n + f ∧ (∀ j, n ≤ j → j < comFrom a b f n → bt a j = bt b j) ∧ (comFrom a b f n < n + f → bt a (comFrom a b f n) ≠ bt b (comFrom a b f n))
  | 0, n => ⟨Nat.le_refl _, Nat.le_refl _, fun j h1 h2 => absurd (Nat.lt_of_le_of_lt h1 h2) (Nat.lt_irrefl _), fun h => absurd h (Nat.lt_irrefl _)⟩
  | f + 1, n => by
    unfold comFrom
    by_cases h : bt a n = bt b n
    · rw [if_pos h]
      obtain ⟨h1, h2, h3, h4⟩ := comFrom_spec a b f (n + 1)
      refine ⟨by omega, by omega, fun j hj1 hj2 => ?_, fun h5 => h4 (by omega)⟩
      by_cases e : j = n
      · rw [e, h]
      · exact h3 j (by omega) hj2
    · rw [if_neg h]
      exact ⟨Nat.le_refl _, by omega, fun j h1 h2 => absurd (Nat.lt_of_le_of_lt h1 h2) (Nat.lt_irrefl _), fun _ => h⟩

structure IsCom (a b : Nat → Nat) (c : Nat) : Prop where
  le : c ≤ 128
  same : ∀ j, j < c → bt a j = bt b j
  part : c < 128 → bt a c ≠ bt b c

theorem com_is (a b : Nat → Nat) : IsCom a b (com a b) := by
  obtain ⟨_, h2, h3, h4⟩ := comFrom_spec a b 128 0
  exact ⟨by unfold com; omega, fun j hj => h3 j (Nat.zero_le _) hj, fun h => h4 (by unfold com at h; omega)⟩

theorem IsCom.eq {a b : Nat → Nat} {c : Nat} (h : IsCom a b c) : com a b = c := by
  have k := com_is a b
  rcases Nat.lt_trichotomy (com a b) c with h1 | h1 | h1
  · exact absurd (h.same _ h1) (k.part (by have := h.le; omega))
  · exact h1
  · exact absurd (k.same _ h1) (h.part (by have := k.le; omega))

theorem com_ge {a b : Nat → Nat} {n : Nat} (hn : n ≤ 128) : n ≤ com a b ↔ ∀ j, j < n → bt a j = bt b j := by
  have k := com_is a b
  constructor
  · intro h j hj; exact k.same j (by omega)
  · intro h
    by_cases h1 : n ≤ com a b
    · exact h1
    · exact absurd (h _ (by omega)) (k.part (by omega))

theorem com_128 {a b : Nat → Nat} (ha : Bytes16 a) (hb : Bytes16 b) : com a b = 128 ↔ ∀ i, i < 16 → a i = b i := by
  rw [key_ext ha hb, ← com_ge (Nat.le_refl 128)]
  have := (com_is a b).le
  omega

/-- Steps. -/
def stepZ (k : Nat → Nat) (n : Int) : Int := if 0 ≤ n ∧ n < 32 then ((if n.toNat % 2 = 0 then k (n.toNat / 2) / 16 else k (n.toNat / 2) % 16 : Nat) : Int) else 0

theorem step_bits {k : Nat → Nat} (hk : Bytes16 k) (n : Nat) (_hn : n < 32) :
    (if n % 2 = 0 then k (n / 2) / 16 else k (n / 2) % 16) = 8 * bt k (4 * n) + 4 * bt k (4 * n + 1) + 2 * bt k (4 * n + 2) + bt k (4 * n + 3) := by
  unfold bt
  have h := hk (n / 2)
  by_cases e : n % 2 = 0
  · rw [if_pos e, show (4 * n) / 8 = n / 2 by omega, show (4 * n + 1) / 8 = n / 2 by omega, show (4 * n + 2) / 8 = n / 2 by omega, show (4 * n + 3) / 8 = n / 2 by omega,
      show (4 * n) % 8 = 0 by omega, show (4 * n + 1) % 8 = 1 by omega, show (4 * n + 2) % 8 = 2 by omega, show (4 * n + 3) % 8 = 3 by omega]
    simp; omega
  · rw [if_neg e, show (4 * n) / 8 = n / 2 by omega, show (4 * n + 1) / 8 = n / 2 by omega, show (4 * n + 2) / 8 = n / 2 by omega, show (4 * n + 3) / 8 = n / 2 by omega,
      show (4 * n) % 8 = 4 by omega, show (4 * n + 1) % 8 = 5 by omega, show (4 * n + 2) % 8 = 6 by omega, show (4 * n + 3) % 8 = 7 by omega]
    simp; omega

/-- Bytes in order, as their first bit that parts. -/
theorem byte_lt (x y : Nat) (hx : x < 256) (hy : y < 256) (c : Nat) (hc : c < 8) (hs : ∀ j, j < c → x / 2 ^ (7 - j) % 2 = y / 2 ^ (7 - j) % 2) (h0 : x / 2 ^ (7 - c) % 2 = 0) (h1 : y / 2 ^ (7 - c) % 2 = 1) : x < y := by
  have h2 : c = 0 ∨ c = 1 ∨ c = 2 ∨ c = 3 ∨ c = 4 ∨ c = 5 ∨ c = 6 ∨ c = 7 := by omega
  have s0 := hs 0; have s1 := hs 1; have s2 := hs 2; have s3 := hs 3; have s4 := hs 4; have s5 := hs 5; have s6 := hs 6
  clear hs
  rcases h2 with rfl | rfl | rfl | rfl | rfl | rfl | rfl | rfl <;> simp at s0 s1 s2 s3 s4 s5 s6 h0 h1 <;> omega

/-- A key as a number, of its first n bytes. -/
def numTo (k : Nat → Nat) : Nat → Nat
  | 0 => 0
  | n + 1 => numTo k n * 256 + k n

def num (k : Nat → Nat) : Nat := numTo k 16

theorem numTo_same {a b : Nat → Nat} : ∀ (n : Nat), (∀ i, i < n → a i = b i) → numTo a n = numTo b n
  | 0, _ => rfl
  | n + 1, h => by simp only [numTo]; rw [numTo_same n fun i hi => h i (by omega), h n (by omega)]

theorem numTo_lt {a b : Nat → Nat} (ha : Bytes16 a) : ∀ (n c : Nat), c < n → (∀ i, i < c → a i = b i) → a c < b c → numTo a n < numTo b n
  | 0, _, hc, _, _ => absurd hc (Nat.not_lt_zero _)
  | n + 1, c, hc, hs, hl => by
    simp only [numTo]
    by_cases e : c = n
    · subst e
      rw [numTo_same c hs]; omega
    · have := numTo_lt ha n c (by omega) hs hl
      have := ha n
      omega

/-- Two keys in order, by the first byte that parts. -/
theorem num_lt {a b : Nat → Nat} (ha : Bytes16 a) (c : Nat) (hc : c < 16) (hs : ∀ i, i < c → a i = b i) (hl : a c < b c) : num a < num b := numTo_lt ha 16 c hc hs hl

theorem num_same {a b : Nat → Nat} (h : ∀ i, i < 16 → a i = b i) : num a = num b := numTo_same 16 h

theorem first_byte {a b : Nat → Nat} : (∀ i, i < 16 → a i = b i) ∨ ∃ c, c < 16 ∧ (∀ i, i < c → a i = b i) ∧ a c ≠ b c := by
  have go : ∀ n, (∀ i, i < n → a i = b i) ∨ ∃ c, c < n ∧ (∀ i, i < c → a i = b i) ∧ a c ≠ b c := by
    intro n
    induction n with
    | zero => exact .inl fun i hi => absurd hi (Nat.not_lt_zero _)
    | succ n ih =>
      rcases ih with h | ⟨c, h1, h2, h3⟩
      · by_cases e : a n = b n
        · refine .inl fun i hi => ?_
          by_cases e2 : i = n
          · rw [e2, e]
          · exact h i (by omega)
        · exact .inr ⟨n, by omega, h, e⟩
      · exact .inr ⟨c, by omega, h2, h3⟩
  exact go 16

theorem num_eq {a b : Nat → Nat} (ha : Bytes16 a) (hb : Bytes16 b) : num a = num b ↔ ∀ i, i < 16 → a i = b i := by
  constructor
  · intro h
    rcases first_byte (a := a) (b := b) with h1 | ⟨c, h1, h2, h3⟩
    · exact h1
    · rcases Nat.lt_or_gt_of_ne h3 with h4 | h4
      · have := num_lt ha c h1 h2 h4; omega
      · have := num_lt hb c h1 (fun i hi => (h2 i hi).symm) h4; omega
  · exact num_same

/-- In order by the first bit that parts. -/
theorem num_lt_bit {a b : Nat → Nat} (ha : Bytes16 a) (hb : Bytes16 b) (c : Nat) (hc : c < 128) (hs : ∀ j, j < c → bt a j = bt b j) (h0 : bt a c = 0) (h1 : bt b c = 1) : num a < num b := by
  refine num_lt ha (c / 8) (by omega) (fun i hi => ?_) ?_
  · refine byte_ext _ _ (ha i) (hb i) fun j hj => ?_
    have := hs (8 * i + j) (by omega)
    unfold bt at this
    rwa [show (8 * i + j) / 8 = i by omega, show (8 * i + j) % 8 = j by omega] at this
  · refine byte_lt _ _ (ha _) (hb _) (c % 8) (by omega) (fun j hj => ?_) h0 h1
    have := hs (8 * (c / 8) + j) (by omega)
    unfold bt at this
    rwa [show (8 * (c / 8) + j) / 8 = c / 8 by omega, show (8 * (c / 8) + j) % 8 = j by omega] at this

theorem num_com {a b : Nat → Nat} (ha : Bytes16 a) (hb : Bytes16 b) : (com a b = 128 ∧ num a = num b) ∨ (com a b < 128 ∧ ((bt a (com a b) = 0 ∧ bt b (com a b) = 1 ∧ num a < num b) ∨ (bt a (com a b) = 1 ∧ bt b (com a b) = 0 ∧ num b < num a))) := by
  have k := com_is a b
  by_cases h : com a b = 128
  · exact .inl ⟨h, num_same ((com_128 ha hb).1 h)⟩
  · have hl : com a b < 128 := by have := k.le; omega
    refine .inr ⟨hl, ?_⟩
    have hp := k.part hl
    have h1 := bt_lt a (com a b)
    have h2 := bt_lt b (com a b)
    by_cases e : bt a (com a b) = 0
    · exact .inl ⟨e, by omega, num_lt_bit ha hb _ hl k.same e (by omega)⟩
    · exact .inr ⟨by omega, by omega, num_lt_bit hb ha _ hl (fun j hj => (k.same j hj).symm) (by omega) (by omega)⟩

/-- A prefix: its bits, its length, its key. -/
structure Pre where
  bits : Int
  len : Int
  key : Nat → Nat

def mayB (p : Pre) : Bool := (p.bits == 32 || p.bits == 128) && decide (0 ≤ p.len) && decide (p.len ≤ p.bits) && endsB p.key p.len.toNat
def fitsB (p : Pre) (k : Nat → Nat) : Bool := mayB p && endsB k p.bits.toNat && decide (p.len ≤ (com p.key k : Int))
def coversB (p q : Pre) : Bool := mayB q && p.bits == q.bits && decide (p.len ≤ q.len) && fitsB p q.key
def lessB (p q : Pre) : Bool := mayB p && mayB q && (if p.bits = q.bits then (if num p.key = num q.key then decide (p.len < q.len) else decide (num p.key < num q.key)) else decide (p.bits < q.bits))
def preEq (p q : Pre) : Bool := p.bits == q.bits && p.len == q.len && keyEq p.key q.key

theorem mayB_iff (p : Pre) (hk : Bytes16 p.key) : mayB p = true ↔ (p.bits = 32 ∨ p.bits = 128) ∧ 0 ≤ p.len ∧ p.len ≤ p.bits ∧ ∀ j : Nat, p.len ≤ (j : Int) → j < 128 → bt p.key j = 0 := by
  unfold mayB
  simp only [Bool.and_eq_true, Bool.or_eq_true, beq_iff_eq, decide_eq_true_eq, endsB_iff hk]
  constructor
  · rintro ⟨⟨⟨h1, h2⟩, h3⟩, h4⟩; exact ⟨h1, h2, h3, fun j h5 h6 => h4 j (by omega) h6⟩
  · rintro ⟨h1, h2, h3, h4⟩; exact ⟨⟨⟨h1, h2⟩, h3⟩, fun j h5 h6 => h4 j (by omega) h6⟩

theorem fitsB_iff (p : Pre) (k : Nat → Nat) (hk : Bytes16 k) : fitsB p k = true ↔ mayB p = true ∧ (∀ j : Nat, p.bits ≤ (j : Int) → j < 128 → bt k j = 0) ∧ ∀ j : Nat, (j : Int) < p.len → bt p.key j = bt k j := by
  unfold fitsB
  simp only [Bool.and_eq_true, decide_eq_true_eq, endsB_iff hk]
  constructor
  · rintro ⟨⟨h1, h2⟩, h3⟩
    exact ⟨h1, fun j h5 h6 => h2 j (by omega) h6, fun j h5 => (com_is p.key k).same j (by omega)⟩
  · rintro ⟨h1, h2, h3⟩
    have hm := h1
    unfold mayB at hm
    simp only [Bool.and_eq_true, Bool.or_eq_true, beq_iff_eq, decide_eq_true_eq] at hm
    obtain ⟨⟨⟨hb, hl⟩, hlb⟩, _⟩ := hm
    refine ⟨⟨h1, fun j h5 h6 => h2 j (by omega) h6⟩, ?_⟩
    have := (com_ge (a := p.key) (b := k) (n := p.len.toNat) (by omega)).2 fun j hj => h3 j (by omega)
    omega

end Go.Proofs.Ytggjcjijoihilaa
namespace Go.Proofs.Ytggjcjijoihilaa

theorem ahead_iff {p q : Pre} (mp : mayB p = true) (mq : mayB q = true) : lessB p q = true ↔ p.bits < q.bits ∨ (p.bits = q.bits ∧ (num p.key < num q.key ∨ (num p.key = num q.key ∧ p.len < q.len))) := by
  unfold lessB
  rw [mp, mq]
  by_cases e1 : p.bits = q.bits
  · by_cases e2 : num p.key = num q.key
    · simp [e1, e2]
    · simp [e1, e2]
  · simp [e1]

theorem covers_iff (p q : Pre) : coversB p q = true ↔ mayB q = true ∧ p.bits = q.bits ∧ p.len ≤ q.len ∧ fitsB p q.key = true := by
  unfold coversB
  simp only [Bool.and_eq_true, beq_iff_eq, decide_eq_true_eq, and_assoc]

theorem fits_may {p : Pre} {k : Nat → Nat} (h : fitsB p k = true) : mayB p = true := by
  unfold fitsB at h
  simp only [Bool.and_eq_true] at h
  exact h.1.1

theorem fits_not {p : Pre} {k : Nat → Nat} (h : mayB p = false) : fitsB p k = false := by
  cases e : fitsB p k with
  | false => rfl
  | true => rw [fits_may e] at h; exact absurd h (by simp)

theorem covers_not_left {p q : Pre} (h : mayB p = false) : coversB p q = false := by
  unfold coversB; rw [fits_not h]; simp

theorem covers_not_right {p q : Pre} (h : mayB q = false) : coversB p q = false := by
  unfold coversB; rw [h]; simp

theorem less_not_left {p q : Pre} (h : mayB p = false) : lessB p q = false := by
  unfold lessB; rw [h]; simp

theorem less_not_right {p q : Pre} (h : mayB q = false) : lessB p q = false := by
  unfold lessB; rw [h]; simp

theorem may_len {p : Pre} (h : mayB p = true) (hk : Bytes16 p.key) : 0 ≤ p.len ∧ p.len ≤ p.bits ∧ p.bits ≤ 128 ∧ ∀ j : Nat, p.len ≤ (j : Int) → j < 128 → bt p.key j = 0 := by
  obtain ⟨h1, h2, h3, h4⟩ := (mayB_iff p hk).1 h
  exact ⟨h2, h3, by omega, h4⟩

theorem covers_shorter {p q : Pre} {k : Nat → Nat} (hq : Bytes16 q.key) (hk : Bytes16 k) (f1 : fitsB p k = true) (f2 : fitsB q k = true) (hb : p.bits = q.bits) (hl : p.len ≤ q.len) : coversB p q = true := by
  obtain ⟨m1, _, s1⟩ := (fitsB_iff p k hk).1 f1
  obtain ⟨m2, _, s2⟩ := (fitsB_iff q k hk).1 f2
  obtain ⟨l1, l2, l3, l4⟩ := may_len m2 hq
  rw [covers_iff, fitsB_iff p q.key hq]
  exact ⟨m2, hb, hl, m1, fun j h1 h2 => l4 j (by omega) h2, fun j h1 => by rw [s1 j h1, s2 j (by omega)]⟩

theorem covers_one {p q : Pre} {k : Nat → Nat} (hp : Bytes16 p.key) (hq : Bytes16 q.key) (hk : Bytes16 k) (f1 : fitsB p k = true) (f2 : fitsB q k = true) (hb : p.bits = q.bits) (h : coversB p q = false) : coversB q p = true := by
  by_cases hl : p.len ≤ q.len
  · rw [covers_shorter hq hk f1 f2 hb hl] at h; exact absurd h (by simp)
  · exact covers_shorter hp hk f2 f1 hb.symm (by omega)

theorem covers_ahead {p q : Pre} (hp : Bytes16 p.key) (hq : Bytes16 q.key) (h : coversB p q = true) : lessB q p = false := by
  obtain ⟨m2, hb, hl, f⟩ := (covers_iff p q).1 h
  obtain ⟨m1, _, s⟩ := (fitsB_iff p q.key hq).1 f
  obtain ⟨l1, l2, l3, l4⟩ := may_len m1 hp
  cases e : lessB q p with
  | false => rfl
  | true =>
    rw [ahead_iff m2 m1] at e
    exfalso
    have hc := num_com hp hq
    have hcom := com_is p.key q.key
    rcases hc with ⟨_, hn⟩ | ⟨hlt, ⟨_, _, hn⟩ | ⟨h1, _, _⟩⟩
    · omega
    · omega
    · by_cases hj : ((com p.key q.key : Nat) : Int) < p.len
      · exact hcom.part hlt (s _ hj)
      · have := l4 _ (by omega) hlt; omega

theorem covers_fits {p q : Pre} {k : Nat → Nat} (hq : Bytes16 q.key) (hk : Bytes16 k) (h : coversB p q = true) (f2 : fitsB q k = true) : fitsB p k = true := by
  obtain ⟨_, hb, hl, f⟩ := (covers_iff p q).1 h
  obtain ⟨m1, _, s1⟩ := (fitsB_iff p q.key hq).1 f
  obtain ⟨_, z2, s2⟩ := (fitsB_iff q k hk).1 f2
  rw [fitsB_iff p k hk]
  exact ⟨m1, fun j h1 h2 => z2 j (by omega) h2, fun j h1 => by rw [s1 j h1, s2 j (by omega)]⟩

theorem covers_same {p q : Pre} (hp : Bytes16 p.key) (hq : Bytes16 q.key) (h : coversB p q = true) (e : preEq p q = false) : coversB q p = false := by
  cases h2 : coversB q p with
  | false => rfl
  | true =>
    obtain ⟨m2, hb, hl, f⟩ := (covers_iff p q).1 h
    obtain ⟨m1, _, hl2, _⟩ := (covers_iff q p).1 h2
    obtain ⟨_, _, s⟩ := (fitsB_iff p q.key hq).1 f
    have a1 := may_len m1 hp
    have a2 := may_len m2 hq
    have hk : keyEq p.key q.key = true := by
      rw [keyEq_bits hp hq]
      intro j hj
      by_cases h5 : (j : Int) < p.len
      · exact s j h5
      · rw [a1.2.2.2 j (by omega) hj, a2.2.2.2 j (by omega) hj]
    unfold preEq at e
    rw [hk] at e
    simp [hb] at e
    omega

end Go.Proofs.Ytggjcjijoihilaa
