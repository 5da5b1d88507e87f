/- The document's page, as plain numbers and lists: which may be, its bytes, which page bytes are; that it is read as it was, that what is read was put so, and that turned bits are found. -/
import Derived.Test.YtjlmkhomedoolaaSumQ
namespace Go.Proofs.Ytjlmkhomedoolaa.Page

structure Pg where
  kind : Int
  id : Int
  gen : Nat
  body : List UInt8
def zeroP : Pg := ⟨0, 0, 0, []⟩
def sizedB (n : Int) : Bool := decide (24 ≤ n) && decide (n ≤ 256)
def roomI (n : Int) : Int := if sizedB n = true then n - 16 else 0
def kindB (k : Int) : Bool := k == 1 || k == 2
def idB (i : Int) : Bool := decide (0 ≤ i) && decide (i < 64)
def mayB (p : Pg) (n : Int) : Bool := sizedB n && (kindB p.kind && (idB p.id && (decide (p.gen < 281474976710656) && decide ((p.body.length : Int) ≤ roomI n))))
def allB (l : List UInt8) (x : UInt8) : Bool := l.all fun y => y == x
def headL (p : Pg) (n : Nat) : List UInt8 := [UInt8.ofNat p.kind.toNat, UInt8.ofNat p.id.toNat] ++ (putB p.gen 6 ++ (putB p.body.length 2 ++ (p.body ++ List.replicate (n - 14 - p.body.length) 0)))
def pagePut (p : Pg) (n : Nat) : List UInt8 := headL p n ++ sealB (headL p n)
def putR (p : Pg) (n : Int) : List UInt8 := if mayB p n = true then pagePut p n.toNat else []
def putE (p : Pg) (n : Int) : Int := if mayB p n = true then 0 else 1
def manyN (l : List UInt8) : Nat := getB ((l.drop 8).take 2)
def openedP (l : List UInt8) : Pg := ⟨((l.getD 0 0).toNat : Int), ((l.getD 1 0).toNat : Int), getB ((l.drop 2).take 6), (l.drop 10).take (manyN l)⟩
def goodB (l : List UInt8) (n : Nat) : Bool := decide (manyN l ≤ n - 16) && (mayB (openedP l) n && allB (l.drop (10 + manyN l)) 0)
def readL (b : List UInt8) : Pg × Int :=
  if sizedB b.length = false then (zeroP, 3) else if allB b 255 = true then (zeroP, 0)
  else if (openL b).2 = 0 then (if goodB (openL b).1 b.length = true then (openedP (openL b).1, 0) else (zeroP, 2)) else (zeroP, 4)

theorem sized_iff {n : Int} : sizedB n = true ↔ 24 ≤ n ∧ n ≤ 256 := by simp [sizedB]
theorem kind_iff {k : Int} : kindB k = true ↔ k = 1 ∨ k = 2 := by simp [kindB]
theorem id_iff {k : Int} : idB k = true ↔ 0 ≤ k ∧ k < 64 := by simp [idB]
theorem room_of {n : Int} (h : sizedB n = true) : roomI n = n - 16 := by unfold roomI; rw [if_pos h]
theorem may_iff {p : Pg} {n : Int} : mayB p n = true ↔ (24 ≤ n ∧ n ≤ 256) ∧ (p.kind = 1 ∨ p.kind = 2) ∧ (0 ≤ p.id ∧ p.id < 64) ∧ p.gen < 281474976710656 ∧ (p.body.length : Int) ≤ n - 16 := by
  unfold mayB
  cases hs : sizedB n with
  | true => rw [room_of hs]; simp [kind_iff, id_iff, sized_iff.1 hs]
  | false =>
    have : ¬ (24 ≤ n ∧ n ≤ 256) := fun h => by rw [sized_iff.2 h] at hs; cases hs
    simp [this]
theorem all_iff {l : List UInt8} {x : UInt8} : allB l x = true ↔ ∀ y ∈ l, y = x := by simp [allB]
theorem all_rep {l : List UInt8} {x : UInt8} (h : allB l x = true) : l = List.replicate l.length x := List.eq_replicate_iff.2 ⟨rfl, all_iff.1 h⟩
theorem all_not {l : List UInt8} {x y : UInt8} (h : y ∈ l) (hne : y ≠ x) : allB l x = false := by
  cases hc : allB l x with
  | false => rfl
  | true => exact absurd (all_iff.1 hc y h) hne

theorem head_length {p : Pg} {n : Nat} (h : mayB p n = true) : (headL p n).length = n - 4 := by
  have := may_iff.1 h
  unfold headL
  simp only [List.length_append, putB_length, List.length_replicate, List.length_cons, List.length_nil]
  omega
theorem put_length {p : Pg} {n : Nat} (h : mayB p n = true) : (pagePut p n).length = n := by
  have h1 := head_length h
  have := may_iff.1 h
  unfold pagePut
  rw [List.length_append, sealB_length, h1]
  omega
theorem drop_past {a b : List UInt8} {k : Nat} (h : a.length = k) : (a ++ b).drop k = b := by
  subst h; exact List.drop_left
theorem take_past {a b : List UInt8} {k : Nat} (h : a.length = k) : (a ++ b).take k = a := by
  subst h; exact List.take_left
theorem head_parts (p : Pg) (n : Nat) : ∃ t, headL p n = UInt8.ofNat p.kind.toNat :: UInt8.ofNat p.id.toNat :: t ∧ t = putB p.gen 6 ++ (putB p.body.length 2 ++ (p.body ++ List.replicate (n - 14 - p.body.length) 0)) := ⟨_, rfl, rfl⟩
theorem head_many {p : Pg} {n : Nat} (h : p.body.length < 65536) : manyN (headL p n) = p.body.length := by
  obtain ⟨t, h1, h2⟩ := head_parts p n
  unfold manyN
  rw [h1]
  show getB ((t.drop 6).take 2) = _
  rw [h2, drop_past (putB_length _ _), take_past (putB_length _ _), get_put _ (by decide)]
  exact Nat.mod_eq_of_lt h
theorem head_opened {p : Pg} {n : Nat} (h : mayB p n = true) : openedP (headL p n) = p := by
  obtain ⟨h1, h2, h3, h4, h5⟩ := may_iff.1 h
  have hm := head_many (p := p) (n := n) (by omega)
  unfold openedP
  rw [hm]
  obtain ⟨t, e1, e2⟩ := head_parts p n
  rw [e1]
  have hk : (((UInt8.ofNat p.kind.toNat).toNat : Nat) : Int) = p.kind := by rw [UInt8.toNat_ofNat']; omega
  have hi : (((UInt8.ofNat p.id.toNat).toNat : Nat) : Int) = p.id := by rw [UInt8.toNat_ofNat']; omega
  have hg : getB (t.take 6) = p.gen := by
    rw [e2, take_past (putB_length _ _), get_put _ (by decide)]
    exact Nat.mod_eq_of_lt (by have : (256 : Nat) ^ 6 = 281474976710656 := by decide
                               omega)
  have hb : (t.drop 8).take p.body.length = p.body := by
    rw [e2, ← List.append_assoc, drop_past (by rw [List.length_append, putB_length, putB_length]), take_past rfl]
  show Pg.mk _ _ (getB (t.take 6)) ((t.drop 8).take p.body.length) = p
  rw [hg, hb]
  show Pg.mk (((UInt8.ofNat p.kind.toNat).toNat : Nat) : Int) (((UInt8.ofNat p.id.toNat).toNat : Nat) : Int) _ _ = p
  rw [hk, hi]
theorem head_good {p : Pg} {n : Nat} (h : mayB p n = true) : goodB (headL p n) n = true := by
  obtain ⟨h1, h2, h3, h4, h5⟩ := may_iff.1 h
  have hm := head_many (p := p) (n := n) (by omega)
  unfold goodB
  rw [head_opened h, hm, h]
  have ht : (headL p n).drop (10 + p.body.length) = List.replicate (n - 14 - p.body.length) 0 := by
    obtain ⟨t, e1, e2⟩ := head_parts p n
    rw [e1, show 10 + p.body.length = 8 + p.body.length + 1 + 1 by omega]
    show t.drop (8 + p.body.length) = _
    rw [e2, ← List.append_assoc, ← List.append_assoc]
    exact drop_past (by simp only [List.length_append, putB_length])
  rw [ht]
  have : allB (List.replicate (n - 14 - p.body.length) 0) 0 = true := all_iff.2 fun y hy => (List.mem_replicate.1 hy).2
  rw [this]
  simp only [Bool.and_true, Bool.and_self, decide_eq_true_eq]
  omega
theorem kind_byte {p : Pg} {n : Nat} (h : mayB p n = true) : UInt8.ofNat p.kind.toNat = 1 ∨ UInt8.ofNat p.kind.toNat = 2 := by
  obtain ⟨h1, h2, h3, h4, h5⟩ := may_iff.1 h
  rcases h2 with h2 | h2 <;> rw [h2]
  · exact .inl rfl
  · exact .inr rfl
theorem put_zero {p : Pg} {n : Nat} : (pagePut p n)[0]? = some (UInt8.ofNat p.kind.toNat) := rfl
theorem put_blank {p : Pg} {n : Nat} (h : mayB p n = true) : allB (pagePut p n) 255 = false := by
  refine all_not (List.mem_of_getElem? (put_zero (p := p) (n := n))) ?_
  rcases kind_byte h with h | h <;> rw [h] <;> decide
theorem may_sized {p : Pg} {n : Nat} (h : mayB p n = true) : sizedB (n : Int) = true := sized_iff.2 (may_iff.1 h).1
/-- A page is read as it was. -/
theorem read_put {p : Pg} {n : Nat} (h : mayB p n = true) : readL (pagePut p n) = (p, 0) := by
  have e : openL (pagePut p n) = (headL p n, 0) := open_sealed _
  unfold readL
  rw [put_length h, may_sized h, put_blank h, e]
  simp [head_good h, head_opened h]

theorem open_of {b : List UInt8} (h : (openL b).2 = 0) : b = (openL b).1 ++ sealB (openL b).1 ∧ 4 ≤ b.length ∧ (openL b).1.length = b.length - 4 := by
  unfold openL at h ⊢
  by_cases h4 : b.length < 4
  · rw [if_pos h4] at h; exact absurd h (by decide)
  · rw [if_neg h4] at h ⊢
    by_cases hd : b.drop (b.length - 4) = sealB (b.take (b.length - 4))
    · rw [if_pos hd] at h ⊢
      refine ⟨?_, by omega, by simp⟩
      show b = b.take _ ++ sealB (b.take _)
      rw [← hd, List.take_append_drop]
    · rw [if_neg hd] at h; exact absurd h (by decide)
theorem opened_head {l : List UInt8} {n : Nat} (hl : l.length = n - 4) (hn : 24 ≤ n) (h : goodB l n = true) : headL (openedP l) n = l := by
  unfold goodB at h
  simp only [Bool.and_eq_true, decide_eq_true_eq] at h
  obtain ⟨hm, hmay, hz⟩ := h
  obtain ⟨h1, h2, h3, h4, h5⟩ := may_iff.1 hmay
  match l, hl with
  | [], hl => simp at hl; omega
  | [_], hl => simp at hl; omega
  | x :: y :: t, hl =>
    have ht : t.length = n - 6 := by simp at hl; omega
    have hm' : manyN (x :: y :: t) = getB ((t.drop 6).take 2) := rfl
    rw [hm'] at hm hz
    have hl2 : ((t.drop 6).take 2).length = 2 := by rw [List.length_take, List.length_drop]; omega
    have hl6 : (t.take 6).length = 6 := by rw [List.length_take]; omega
    have hbl : ((t.drop 8).take (getB ((t.drop 6).take 2))).length = getB ((t.drop 6).take 2) := by rw [List.length_take, List.length_drop]; omega
    have hzz : t.drop (8 + getB ((t.drop 6).take 2)) = List.replicate (n - 14 - getB ((t.drop 6).take 2)) 0 := by
      have e0 : (x :: y :: t).drop (10 + getB ((t.drop 6).take 2)) = t.drop (8 + getB ((t.drop 6).take 2)) := by
        rw [show 10 + getB ((t.drop 6).take 2) = 8 + getB ((t.drop 6).take 2) + 1 + 1 by omega]; rfl
      rw [e0] at hz
      have e1 := all_rep hz
      rw [List.length_drop] at e1
      rw [e1]
      congr 1
      omega
    have hg6 : putB (getB (t.take 6)) 6 = t.take 6 := by have := put_get (l := t.take 6) (by omega); rwa [hl6] at this
    have hg2 : putB (getB ((t.drop 6).take 2)) 2 = (t.drop 6).take 2 := by have := put_get (l := (t.drop 6).take 2) (by omega); rwa [hl2] at this
    have e : openedP (x :: y :: t) = ⟨(x.toNat : Int), (y.toNat : Int), getB (t.take 6), (t.drop 8).take (getB ((t.drop 6).take 2))⟩ := rfl
    rw [e]
    unfold headL
    show [UInt8.ofNat ((x.toNat : Int)).toNat, UInt8.ofNat ((y.toNat : Int)).toNat] ++ (putB (getB (t.take 6)) 6 ++ (putB ((t.drop 8).take (getB ((t.drop 6).take 2))).length 2 ++ ((t.drop 8).take (getB ((t.drop 6).take 2)) ++ List.replicate (n - 14 - ((t.drop 8).take (getB ((t.drop 6).take 2))).length) 0))) = _
    rw [hbl, hg6, hg2, ← hzz, ← List.drop_drop, List.take_append_drop, Int.toNat_natCast, Int.toNat_natCast, UInt8.ofNat_toNat, UInt8.ofNat_toNat]
    have e2 : (t.drop 6).take 2 ++ t.drop 8 = t.drop 6 := by
      rw [show t.drop 8 = (t.drop 6).drop 2 by rw [List.drop_drop], List.take_append_drop]
    rw [e2, List.take_append_drop]
    rfl
/-- What is read was put so. -/
theorem put_read {b : List UInt8} (hk : (readL b).1.kind ≠ 0) : mayB (readL b).1 (b.length : Int) = true ∧ pagePut (readL b).1 b.length = b := by
  unfold readL at hk ⊢
  by_cases hs : sizedB (b.length : Int) = false
  · rw [if_pos hs] at hk; exact absurd rfl hk
  · rw [if_neg hs] at hk ⊢
    have hs1 : sizedB (b.length : Int) = true := by simpa using hs
    have hsz := sized_iff.1 hs1
    by_cases ha : allB b 255 = true
    · rw [if_pos ha] at hk; exact absurd rfl hk
    · rw [if_neg ha] at hk ⊢
      by_cases ho : (openL b).2 = 0
      · rw [if_pos ho] at hk ⊢
        by_cases hg : goodB (openL b).1 b.length = true
        · rw [if_pos hg] at hk ⊢
          obtain ⟨h1, h2, h3⟩ := open_of ho
          have e := opened_head h3 (by omega) hg
          have hg' := hg
          unfold goodB at hg'
          simp only [Bool.and_eq_true, decide_eq_true_eq] at hg'
          refine ⟨hg'.2.1, ?_⟩
          show pagePut (openedP (openL b).1) b.length = b
          unfold pagePut
          rw [e]
          exact h1.symm
        · rw [if_neg hg] at hk; exact absurd rfl hk
      · rw [if_neg ho] at hk; exact absurd rfl hk
theorem read_none {b : List UInt8} (h : (readL b).2 ≠ 0 ∨ (readL b).1.kind = 0) : (readL b).1 = zeroP := by
  unfold readL at h ⊢
  split
  · rfl
  · rename_i h1
    rw [if_neg h1] at h
    split
    · rfl
    · rename_i h2
      rw [if_neg h2] at h
      split
      · rename_i h3
        rw [if_pos h3] at h
        split
        · rename_i h4
          rw [if_pos h4] at h
          rcases h with h | h
          · exact absurd rfl h
          · exfalso
            unfold goodB at h4
            simp only [Bool.and_eq_true, decide_eq_true_eq] at h4
            have := (may_iff.1 h4.2.1).2.1
            have h' : (openedP (openL b).1).kind = 0 := h
            omega
        · rfl
      · rfl
/-- Bytes that are not blank, whose sum isn't that. -/
theorem read_sum {b : List UInt8} (hs : sizedB (b.length : Int) = true) (ha : allB b 255 = false) (ho : openL b = ([], 4)) : readL b = (zeroP, 4) := by
  unfold readL
  rw [hs, ha, ho]
  simp
theorem flip_zero (l : List UInt8) (p : Nat) {x : UInt8} (h : l[0]? = some x) : ∃ y, (flipB l p)[0]? = some y ∧ (y = x ∨ ∃ j, j < 8 ∧ y = x ^^^ UInt8.ofNat (2 ^ j)) := by
  unfold flipB
  by_cases hp : p / 8 = 0
  · have hl : 0 < l.length := (List.getElem?_eq_some_iff.1 h).1
    rw [hp, List.getElem?_set_self hl, List.getD_eq_getElem?_getD, h]
    exact ⟨_, rfl, .inr ⟨p % 8, Nat.mod_lt _ (by decide), rfl⟩⟩
  · rw [List.getElem?_set_ne hp, h]
    exact ⟨_, rfl, .inl rfl⟩
theorem near1 : ∀ j, j < 8 → (1 : UInt8) ^^^ UInt8.ofNat (2 ^ j) ≠ 255 ∧ (2 : UInt8) ^^^ UInt8.ofNat (2 ^ j) ≠ 255 := by decide
theorem near2 : ∀ j, j < 8 → ∀ i, i < 8 → (1 : UInt8) ^^^ UInt8.ofNat (2 ^ j) ^^^ UInt8.ofNat (2 ^ i) ≠ 255 ∧ (2 : UInt8) ^^^ UInt8.ofNat (2 ^ j) ^^^ UInt8.ofNat (2 ^ i) ≠ 255 := by decide
theorem flip_blank {p : Pg} {n : Nat} (h : mayB p n = true) (i : Nat) : allB (flipB (pagePut p n) i) 255 = false := by
  obtain ⟨y, h1, h2⟩ := flip_zero (pagePut p n) i (put_zero (p := p) (n := n))
  refine all_not (List.mem_of_getElem? h1) ?_
  rcases h2 with rfl | ⟨j, hj, rfl⟩
  · rcases kind_byte h with h | h <;> rw [h] <;> decide
  · rcases kind_byte h with h | h <;> rw [h]
    · exact (near1 j hj).1
    · exact (near1 j hj).2
theorem flips_blank {p : Pg} {n : Nat} (h : mayB p n = true) (i k : Nat) : allB (flipB (flipB (pagePut p n) i) k) 255 = false := by
  obtain ⟨y, h1, h2⟩ := flip_zero (pagePut p n) i (put_zero (p := p) (n := n))
  obtain ⟨z, h3, h4⟩ := flip_zero (flipB (pagePut p n) i) k h1
  refine all_not (List.mem_of_getElem? h3) ?_
  have hk := kind_byte h
  generalize UInt8.ofNat p.kind.toNat = x at *
  rcases h2 with rfl | ⟨j, hj, rfl⟩
  · rcases h4 with rfl | ⟨j, hj, rfl⟩
    · rcases hk with rfl | rfl <;> decide
    · rcases hk with rfl | rfl
      · exact (near1 j hj).1
      · exact (near1 j hj).2
  · rcases h4 with rfl | ⟨m, hm, rfl⟩
    · rcases hk with rfl | rfl
      · exact (near1 j hj).1
      · exact (near1 j hj).2
    · rcases hk with rfl | rfl
      · exact (near2 j hj m hm).1
      · exact (near2 j hj m hm).2
theorem read_flip {p : Pg} {n : Nat} (h : mayB p n = true) {i : Nat} (hi : i < 8 * n) : readL (flipB (pagePut p n) i) = (zeroP, 4) := by
  have hl := head_length h
  have hs := sized_iff.1 (may_sized h)
  refine read_sum (by rw [flipB_length, put_length h]; exact may_sized h) (flip_blank h i) ?_
  exact open_flip (by rw [hl]; omega)
theorem read_flips {p : Pg} {n : Nat} (h : mayB p n = true) {i k : Nat} (hi : i < 8 * n) (hk : k < 8 * n) (hne : i ≠ k) : readL (flipB (flipB (pagePut p n) i) k) = (zeroP, 4) := by
  have hl := head_length h
  have hs := sized_iff.1 (may_sized h)
  refine read_sum (by rw [flipB_length, flipB_length, put_length h]; exact may_sized h) (flips_blank h i k) ?_
  exact open_two (by rw [hl]; omega) (by rw [hl]; omega) (by rw [hl]; omega) hne
theorem put_inj {p o : Pg} {n : Nat} (hp : mayB p n = true) (ho : mayB o n = true) (e : pagePut p n = pagePut o n) : p = o := by
  have h1 := read_put hp
  rw [e, read_put ho] at h1
  exact (Prod.mk.inj h1).1.symm
theorem read_blank {n : Nat} (h : sizedB (n : Int) = true) : readL (List.replicate n 255) = (zeroP, 0) := by
  have ha : allB (List.replicate n 255) 255 = true := all_iff.2 fun y hy => (List.mem_replicate.1 hy).2
  unfold readL
  rw [List.length_replicate, h, ha]
  simp

/-- How many bits a byte has. -/
def popF : Nat → Nat → Nat
  | 0, _ => 0
  | n + 1, x => x % 2 + popF n (x / 2)
def pop (x : Nat) : Nat := popF 8 x
theorem pop_step : ∀ x : Nat, x < 256 → pop x = x % 2 + pop (x / 2) := by decide +kernel
theorem pop_le : ∀ x : Nat, x < 256 → pop x ≤ 8 := by decide +kernel
theorem pop_zero : ∀ x : Nat, x < 256 → pop (255 - x) = 0 → x = 255 := by decide +kernel
theorem pop_one : ∀ x : Nat, x < 256 → pop (255 - x) = 1 → ∃ j : Fin 8, x ^^^ 2 ^ j.val = 255 := by decide +kernel
theorem pop_two : ∀ x : Nat, x < 256 → pop (255 - x) = 2 → ∃ j : Fin 8, ∃ i : Fin 8, j ≠ i ∧ x ^^^ 2 ^ j.val ^^^ 2 ^ i.val = 255 := by decide +kernel
theorem flip_set {l : List UInt8} {k j : Nat} (hj : j < 8) : flipB l (8 * k + j) = l.set k (l.getD k 0 ^^^ UInt8.ofNat (2 ^ j)) := by
  unfold flipB
  rw [show (8 * k + j) / 8 = k by omega, show (8 * k + j) % 8 = j by omega]
theorem byte_eq {x y : UInt8} (h : x.toNat = y.toNat) : x = y := UInt8.toNat_inj.1 h
theorem pow_byte {j : Nat} (h : j < 8) : (UInt8.ofNat (2 ^ j)).toNat = 2 ^ j := by
  have := two_nat j
  rwa [Nat.mod_eq_of_lt h] at this
theorem torn_one {l : List UInt8} {k : Nat} {x : UInt8} (hx : l[k]? = some x) (h : pop (255 - x.toNat) = 1) : ∃ j, j < 8 ∧ l.set k 255 = flipB l (8 * k + j) := by
  have hk := (List.getElem?_eq_some_iff.1 hx).1
  obtain ⟨j, hj⟩ := pop_one x.toNat x.toNat_lt h
  refine ⟨j.val, j.isLt, ?_⟩
  rw [flip_set j.isLt, List.getD_eq_getElem?_getD, hx]
  congr 1
  refine byte_eq ?_
  rw [Option.getD_some, UInt8.toNat_xor, pow_byte j.isLt, hj]; rfl
theorem torn_two {l : List UInt8} {k : Nat} {x : UInt8} (hx : l[k]? = some x) (h : pop (255 - x.toNat) = 2) : ∃ j i, j < 8 ∧ i < 8 ∧ j ≠ i ∧ l.set k 255 = flipB (flipB l (8 * k + j)) (8 * k + i) := by
  have hk := (List.getElem?_eq_some_iff.1 hx).1
  obtain ⟨j, i, hne, hj⟩ := pop_two x.toNat x.toNat_lt h
  refine ⟨j.val, i.val, j.isLt, i.isLt, fun e => hne (Fin.ext e), ?_⟩
  have h2 : flipB l (8 * k + j.val) = l.set k (x ^^^ UInt8.ofNat (2 ^ j.val)) := by
    rw [flip_set j.isLt, List.getD_eq_getElem?_getD, hx]; rfl
  rw [h2, flip_set i.isLt, List.set_set, List.getD_eq_getElem?_getD, List.getElem?_set_self hk]
  congr 1
  refine byte_eq ?_
  rw [Option.getD_some, UInt8.toNat_xor, UInt8.toNat_xor, pow_byte j.isLt, pow_byte i.isLt, hj]; rfl
/-- A page of which one byte was not programmed. -/
theorem read_torn {p : Pg} {n : Nat} (h : mayB p n = true) {k : Nat} {x : UInt8} (hx : (pagePut p n)[k]? = some x) :
    (pop (255 - x.toNat) = 0 → readL ((pagePut p n).set k 255) = (p, 0)) ∧
    (pop (255 - x.toNat) ≠ 0 → pop (255 - x.toNat) ≤ 2 → (readL ((pagePut p n).set k 255)).2 = 4) ∧
    (pop (255 - x.toNat) ≠ 0 → (readL ((pagePut p n).set k 255)).1 ≠ p) := by
  have hk := (List.getElem?_eq_some_iff.1 hx).1
  have hkn : k < n := by rw [put_length h] at hk; exact hk
  refine ⟨fun h0 => ?_, fun h0 h2 => ?_, fun h0 e => ?_⟩
  · have hx255 : x = 255 := byte_eq (pop_zero _ x.toNat_lt h0)
    have : (pagePut p n).set k 255 = pagePut p n := by
      rw [← hx255]
      have := (List.getElem?_eq_some_iff.1 hx).2
      rw [← this]
      exact List.set_getElem_self hk
    rw [this]
    exact read_put h
  · have h12 : pop (255 - x.toNat) = 1 ∨ pop (255 - x.toNat) = 2 := by omega
    rcases h12 with h1 | h1
    · obtain ⟨j, hj, e⟩ := torn_one hx h1
      rw [e, read_flip h (by omega)]
    · obtain ⟨j, i, hj, hi, hne, e⟩ := torn_two hx h1
      rw [e, read_flips h (by omega) (by omega) (by omega)]
  · have hpk := (may_iff.1 h).2.1
    have h3 := (put_read (b := (pagePut p n).set k 255) (by rw [e]; omega)).2
    rw [e, List.length_set, put_length h] at h3
    have h4 : (pagePut p n)[k]? = some 255 := by
      rw [h3, List.getElem?_set_self hk]
    rw [hx] at h4
    cases h4
    exact h0 (by decide)
end Go.Proofs.Ytjlmkhomedoolaa.Page
