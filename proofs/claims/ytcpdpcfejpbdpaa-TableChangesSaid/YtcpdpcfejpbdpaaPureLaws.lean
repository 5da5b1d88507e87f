/- Plain laws on what covers, fits, and is ahead of what. Nothing of the program is named. -/
import Derived.Test.YtcpdpcfejpbdpaaPure
namespace Go.Proofs.Ytcpdpcfejpbdpaa

theorem ahead_iff {p q : Pre} (mp : mayB p = true) (mq : mayB q = true) : lessB p q = true ↔ p.bits < q.bits ∨ (p.bits = q.bits ∧ (num p.key < num q.key ∨ (num p.key = num q.key ∧ p.len < q.len))) := by
  unfold lessB
  rw [mp, mq]
  by_cases e1 : p.bits = q.bits
  · by_cases e2 : num p.key = num q.key
    · simp [e1, e2]
    · simp [e1, e2]
  · simp [e1]

theorem covers_iff (p q : Pre) : coversB p q = true ↔ mayB q = true ∧ p.bits = q.bits ∧ p.len ≤ q.len ∧ fitsB p q.key = true := by
  unfold coversB
  simp only [Bool.and_eq_true, beq_iff_eq, decide_eq_true_eq, and_assoc]

theorem fits_may {p : Pre} {k : Nat → Nat} (h : fitsB p k = true) : mayB p = true := by
  unfold fitsB at h
  simp only [Bool.and_eq_true] at h
  exact h.1.1

theorem fits_not {p : Pre} {k : Nat → Nat} (h : mayB p = false) : fitsB p k = false := by
  cases e : fitsB p k with
  | false => rfl
  | true => rw [fits_may e] at h; exact absurd h (by simp)

theorem covers_not_left {p q : Pre} (h : mayB p = false) : coversB p q = false := by
  unfold coversB; rw [fits_not h]; simp

theorem covers_not_right {p q : Pre} (h : mayB q = false) : coversB p q = false := by
  unfold coversB; rw [h]; simp

theorem less_not_left {p q : Pre} (h : mayB p = false) : lessB p q = false := by
  unfold lessB; rw [h]; simp

theorem less_not_right {p q : Pre} (h : mayB q = false) : lessB p q = false := by
  unfold lessB; rw [h]; simp

theorem may_len {p : Pre} (h : mayB p = true) (hk : Bytes16 p.key) : 0 ≤ p.len ∧ p.len ≤ p.bits ∧ p.bits ≤ 128 ∧ ∀ j : Nat, p.len ≤ (j : Int) → j < 128 → bt p.key j = 0 := by
  obtain ⟨h1, h2, h3, h4⟩ := (mayB_iff p hk).1 h
  exact ⟨h2, h3, by omega, h4⟩

theorem covers_shorter {p q : Pre} {k : Nat → Nat} (hq : Bytes16 q.key) (hk : Bytes16 k) (f1 : fitsB p k = true) (f2 : fitsB q k = true) (hb : p.bits = q.bits) (hl : p.len ≤ q.len) : coversB p q = true := by
  obtain ⟨m1, _, s1⟩ := (fitsB_iff p k hk).1 f1
  obtain ⟨m2, _, s2⟩ := (fitsB_iff q k hk).1 f2
  obtain ⟨l1, l2, l3, l4⟩ := may_len m2 hq
  rw [covers_iff, fitsB_iff p q.key hq]
  exact ⟨m2, hb, hl, m1, fun j h1 h2 => l4 j (by omega) h2, fun j h1 => by rw [s1 j h1, s2 j (by omega)]⟩

theorem covers_one {p q : Pre} {k : Nat → Nat} (hp : Bytes16 p.key) (hq : Bytes16 q.key) (hk : Bytes16 k) (f1 : fitsB p k = true) (f2 : fitsB q k = true) (hb : p.bits = q.bits) (h : coversB p q = false) : coversB q p = true := by
  by_cases hl : p.len ≤ q.len
  · rw [covers_shorter hq hk f1 f2 hb hl] at h; exact absurd h (by simp)
  · exact covers_shorter hp hk f2 f1 hb.symm (by omega)

theorem covers_ahead {p q : Pre} (hp : Bytes16 p.key) (hq : Bytes16 q.key) (h : coversB p q = true) : lessB q p = false := by
  obtain ⟨m2, hb, hl, f⟩ := (covers_iff p q).1 h
  obtain ⟨m1, _, s⟩ := (fitsB_iff p q.key hq).1 f
  obtain ⟨l1, l2, l3, l4⟩ := may_len m1 hp
  cases e : lessB q p with
  | false => rfl
  | true =>
    rw [ahead_iff m2 m1] at e
    exfalso
    have hc := num_com hp hq
    have hcom := com_is p.key q.key
    rcases hc with ⟨_, hn⟩ | ⟨hlt, ⟨_, _, hn⟩ | ⟨h1, _, _⟩⟩
    · omega
    · omega
    · by_cases hj : ((com p.key q.key : Nat) : Int) < p.len
      · exact hcom.part hlt (s _ hj)
      · have := l4 _ (by omega) hlt; omega

theorem covers_fits {p q : Pre} {k : Nat → Nat} (hq : Bytes16 q.key) (hk : Bytes16 k) (h : coversB p q = true) (f2 : fitsB q k = true) : fitsB p k = true := by
  obtain ⟨_, hb, hl, f⟩ := (covers_iff p q).1 h
  obtain ⟨m1, _, s1⟩ := (fitsB_iff p q.key hq).1 f
  obtain ⟨_, z2, s2⟩ := (fitsB_iff q k hk).1 f2
  rw [fitsB_iff p k hk]
  exact ⟨m1, fun j h1 h2 => z2 j (by omega) h2, fun j h1 => by rw [s1 j h1, s2 j (by omega)]⟩

theorem covers_same {p q : Pre} (hp : Bytes16 p.key) (hq : Bytes16 q.key) (h : coversB p q = true) (e : preEq p q = false) : coversB q p = false := by
  cases h2 : coversB q p with
  | false => rfl
  | true =>
    obtain ⟨m2, hb, hl, f⟩ := (covers_iff p q).1 h
    obtain ⟨m1, _, hl2, _⟩ := (covers_iff q p).1 h2
    obtain ⟨_, _, s⟩ := (fitsB_iff p q.key hq).1 f
    have a1 := may_len m1 hp
    have a2 := may_len m2 hq
    have hk : keyEq p.key q.key = true := by
      rw [keyEq_bits hp hq]
      intro j hj
      by_cases h5 : (j : Int) < p.len
      · exact s j h5
      · rw [a1.2.2.2 j (by omega) hj, a2.2.2.2 j (by omega) hj]
    unfold preEq at e
    rw [hk] at e
    simp [hb] at e
    omega

end Go.Proofs.Ytcpdpcfejpbdpaa
