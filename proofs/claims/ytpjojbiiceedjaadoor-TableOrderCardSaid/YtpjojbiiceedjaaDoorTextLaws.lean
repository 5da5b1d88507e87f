/- What is told is read as it was; what is read has just this text. Nothing of the program is walked. -/
import Derived.Test.YtpjojbiiceedjaaDoorTellB
namespace Go.Proofs.YtpjojbiiceedjaaDoor.Rr
open Go.Lib

theorem shortT_is (k : Nat → Nat) : shortT k = decDigits (k 0) ++ 46 :: (decDigits (k 1) ++ 46 :: (decDigits (k 2) ++ 46 :: decDigits (k 3))) := by
  simp [shortT, joinTo]
theorem preT_is (p : Pre) : preT p = keyT p.key p.bits ++ 47 :: decDigits p.len.toNat := by simp [preT, joinTo]
theorem lineT_is (p : Pre) (hop : Nat) : lineT p hop = preT p ++ 32 :: decDigits hop := by simp [lineT, joinTo]

theorem wideT_is (k : Nat → Nat) : wideT k = (List.range 32).map fun j => hexD (stepN k j) := by
  have : ∀ i, i ≤ 32 → joinTo [] (wideParts k) i = (List.range i).map fun j => hexD (stepN k j) := by
    intro i
    induction i with
    | zero => intro _; rfl
    | succ i ih =>
      intro hi
      have e : (wideParts k).getD i [] = [hexD (stepN k i)] := by
        rw [List.getD_eq_getElem?_getD]
        simp [wideParts, show i < 32 by omega]
      simp only [joinTo, e, ite_self, List.append_nil]
      rw [ih (by omega), List.range_succ, List.map_append]
      rfl
  exact this 32 (Nat.le_refl _)

theorem hexD_of {k : Nat → Nat} (hk : Bytes16 k) (j : Nat) : hexV (hexD (stepN k j)) = (stepN k j : Int) ∧ hexD (stepN k j) ≠ 46 ∧ hexD (stepN k j) ≠ 47 ∧ hexD (stepN k j) ≠ 32 :=
  hexD_back ⟨stepN k j, stepN_lt hk j⟩

theorem wideT_not {k : Nat → Nat} (hk : Bytes16 k) : (46 : UInt8) ∉ wideT k ∧ (47 : UInt8) ∉ wideT k ∧ (32 : UInt8) ∉ wideT k := by
  rw [wideT_is]
  refine ⟨fun h => ?_, fun h => ?_, fun h => ?_⟩
  all_goals
    obtain ⟨j, _, hj⟩ := List.mem_map.1 h
    have := hexD_of hk j
  · exact this.2.1 hj
  · exact this.2.2.1 hj
  · exact this.2.2.2 hj

theorem shortT_not (k : Nat → Nat) : (47 : UInt8) ∉ shortT k ∧ (32 : UInt8) ∉ shortT k := by
  rw [shortT_is]
  have h1 : ∀ n, (47 : UInt8) ∉ decDigits n := fun n => dec_not (by decide)
  have h2 : ∀ n, (32 : UInt8) ∉ decDigits n := fun n => dec_not (by decide)
  simp [h1, h2]

theorem keyT_not {k : Nat → Nat} (hk : Bytes16 k) (bits : Int) : (47 : UInt8) ∉ keyT k bits ∧ (32 : UInt8) ∉ keyT k bits := by
  unfold keyT
  split
  · exact shortT_not k
  · exact (wideT_not hk).2

theorem pieces_short (k : Nat → Nat) : pieces 46 (shortT k) = [decDigits (k 0), decDigits (k 1), decDigits (k 2), decDigits (k 3)] := by
  have h1 : ∀ n, (46 : UInt8) ∉ decDigits n := fun n => dec_not (by decide)
  rw [shortT_is, pieces_at _ (h1 _), pieces_at _ (h1 _), pieces_at _ (h1 _), pieces_none (h1 _)]

theorem endsB_short {k : Nat → Nat} (hk : Bytes16 k) : endsB k 32 = true ↔ ∀ i, 4 ≤ i → i < 16 → k i = 0 := by
  rw [endsB_iff hk]
  constructor
  · intro h i h1 h2
    refine byte_ext _ _ (hk i) (by decide) fun j hj => ?_
    have := h (8 * i + j) (by omega) (by omega)
    unfold bt at this
    rw [show (8 * i + j) / 8 = i by omega, show (8 * i + j) % 8 = j by omega] at this
    rw [this]; simp
  · intro h j h1 h2
    unfold bt
    rw [h (j / 8) (by omega) (by omega)]; simp

theorem endsB_wide {k : Nat → Nat} (hk : Bytes16 k) : endsB k 128 = true := (endsB_iff hk _).2 fun j h1 h2 => by omega

/-- A key's text is read as the key. -/
theorem key_back {k : Nat → Nat} {bits : Int} (hk : Bytes16 k) (h : keyOk k bits = true) : ∃ k', readKeyT (keyT k bits) = some k' ∧ (∀ i, i < 16 → k' i = k i) ∧ keyBits (keyT k bits) = bits := by
  unfold keyOk at h
  simp only [Bool.and_eq_true, Bool.or_eq_true, beq_iff_eq] at h
  obtain ⟨hb, he⟩ := h
  rcases hb with rfl | rfl
  · have hm : (46 : UInt8) ∈ keyT k 32 := by unfold keyT; rw [if_pos rfl, shortT_is]; simp
    have e : keyT k 32 = shortT k := by unfold keyT; rw [if_pos rfl]
    have hz := (endsB_short hk).1 he
    have hv : ∀ j, j < 4 → readNum 255 ((pieces 46 (shortT k)).getD j []) = some (k j) := fun j hj => by
      rw [pieces_short]
      have h4 : j = 0 ∨ j = 1 ∨ j = 2 ∨ j = 3 := by omega
      rcases h4 with rfl | rfl | rfl | rfl
      all_goals
        simp only [List.getD_cons_zero, List.getD_cons_succ]
        rw [readNum_dec, if_pos]
        first | exact Nat.le_of_lt_succ (hk 0) | exact Nat.le_of_lt_succ (hk 1) | exact Nat.le_of_lt_succ (hk 2) | exact Nat.le_of_lt_succ (hk 3)
    refine ⟨shortPart (pieces 46 (shortT k)) 4, ?_, fun i hi => ?_, by unfold keyBits; rw [if_pos hm]⟩
    · unfold readKeyT readShort
      rw [if_pos hm, e, if_pos ⟨by rw [pieces_short]; rfl, upTo_iff.2 fun j hj => by unfold shortIs; rw [hv j hj]; rfl⟩]
    · unfold shortPart shortVal
      split
      · rename_i h4; rw [hv i h4]; rfl
      · exact (hz i (by omega) hi).symm
  · have e : keyT k 128 = wideT k := by unfold keyT; rw [if_neg (by decide)]
    have hm : (46 : UInt8) ∉ keyT k 128 := by rw [e]; exact (wideT_not hk).1
    have hl : (wideT k).length = 32 := by rw [wideT_is]; simp
    have hv : ∀ j, j < 32 → hexV ((wideT k).getD j 0) = (stepN k j : Int) := fun j hj => by
      rw [wideT_is, List.getD_eq_getElem?_getD]
      simp only [List.getElem?_map, List.getElem?_range hj, Option.map_some, Option.getD_some]
      exact (hexD_of hk j).1
    refine ⟨wideKey (wideT k), ?_, fun i hi => ?_, by unfold keyBits; rw [if_neg hm]⟩
    · unfold readKeyT readWide
      rw [if_neg hm, e, if_pos ⟨hl, upTo_iff.2 fun j hj => by unfold wideIs; rw [hv j hj]; simp⟩]
    · unfold wideKey widePart wideHalf hexN
      rw [if_pos hi, if_pos (by omega), hv _ (by omega), hv _ (by omega), Int.toNat_natCast, Int.toNat_natCast]
      unfold stepN
      rw [if_pos (by omega), if_neg (by omega), show 2 * i / 2 = i by omega, show (2 * i + 1) / 2 = i by omega]
      omega

/-- What is read as a key has just this text. -/
theorem key_forth {s : List UInt8} {k : Nat → Nat} (h : readKeyT s = some k) : keyOk k (keyBits s) = true ∧ keyT k (keyBits s) = s := by
  have hk := readKeyT_bytes h
  unfold readKeyT at h
  by_cases hm : (46 : UInt8) ∈ s
  · rw [if_pos hm] at h
    have eb : keyBits s = 32 := by unfold keyBits; rw [if_pos hm]
    rw [eb]
    unfold readShort at h
    split at h
    · rename_i hc
      obtain ⟨h4, hall⟩ := hc
      simp only [Option.some.injEq] at h
      obtain ⟨p0, p1, p2, p3, hp⟩ : ∃ p0 p1 p2 p3, pieces 46 s = [p0, p1, p2, p3] := by
        match hq : pieces 46 s, h4 with
        | [p0, p1, p2, p3], _ => exact ⟨p0, p1, p2, p3, rfl⟩
      have hv : ∀ j, j < 4 → readNum 255 ((pieces 46 s).getD j []) = some (k j) := fun j hj => by
        rw [shortIs_val (upTo_iff.1 hall j hj), ← h]
        unfold shortPart
        rw [if_pos hj]
      rw [hp] at hv
      have v0 := (readNum_is (hv 0 (by decide))).1
      have v1 := (readNum_is (hv 1 (by decide))).1
      have v2 := (readNum_is (hv 2 (by decide))).1
      have v3 := (readNum_is (hv 3 (by decide))).1
      simp only [List.getD_cons_zero, List.getD_cons_succ] at v0 v1 v2 v3
      obtain ⟨m1, a1, r1⟩ := pieces_more hp
      obtain ⟨m2, a2, r2⟩ := pieces_more r1.symm
      obtain ⟨m3, a3, r3⟩ := pieces_more r2.symm
      obtain ⟨_, a4⟩ := pieces_one r3.symm
      have s1 := (split_first m1).1
      have s2 := (split_first m2).1
      have s3 := (split_first m3).1
      refine ⟨?_, ?_⟩
      · unfold keyOk
        have : endsB k (32 : Int).toNat = true := (endsB_short hk).2 fun i h1 h2 => by
          rw [← h]; unfold shortPart; rw [if_neg (by omega)]
        rw [this]; rfl
      · unfold keyT
        rw [if_pos rfl, shortT_is, ← v0, ← v1, ← v2, ← v3, ← a4, a3, ← s3, a2, ← s2, a1, ← s1]
    · cases h
  · rw [if_neg hm] at h
    have eb : keyBits s = 128 := by unfold keyBits; rw [if_neg hm]
    rw [eb]
    unfold readWide at h
    split at h
    · rename_i hc
      obtain ⟨hl, hall⟩ := hc
      simp only [Option.some.injEq] at h
      refine ⟨?_, ?_⟩
      · unfold keyOk
        have : endsB k (128 : Int).toNat = true := endsB_wide hk
        rw [this]; rfl
      · unfold keyT
        rw [if_neg (by decide), wideT_is]
        apply List.ext_getElem?
        intro j
        by_cases hj : j < 32
        · have hw := upTo_iff.1 hall j hj
          unfold wideIs at hw
          simp only [decide_eq_true_eq] at hw
          have hd := (hexV_is (s.getD j 0)).2.2 hw
          have hs : stepN k j = hexN (s.getD j 0) := by
            rw [← h]
            have g1 := hexN_lt (s.getD (2 * (j / 2)) 0)
            have g2 := hexN_lt (s.getD (2 * (j / 2) + 1) 0)
            unfold stepN wideKey widePart wideHalf
            rw [if_pos (show j / 2 < 16 by omega), if_pos (show 2 * (j / 2) + 1 < 32 by omega)]
            by_cases e : j % 2 = 0
            · rw [if_pos e]
              have : 2 * (j / 2) = j := by omega
              rw [this] at g1 g2 ⊢
              omega
            · rw [if_neg e]
              have : 2 * (j / 2) + 1 = j := by omega
              rw [this] at g2 ⊢
              omega
          simp only [List.getElem?_map, List.getElem?_range hj, Option.map_some]
          rw [hs, show hexD (hexN (s.getD j 0)) = s.getD j 0 from hd.1, List.getD_eq_getElem?_getD, List.getElem?_eq_getElem (by omega)]
          rfl
        · rw [List.getElem?_eq_none (by simp; omega), List.getElem?_eq_none (by omega)]
    · cases h

theorem readNum_nil (lim : Nat) : readNum lim [] = none := by unfold readNum; rw [if_pos (.inl rfl)]

theorem pc_same {p q : Pre} (hb : p.bits = q.bits) (hl : p.len = q.len) (hk : ∀ i, i < 16 → p.key i = q.key i) : pc p = pc q := by
  unfold pc
  rw [hb, hl, show kl p.key = kl q.key from by unfold kl; exact List.map_congr_left fun i hi => by rw [hk i (by simpa using hi)]]

theorem may_key {p : Pre} (hk : Bytes16 p.key) (h : mayB p = true) : keyOk p.key p.bits = true ∧ 0 ≤ p.len ∧ p.len ≤ p.bits ∧ p.bits ≤ 128 := by
  obtain ⟨h1, h2, h3, h4⟩ := (mayB_iff p hk).1 h
  refine ⟨?_, h2, h3, by omega⟩
  unfold keyOk
  have e : endsB p.key p.bits.toNat = true := (endsB_iff hk _).2 fun j g1 g2 => h4 j (by omega) g2
  rw [e]
  rcases h1 with h1 | h1 <;> simp [h1]

theorem may_same {p q : Pre} (hp : Bytes16 p.key) (hq : Bytes16 q.key) (hb : p.bits = q.bits) (hl : p.len = q.len) (hk : ∀ i, i < 16 → p.key i = q.key i) : mayB p = mayB q := by
  have hbit : ∀ j, j < 128 → bt p.key j = bt q.key j := (key_ext hp hq).1 hk
  have h : mayB p = true ↔ mayB q = true := by
    rw [mayB_iff p hp, mayB_iff q hq, hb, hl]
    constructor
    · rintro ⟨h1, h2, h3, h4⟩; exact ⟨h1, h2, h3, fun j g1 g2 => by rw [← hbit j g2]; exact h4 j g1 g2⟩
    · rintro ⟨h1, h2, h3, h4⟩; exact ⟨h1, h2, h3, fun j g1 g2 => by rw [hbit j g2]; exact h4 j g1 g2⟩
  cases e1 : mayB p <;> cases e2 : mayB q <;> simp_all

/-- A prefix' text is read as the prefix. -/
theorem pre_back {p : Pre} (hk : Bytes16 p.key) (h : mayB p = true) : ∃ p', readPreT (preT p) = some p' ∧ p'.bits = p.bits ∧ p'.len = p.len ∧ ∀ i, i < 16 → p'.key i = p.key i := by
  obtain ⟨h1, h2, h3, h4⟩ := may_key hk h
  obtain ⟨k', e1, e2, e3⟩ := key_back hk h1
  obtain ⟨a1, a2⟩ := ahead_at (decDigits p.len.toNat) (keyT_not hk p.bits).1
  have en : readNum p.bits.toNat (decDigits p.len.toNat) = some p.len.toNat := by rw [readNum_dec, if_pos (by omega)]
  have el : ((p.len.toNat : Nat) : Int) = p.len := by omega
  refine ⟨⟨p.bits, p.len.toNat, k'⟩, ?_, rfl, el, e2⟩
  have hm : mayB ⟨p.bits, p.len.toNat, k'⟩ = true := by rw [may_same (p := ⟨p.bits, p.len.toNat, k'⟩) (q := p) (readKeyT_bytes e1) hk rfl el e2]; exact h
  unfold readPreT
  rw [preT_is, a1, a2, e1, e3, en]
  simp only [hm, if_true]

/-- What is read as a prefix has just this text. -/
theorem pre_forth {s : List UInt8} {p : Pre} (h : readPreT s = some p) : mayB p = true ∧ preT p = s := by
  obtain ⟨k, n, h1, h2, rfl, hm⟩ := readPreT_of h
  refine ⟨hm, ?_⟩
  obtain ⟨_, e1⟩ := key_forth h1
  obtain ⟨e2, _⟩ := readNum_is h2
  have hc : (47 : UInt8) ∈ s := by
    by_cases hc : (47 : UInt8) ∈ s
    · exact hc
    · rw [(ahead_none hc).2, readNum_nil] at h2; cases h2
  rw [preT_is, e1, Int.toNat_natCast, ← e2, ← (split_first hc).1]

theorem preT_not {p : Pre} (hk : Bytes16 p.key) : (32 : UInt8) ∉ preT p := by
  have h1 : ∀ n, (32 : UInt8) ∉ decDigits n := fun n => dec_not (by decide)
  rw [preT_is]
  simp [h1, (keyT_not hk p.bits).2]

theorem line_back {p : Pre} {hop : Nat} (hk : Bytes16 p.key) (hh : hop < 65536) (h : mayB p = true) : ∃ p', readLineT (lineT p hop) = some (p', hop) ∧ p'.bits = p.bits ∧ p'.len = p.len ∧ ∀ i, i < 16 → p'.key i = p.key i := by
  obtain ⟨p', e1, e2⟩ := pre_back hk h
  obtain ⟨a1, a2⟩ := ahead_at (decDigits hop) (preT_not hk)
  refine ⟨p', ?_, e2⟩
  unfold readLineT
  rw [lineT_is, a1, a2, e1, readNum_dec, if_pos (by omega)]

theorem line_forth {s : List UInt8} {p : Pre} {n : Nat} (h : readLineT s = some (p, n)) : mayB p = true ∧ lineT p n = s ∧ n < 65536 := by
  obtain ⟨h1, h2⟩ := readLineT_of h
  obtain ⟨m, e1⟩ := pre_forth h1
  obtain ⟨e2, hn⟩ := readNum_is h2
  refine ⟨m, ?_, by omega⟩
  have hc : (32 : UInt8) ∈ s := by
    by_cases hc : (32 : UInt8) ∈ s
    · exact hc
    · rw [(ahead_none hc).2, readNum_nil] at h2; cases h2
  rw [lineT_is, e1, ← e2, ← (split_first hc).1]

/-! ### How long texts are -/

theorem keyT_le {k : Nat → Nat} (hk : Bytes16 k) (bits : Int) : (keyT k bits).length ≤ 32 := by
  have hd : ∀ i, (decDigits (k i)).length ≤ 3 := fun i => dec_length (k := 2) (Nat.lt_trans (hk i) (by decide))
  unfold keyT
  split
  · have h0 := hd 0; have h1 := hd 1; have h2 := hd 2; have h3 := hd 3
    rw [shortT_is]; simp; omega
  · rw [wideT_is]; simp
theorem preT_le {p : Pre} (hk : Bytes16 p.key) (h : mayB p = true) : (preT p).length ≤ 36 := by
  have h1 := keyT_le hk p.bits
  obtain ⟨_, g1, g2, g3⟩ := may_key hk h
  have h2 : (decDigits p.len.toNat).length ≤ 3 := dec_length (k := 2) (by omega)
  rw [preT_is]; simp; omega
theorem lineT_le {p : Pre} {hop : Nat} (hk : Bytes16 p.key) (hh : hop < 65536) (h : mayB p = true) : (lineT p hop).length ≤ 42 := by
  have h1 := preT_le hk h
  have h2 : (decDigits hop).length ≤ 5 := dec_length (k := 4) (by omega)
  rw [lineT_is]; simp; omega

end Go.Proofs.YtpjojbiiceedjaaDoor.Rr
