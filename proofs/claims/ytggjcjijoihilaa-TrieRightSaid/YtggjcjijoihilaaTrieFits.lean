/- What a table's trie finds is what the table finds. -/
import Derived.Test.YtggjcjijoihilaaTrieAwake
import Derived.Test.YtggjcjijoihilaaTDeepP
import Derived.Test.YtggjcjijoihilaaTabLaws
namespace Go.Proofs.Ytggjcjijoihilaa

/-- A route is in a slot. -/
def InS (r : Rt) (w : List Nat) (b : Nat) : Prop := w = pathN r.pre.key (lastN r) ∧ nib r.pre.key (lastN r) ≤ b ∧ b < nib r.pre.key (lastN r) + manyN r
instance (r : Rt) (w : List Nat) (b : Nat) : Decidable (InS r w b) := by unfold InS; infer_instance
def slotR (r : Rt) : Nat × Nat := (r.pre.len.toNat + 1, r.hop)
theorem along_sl (T : Tr) (k : Nat → Nat) : ∀ s, (T.along k s).sl = T.sl
  | 0 => rfl
  | s + 1 => by
    show ((T.along k s).step (pathN k (s + 1))).sl = T.sl
    rw [← along_sl T k s]
    unfold Tr.step
    split <;> rfl
theorem addR_sl (T : Tr) (r : Rt) (w : List Nat) (b : Nat) : (T.addR r).sl w b = if InS r w b then slotR r else T.sl w b := by
  show (if w = _ ∧ _ then _ else (T.along r.pre.key (lastN r)).sl w b) = _
  rw [along_sl]
  rfl
/-- What stands in a slot: nothing, or the last route that is in it. -/
inductive SlotIs (bits : Int) (l : List Rt) (w : List Nat) (b : Nat) (x : Nat × Nat) : Prop
  | none (e : x = (0, 0)) (h : ∀ r ∈ l, r.pre.bits = bits → ¬ InS r w b)
  | some (a c : List Rt) (r : Rt) (e : l = a ++ r :: c) (hb : r.pre.bits = bits) (hi : InS r w b) (ex : x = slotR r) (h : ∀ s ∈ c, s.pre.bits = bits → ¬ InS s w b)
theorem adds_sl (bits : Int) (w : List Nat) (b : Nat) : ∀ (l : List Rt), SlotIs bits l w b ((treeL l bits).sl w b) := by
  intro l
  induction h : l.length generalizing l with
  | zero =>
    have : l = [] := List.length_eq_zero_iff.1 h
    subst this
    exact .none rfl (by simp)
  | succ n ih =>
    rcases List.eq_nil_or_concat l with rfl | ⟨l', r, rfl⟩
    · simp at h
    · rw [List.concat_eq_append] at h ⊢
      have ih' := ih l' (by simp at h; exact h)
      have e : (treeL (l' ++ [r]) bits).sl w b = if r.pre.bits = bits ∧ InS r w b then slotR r else (treeL l' bits).sl w b := by
        unfold treeL
        rw [adds_snoc]
        by_cases hb : r.pre.bits = bits
        · rw [if_pos hb, addR_sl]
          by_cases hi : InS r w b
          · rw [if_pos hi, if_pos ⟨hb, hi⟩]
          · rw [if_neg hi, if_neg (fun h => hi h.2)]
        · rw [if_neg hb, if_neg (fun h => hb h.1)]
      by_cases hc : r.pre.bits = bits ∧ InS r w b
      · rw [e, if_pos hc]
        exact .some l' [] r rfl hc.1 hc.2 rfl (by simp)
      · rw [e, if_neg hc]
        rcases ih' with ⟨e1, h1⟩ | ⟨a, c, s, e1, h1, h2, h3, h4⟩
        · refine .none e1 fun s hs hb hi => ?_
          rcases List.mem_append.1 hs with hs | hs
          · exact h1 s hs hb hi
          · rw [List.mem_singleton.1 hs] at hb hi; exact hc ⟨hb, hi⟩
        · refine .some a (c ++ [r]) s (by rw [e1]; simp) h1 h2 h3 fun q hq hb hi => ?_
          rcases List.mem_append.1 hq with hq | hq
          · exact h4 q hq hb hi
          · rw [List.mem_singleton.1 hq] at hb hi; exact hc ⟨hb, hi⟩

theorem path_eq {k l : Nat → Nat} {s : Nat} : pathN k s = pathN l s ↔ ∀ u, u < s → nib k u = nib l u := by
  constructor
  · intro h u hu
    have h1 : (pathN k s)[u]? = some (nib k u) := by unfold pathN; rw [List.getElem?_map, List.getElem?_range hu]; rfl
    have h2 : (pathN l s)[u]? = some (nib l u) := by unfold pathN; rw [List.getElem?_map, List.getElem?_range hu]; rfl
    rw [h, h2] at h1
    exact (Option.some.inj h1).symm
  · intro h
    unfold pathN
    exact List.map_congr_left fun u hu => h u (List.mem_range.1 hu)
theorem nib_same {k l : Nat → Nat} (hk : Bytes16 k) (hl : Bytes16 l) {s : Nat} (hs : s < 32) : nib k s = nib l s ↔ ∀ j, 4 * s ≤ j → j < 4 * s + 4 → bt k j = bt l j := by
  rw [nib_bits hk hs, nib_bits hl hs]
  have a0 := bt_le k (4 * s); have a1 := bt_le k (4 * s + 1); have a2 := bt_le k (4 * s + 2); have a3 := bt_le k (4 * s + 3)
  have b0 := bt_le l (4 * s); have b1 := bt_le l (4 * s + 1); have b2 := bt_le l (4 * s + 2); have b3 := bt_le l (4 * s + 3)
  constructor
  · intro h j h1 h2
    have h5 : j = 4 * s ∨ j = 4 * s + 1 ∨ j = 4 * s + 2 ∨ j = 4 * s + 3 := by omega
    rcases h5 with rfl | rfl | rfl | rfl <;> omega
  · intro h
    rw [h (4 * s) (by omega) (by omega), h (4 * s + 1) (by omega) (by omega), h (4 * s + 2) (by omega) (by omega), h (4 * s + 3) (by omega) (by omega)]
/-- A route fits a key just if it is in the slot that the key has where it ends. -/
theorem fits_in {r : Rt} {k : Nat → Nat} (hk : Bytes16 k) {bits : Int} (hb : r.pre.bits = bits) (hm : mayB r.pre = true) (hw : mayB (wholeP k bits) = true) : fitsB r.pre k = true ↔ InS r (pathN k (lastN r)) (nib k (lastN r)) := by
  obtain ⟨m1, m2, m3, m4⟩ := (mayB_iff r.pre r.hk).1 hm
  obtain ⟨-, -, -, w4⟩ := (mayB_iff (wholeP k bits) hk).1 hw
  obtain ⟨l, hlen⟩ : ∃ l : Nat, r.pre.len = l := ⟨r.pre.len.toNat, by omega⟩
  obtain ⟨q, hq⟩ : ∃ q, q = lastN r := ⟨_, rfl⟩
  have hq2 : q = (l - 1) / 4 := by rw [hq]; unfold lastN; rw [hlen]; simp
  have hl128 : l ≤ 128 := by omega
  have hq31 : q < 32 := by omega
  have hz : ∀ j, l ≤ j → j < 128 → bt r.pre.key j = 0 := fun j h1 h2 => m4 j (by rw [hlen]; omega) h2
  have hfit : fitsB r.pre k = true ↔ ∀ j, j < l → bt r.pre.key j = bt k j := by
    rw [fitsB_iff _ _ hk]
    constructor
    · rintro ⟨-, -, h⟩ j hj
      exact h j (by rw [hlen]; omega)
    · intro h
      refine ⟨hm, fun j h1 h2 => w4 j ?_ h2, fun j hj => h j (by rw [hlen] at hj; omega)⟩
      show (bits : Int) ≤ j
      rw [← hb]; exact h1
  rw [hfit]
  unfold InS
  rw [← hq]
  have a0 := bt_le k (4 * q); have a1 := bt_le k (4 * q + 1); have a2 := bt_le k (4 * q + 2); have a3 := bt_le k (4 * q + 3)
  have b0 := bt_le r.pre.key (4 * q); have b1 := bt_le r.pre.key (4 * q + 1); have b2 := bt_le r.pre.key (4 * q + 2); have b3 := bt_le r.pre.key (4 * q + 3)
  have hpath : (pathN k q = pathN r.pre.key q) ↔ ∀ j, j < 4 * q → bt r.pre.key j = bt k j := by
    rw [path_eq]
    constructor
    · intro h j hj
      exact ((nib_same hk r.hk (s := j / 4) (by omega)).1 (h (j / 4) (by omega)) j (by omega) (by omega)).symm
    · intro h u hu
      exact (nib_same hk r.hk (by omega)).2 fun j h1 h2 => (h j (by omega)).symm
  have hnib : (nib r.pre.key q ≤ nib k q ∧ nib k q < nib r.pre.key q + manyN r) ↔ ∀ j, 4 * q ≤ j → j < l → bt r.pre.key j = bt k j := by
    rw [many_is r q l hq hlen, nib_bits hk hq31, nib_bits r.hk hq31]
    have h5 : 4 * (q + 1) - l = 0 ∨ 4 * (q + 1) - l = 1 ∨ 4 * (q + 1) - l = 2 ∨ 4 * (q + 1) - l = 3 ∨ 4 * (q + 1) - l = 4 := by omega
    have hz3 : l ≤ 4 * q + 3 → bt r.pre.key (4 * q + 3) = 0 := fun h => hz _ h (by omega)
    have hz2 : l ≤ 4 * q + 2 → bt r.pre.key (4 * q + 2) = 0 := fun h => hz _ h (by omega)
    have hz1 : l ≤ 4 * q + 1 → bt r.pre.key (4 * q + 1) = 0 := fun h => hz _ h (by omega)
    have hz0 : l ≤ 4 * q → bt r.pre.key (4 * q) = 0 := fun h => hz _ h (by omega)
    generalize hA0 : bt k (4 * q) = A0 at *
    generalize hA1 : bt k (4 * q + 1) = A1 at *
    generalize hA2 : bt k (4 * q + 2) = A2 at *
    generalize hA3 : bt k (4 * q + 3) = A3 at *
    generalize hB0 : bt r.pre.key (4 * q) = B0 at *
    generalize hB1 : bt r.pre.key (4 * q + 1) = B1 at *
    generalize hB2 : bt r.pre.key (4 * q + 2) = B2 at *
    generalize hB3 : bt r.pre.key (4 * q + 3) = B3 at *
    constructor
    · intro h j h1 h2
      have h6 : j = 4 * q ∨ j = 4 * q + 1 ∨ j = 4 * q + 2 ∨ j = 4 * q + 3 := by omega
      rcases h5 with e | e | e | e | e <;> rw [e] at h <;> simp only [show (2 : Nat) ^ 0 = 1 from rfl, show (2 : Nat) ^ 1 = 2 from rfl, show (2 : Nat) ^ 2 = 4 from rfl, show (2 : Nat) ^ 3 = 8 from rfl, show (2 : Nat) ^ 4 = 16 from rfl] at h <;>
        rcases h6 with rfl | rfl | rfl | rfl <;> simp only [hA0, hA1, hA2, hA3, hB0, hB1, hB2, hB3] <;> omega
    · intro h
      have g0 : 4 * q < l → B0 = A0 := fun h1 => by rw [← hB0, ← hA0]; exact h _ (Nat.le_refl _) h1
      have g1 : 4 * q + 1 < l → B1 = A1 := fun h1 => by rw [← hB1, ← hA1]; exact h _ (by omega) h1
      have g2 : 4 * q + 2 < l → B2 = A2 := fun h1 => by rw [← hB2, ← hA2]; exact h _ (by omega) h1
      have g3 : 4 * q + 3 < l → B3 = A3 := fun h1 => by rw [← hB3, ← hA3]; exact h _ (by omega) h1
      rcases h5 with e | e | e | e | e <;> rw [e] <;> simp only [show (2 : Nat) ^ 0 = 1 from rfl, show (2 : Nat) ^ 1 = 2 from rfl, show (2 : Nat) ^ 2 = 4 from rfl, show (2 : Nat) ^ 3 = 8 from rfl, show (2 : Nat) ^ 4 = 16 from rfl] <;> omega
  constructor
  · intro h
    exact ⟨hpath.2 fun j hj => h j (by omega), hnib.2 fun j _ h2 => h j h2⟩
  · rintro ⟨h1, h2⟩ j hj
    by_cases h3 : j < 4 * q
    · exact hpath.1 h1 j h3
    · exact hnib.1 h2 j (by omega) hj
end Go.Proofs.Ytggjcjijoihilaa
