/- The document's trie, plainly: a way is its steps and a key that is cut there; what stands in a slot is asked of all routes. -/
import Derived.Test.YtggjcjijoihilaaTrieFits
import Derived.Test.YtggjcjijoihilaaTBestP
namespace Go.Proofs.Ytggjcjijoihilaa

/-- The key of a way: its steps, and zeros. -/
def keyOf (w : List Nat) : Nat → Nat := fun i => 16 * w.getD (2 * i) 0 + w.getD (2 * i + 1) 0
def Low (w : List Nat) : Prop := ∀ c ∈ w, c < 16
theorem low_get {w : List Nat} (h : Low w) (j : Nat) : w.getD j 0 < 16 := by
  rw [List.getD_eq_getElem?_getD]
  cases e : w[j]? with
  | none => decide
  | some c => exact h c (List.mem_of_getElem? e)
theorem keyOf_bytes {w : List Nat} (h : Low w) : Bytes16 (keyOf w) := fun i => by
  have := low_get h (2 * i); have := low_get h (2 * i + 1)
  unfold keyOf; omega
theorem nib_keyOf {w : List Nat} (h : Low w) (s : Nat) : nib (keyOf w) s = w.getD s 0 := by
  have a := low_get h (2 * (s / 2)); have b := low_get h (2 * (s / 2) + 1)
  unfold nib keyOf
  by_cases e : s % 2 = 0
  · have h2 : 2 * (s / 2) = s := by omega
    rw [if_pos e]
    rw [h2] at a b ⊢
    omega
  · have h2 : 2 * (s / 2) + 1 = s := by omega
    rw [if_neg e]
    rw [h2] at b ⊢
    omega
theorem path_low {k : Nat → Nat} (hk : Bytes16 k) (s : Nat) : Low (pathN k s) := fun c hc => by
  unfold pathN at hc
  obtain ⟨u, -, rfl⟩ := List.mem_map.1 hc
  exact nib_lt hk u
theorem path_getD (k : Nat → Nat) (s j : Nat) : (pathN k s).getD j 0 = if j < s then nib k j else 0 := by
  unfold pathN
  rw [List.getD_eq_getElem?_getD, List.getElem?_map]
  by_cases h : j < s
  · rw [if_pos h, List.getElem?_range h]; rfl
  · rw [if_neg h, List.getElem?_eq_none (by simp; omega)]; rfl
theorem cut_path (k : Nat → Nat) (s i : Nat) : cutB k (4 * s) i = keyOf (pathN k s) i := by
  unfold keyOf cutB
  rw [path_getD, path_getD]
  have e0 : nib k (2 * i) = k i / 16 := by unfold nib; rw [if_pos (by omega), show 2 * i / 2 = i by omega]
  have e1 : nib k (2 * i + 1) = k i % 16 := by unfold nib; rw [if_neg (by omega), show (2 * i + 1) / 2 = i by omega]
  rw [e0, e1]
  by_cases h1 : 8 * i + 8 ≤ 4 * s
  · rw [if_pos h1, if_pos (by omega), if_pos (by omega)]; omega
  · rw [if_neg h1]
    by_cases h2 : 4 * s ≤ 8 * i
    · rw [if_pos h2, if_neg (by omega), if_neg (by omega)]
    · rw [if_neg h2, if_pos (by omega), if_neg (by omega), show 8 * i + 8 - 4 * s = 4 by omega]
      omega
theorem path_keyOf {w : List Nat} (h : Low w) : pathN (keyOf w) w.length = w := by
  apply List.ext_getElem?
  intro j
  unfold pathN
  rw [List.getElem?_map]
  by_cases hj : j < w.length
  · rw [List.getElem?_range hj]
    show some (nib (keyOf w) j) = _
    rw [nib_keyOf h, List.getD_eq_getElem?_getD, List.getElem?_eq_getElem hj]; rfl
  · rw [List.getElem?_eq_none (by simp; omega), List.getElem?_eq_none (by omega)]; rfl
theorem low_snoc {w : List Nat} (h : Low w) {b : Nat} (hb : b < 16) : Low (w ++ [b]) := fun c hc => by
  rcases List.mem_append.1 hc with h1 | h1
  · exact h c h1
  · rw [List.mem_singleton.1 h1]; exact hb
theorem getD_snoc (w : List Nat) (b j : Nat) : (w ++ [b]).getD j 0 = if j = w.length then b else w.getD j 0 := by
  rw [List.getD_eq_getElem?_getD, List.getD_eq_getElem?_getD]
  by_cases h : j < w.length
  · rw [if_neg (by omega), List.getElem?_append_left h]
  · rw [List.getElem?_append_right (by omega)]
    by_cases e : j = w.length
    · subst e; simp
    · rw [if_neg e, List.getElem?_eq_none (by simp; omega), List.getElem?_eq_none (by omega)]
/-- Four bits set at the end of a way. -/
theorem set_even (w : List Nat) (b : Nat) (h : w.length % 2 = 0) (i : Nat) : keyOf (w ++ [b]) i = if i = w.length / 2 then 16 * b else keyOf w i := by
  unfold keyOf
  rw [getD_snoc, getD_snoc]
  by_cases e : i = w.length / 2
  · rw [if_pos e, if_pos (by omega), if_neg (by omega)]
    have : w.getD (2 * i + 1) 0 = 0 := by rw [List.getD_eq_getElem?_getD, List.getElem?_eq_none (by omega)]; rfl
    omega
  · rw [if_neg e, if_neg (by omega), if_neg (by omega)]
theorem set_odd (w : List Nat) (b : Nat) (h : ¬ w.length % 2 = 0) (i : Nat) : keyOf (w ++ [b]) i = if i = w.length / 2 then keyOf w i + b else keyOf w i := by
  unfold keyOf
  rw [getD_snoc, getD_snoc]
  by_cases e : i = w.length / 2
  · rw [if_pos e, if_neg (by omega), if_pos (by omega)]
    have : w.getD (2 * i + 1) 0 = 0 := by rw [List.getD_eq_getElem?_getD, List.getElem?_eq_none (by omega)]; rfl
    omega
  · rw [if_neg e, if_neg (by omega), if_neg (by omega)]
theorem keyOf_inj {u v : List Nat} (hu : Low u) (hv : Low v) (hl : u.length = v.length) (h32 : u.length ≤ 32) (h : keyEq (keyOf u) (keyOf v) = true) : u = v := by
  have hn : ∀ s, s < 32 → nib (keyOf u) s = nib (keyOf v) s := fun s hs => by
    unfold nib
    rw [keyEq_iff.1 h (s / 2) (by omega)]
  apply List.ext_getElem?
  intro j
  by_cases hj : j < u.length
  · have := hn j (by omega)
    rw [nib_keyOf hu, nib_keyOf hv, List.getD_eq_getElem?_getD, List.getD_eq_getElem?_getD, List.getElem?_eq_getElem hj, List.getElem?_eq_getElem (show j < v.length by omega)] at this
    rw [List.getElem?_eq_getElem hj, List.getElem?_eq_getElem (show j < v.length by omega)]
    exact congrArg some this
  · rw [List.getElem?_eq_none (by omega), List.getElem?_eq_none (by omega)]
theorem keyEq_refl (k : Nat → Nat) : keyEq k k = true := keyEq_iff.2 fun _ _ => rfl
/-- Two ways are the same just if their steps and keys are. -/
theorem way_eq {u v : List Nat} (hu : Low u) (hv : Low v) (h32 : u.length ≤ 32) : (((u.length : Int) == (v.length : Int)) && keyEq (keyOf u) (keyOf v)) = decide (u = v) := by
  by_cases e : u = v
  · subst e; simp [keyEq_refl]
  · rw [decide_eq_false e]
    by_cases hl : u.length = v.length
    · have : keyEq (keyOf u) (keyOf v) = false := by
        cases hk : keyEq (keyOf u) (keyOf v) with
        | false => rfl
        | true => exact absurd (keyOf_inj hu hv hl h32 hk) e
      rw [this]; simp
    · have : ((u.length : Int) == (v.length : Int)) = false := by rw [beq_eq_false_iff_ne]; omega
      rw [this]; rfl

/-- Who of two that fit stands behind the other one is longer. -/
theorem fit_less {p q : Pre} {k : Nat → Nat} (hp : Bytes16 p.key) (hq : Bytes16 q.key) (hk : Bytes16 k) (f1 : fitsB p k = true) (f2 : fitsB q k = true) (hb : p.bits = q.bits) (h : lessB p q = true) : p.len < q.len := by
  by_cases hl : p.len < q.len
  · exact hl
  · have := covers_ahead hq hp (covers_shorter hp hk f2 f1 hb.symm (by omega))
    rw [h] at this; cases this
/-- The slot that the document asks of all routes. -/
def slotD (bits : Int) (k : Nat → Nat) (s : Nat) (x : Nat × Nat) (r : Rt) : Nat × Nat :=
  if r.pre.bits = bits ∧ lastN r = s ∧ fitsB r.pre k = true ∧ (x.1 : Int) ≤ r.pre.len then slotR r else x
theorem slots_are {l : List Rt} (hg : Good l) {bits : Int} {w : List Nat} {b : Nat} (hw : Low w) (hb : b < 16) (hm : mayB (wholeP (keyOf (w ++ [b])) bits) = true) :
    l.foldl (slotD bits (keyOf (w ++ [b])) w.length) (0, 0) = (treeL l bits).sl w b := by
  have hlow := low_snoc hw hb
  have hk := keyOf_bytes hlow
  have hn : nib (keyOf (w ++ [b])) w.length = b := by rw [nib_keyOf hlow, getD_snoc, if_pos rfl]
  have hpw : pathN (keyOf (w ++ [b])) w.length = w := by
    have h1 := path_keyOf hlow
    rw [List.length_append, List.length_singleton, pathN_succ] at h1
    exact (List.append_inj' h1 rfl).1
  have hin : ∀ r : Rt, mayB r.pre = true → r.pre.bits = bits → ((lastN r = w.length ∧ fitsB r.pre (keyOf (w ++ [b])) = true) ↔ InS r w b) := fun r hmr hbr => by
    constructor
    · rintro ⟨h1, h2⟩
      have := (fits_in hk hbr hmr hm).1 h2
      rw [h1, hpw, hn] at this
      exact this
    · intro h
      have hl : lastN r = w.length := by
        have := congrArg List.length h.1
        rw [pathN_length] at this
        exact this.symm
      refine ⟨hl, (fits_in hk hbr hmr hm).2 ?_⟩
      rw [hl, hpw, hn]
      exact h
  induction h : l.length generalizing l with
  | zero =>
    have : l = [] := List.length_eq_zero_iff.1 h
    subst this; rfl
  | succ n ih =>
    rcases List.eq_nil_or_concat l with rfl | ⟨l', r, rfl⟩
    · simp at h
    · rw [List.concat_eq_append] at h hg ⊢
      have hg' : Good l' := hg.sub (List.sublist_append_left _ _)
      have ih' := ih hg' (by simp at h; exact h)
      have hmr := hg.may r (by simp)
      have e : (treeL (l' ++ [r]) bits).sl w b = if r.pre.bits = bits ∧ InS r w b then slotR r else (treeL l' bits).sl w b := by
        unfold treeL
        rw [adds_snoc]
        by_cases hb : r.pre.bits = bits
        · rw [if_pos hb, addR_sl]
          by_cases hi : InS r w b
          · rw [if_pos hi, if_pos ⟨hb, hi⟩]
          · rw [if_neg hi, if_neg (fun h => hi h.2)]
        · rw [if_neg hb, if_neg (fun h => hb h.1)]
      rw [List.foldl_append, List.foldl_cons, List.foldl_nil, ih', e]
      unfold slotD
      by_cases hbr : r.pre.bits = bits
      · by_cases hi : InS r w b
        · obtain ⟨h1, h2⟩ := (hin r hmr hbr).2 hi
          have hle : (((treeL l' bits).sl w b).1 : Int) ≤ r.pre.len := by
            have h0 : 0 ≤ r.pre.len := ((mayB_iff r.pre r.hk).1 hmr).2.1
            rcases adds_sl bits w b l' with ⟨e1, -⟩ | ⟨a, c, s, e1, h3, h4, h5, -⟩
            · rw [e1]; exact h0
            · rw [h5]
              have hs : s ∈ l' := by rw [e1]; simp
              have hms := hg'.may s hs
              have h6 := fit_less s.hk r.hk hk ((hin s hms h3).2 h4).2 h2 (by rw [h3, hbr]) ((List.pairwise_append.1 hg.ord).2.2 s hs r (by simp))
              have h7 : 0 ≤ s.pre.len := ((mayB_iff s.pre s.hk).1 hms).2.1
              show ((s.pre.len.toNat + 1 : Nat) : Int) ≤ _
              omega
          rw [if_pos ⟨hbr, h1, h2, hle⟩, if_pos ⟨hbr, hi⟩]
        · rw [if_neg (fun h => hi ((hin r hmr hbr).1 ⟨h.2.1, h.2.2.1⟩)), if_neg (fun h => hi h.2)]
      · rw [if_neg (fun h => hbr h.1), if_neg (fun h => hbr h.1)]
end Go.Proofs.Ytggjcjijoihilaa
