/- Of a table's trie the slot of the longest route is found: the table's own answer. -/
import Derived.Test.YtggjcjijoihilaaTrieFits
import Derived.Test.YtggjcjijoihilaaRefLists
namespace Go.Proofs.Ytggjcjijoihilaa

theorem along_more (T : Tr) (k : Nat → Nat) {w : List Nat} {s : Nat} (h : w ∈ (T.along k s).ws) : ∀ d, w ∈ (T.along k (s + d)).ws
  | 0 => h
  | d + 1 => step_mono _ _ (along_more T k h d)
theorem addR_way {T : Tr} (hT : T.Ok) (r : Rt) {s : Nat} (hs : s ≤ lastN r) : pathN r.pre.key s ∈ (T.addR r).ws := by
  have h := along_more T r.pre.key (hT.along r.pre.key s).2 (lastN r - s)
  rw [show s + (lastN r - s) = lastN r by omega] at h
  exact h
theorem addR_keep (T : Tr) (r : Rt) {w : List Nat} (h : w ∈ T.ws) : w ∈ (T.addR r).ws := along_keep T r.pre.key h (lastN r)
theorem adds_keep (bits : Int) (l : List Rt) : ∀ (T : Tr) {w : List Nat}, w ∈ T.ws → w ∈ (Tr.adds bits T l).ws := by
  induction l with
  | nil => intro T w h; exact h
  | cons r l ih =>
    intro T w h
    unfold Tr.adds
    refine ih _ ?_
    split
    · exact addR_keep T r h
    · exact h
theorem tree_way {t : List Rt} {bits : Int} {r : Rt} (hr : r ∈ t) (hb : r.pre.bits = bits) {s : Nat} (hs : s ≤ lastN r) : pathN r.pre.key s ∈ (treeL t bits).ws := by
  obtain ⟨a, c, rfl⟩ := List.append_of_mem hr
  unfold treeL
  rw [adds_append]
  unfold Tr.adds
  rw [if_pos hb]
  exact adds_keep bits c _ (addR_way (Tr.adds_ok bits a tr0 tr0_ok) r hs)

theorem bestS_is (T : Tr) (k : Nat → Nat) : ∀ M, (bestS T k M = (0, 0) ∨ ∃ s, s < M ∧ bestS T k M = T.sl (pathN k s) (nib k s)) ∧ ∀ s, s < M → (T.sl (pathN k s) (nib k s)).1 ≤ (bestS T k M).1
  | 0 => ⟨.inl rfl, fun s h => absurd h (Nat.not_lt_zero _)⟩
  | M + 1 => by
    obtain ⟨h1, h2⟩ := bestS_is T k M
    rw [bestS_succ]
    unfold pickS
    by_cases hlt : (bestS T k M).1 < (T.sl (pathN k M) (nib k M)).1
    · rw [if_pos hlt]
      refine ⟨.inr ⟨M, Nat.lt_succ_self M, rfl⟩, fun s hs => ?_⟩
      by_cases e : s = M
      · rw [e]; exact Nat.le_refl _
      · have := h2 s (by omega); omega
    · rw [if_neg hlt]
      refine ⟨?_, fun s hs => ?_⟩
      · rcases h1 with h1 | ⟨s, hs, h1⟩
        · exact .inl h1
        · exact .inr ⟨s, by omega, h1⟩
      · by_cases e : s = M
        · rw [e]; omega
        · exact h2 s (by omega)
/-- Who stands in a slot on a key's way fits it. -/
theorem slot_fits {t : List Rt} (hg : Good t) {k : Nat → Nat} (hk : Bytes16 k) {bits : Int} (hw : mayB (wholeP k bits) = true) (s : Nat) :
    (treeL t bits).sl (pathN k s) (nib k s) = (0, 0) ∨ ∃ a c r, t = a ++ r :: c ∧ r.pre.bits = bits ∧ lastN r = s ∧ fitsB r.pre k = true ∧ (treeL t bits).sl (pathN k s) (nib k s) = slotR r ∧ ∀ q ∈ c, q.pre.bits = bits → lastN q = s → fitsB q.pre k = false := by
  rcases adds_sl bits (pathN k s) (nib k s) t with ⟨e, -⟩ | ⟨a, c, r, e, hb, hi, ex, h⟩
  · exact .inl e
  · have hs : lastN r = s := by have := congrArg List.length hi.1; rw [pathN_length, pathN_length] at this; exact this.symm
    have hr : r ∈ t := by rw [e]; simp
    have hf : fitsB r.pre k = true := (fits_in hk hb (hg.may r hr) hw).2 (by rw [hs]; exact hi)
    refine .inr ⟨a, c, r, e, hb, hs, hf, ex, fun q hq hqb hqs => ?_⟩
    cases hq2 : fitsB q.pre k with
    | false => rfl
    | true =>
      have := (fits_in hk hqb (hg.may q (by rw [e]; simp [hq])) hw).1 hq2
      rw [hqs] at this
      exact absurd this (h q hq hqb)
theorem tree_best {t : List Rt} (hg : Good t) (hl : t.length ≤ 256) {k : Nat → Nat} (hk : Bytes16 k) {bits : Int} (hw : mayB (wholeP k bits) = true) {m : Nat} (hm : WalkTo (treeL t bits) k m) :
    ∃ n, (bestL t k bits).1.pre.len = (n : Nat) ∧ foundS (bestS (treeL t bits) k (m + 1)) = (n, (bestL t k bits).1.hop, (bestL t k bits).2) := by
  obtain ⟨h1, h2⟩ := bestS_is (treeL t bits) k (m + 1)
  rcases best_cases hg hl hk bits with ⟨e, h4, -, h5, h6⟩ | ⟨R, h4, h5⟩
  · rw [h4, h5 hw]
    refine ⟨0, rfl, ?_⟩
    have h0 : bestS (treeL t bits) k (m + 1) = (0, 0) := by
      rcases h1 with h1 | ⟨s, hs, h1⟩
      · exact h1
      · rcases slot_fits hg hk hw s with h | ⟨a, c, r, e1, hb, -, hf, -⟩
        · rw [h1, h]
        · have := h6 r (by rw [e1]; simp) hb
          rw [hf] at this; cases this
    rw [h0]; rfl
  · rw [h4]
    have hmay := hg.may R h5.mem
    obtain ⟨m1, m2, m3, -⟩ := (mayB_iff R.pre R.hk).1 hmay
    refine ⟨R.pre.len.toNat, by show R.pre.len = _; omega, ?_⟩
    have hin := (fits_in hk h5.bit hmay hw).1 h5.fit
    -- the way reaches where R ends
    have hpath : ∀ u, u ≤ lastN R → pathN k u = pathN R.pre.key u := fun u hu =>
      path_eq.2 fun v hv => (path_eq.1 hin.1) v (by omega)
    have hLm : lastN R ≤ m := by
      rcases Nat.lt_or_ge m (lastN R) with hlt | hge
      · exfalso
        refine hm.off ?_
        rw [hpath (m + 1) (by omega)]
        exact tree_way h5.mem h5.bit (by omega)
      · exact hge
    -- what stands there
    have hbig : R.pre.len.toNat + 1 ≤ (bestS (treeL t bits) k (m + 1)).1 := by
      have h7 := h2 (lastN R) (by omega)
      rcases adds_sl bits (pathN k (lastN R)) (nib k (lastN R)) t with ⟨-, h8⟩ | ⟨a, c, r, e, hb, hi, ex, h8⟩
      · exact absurd hin (h8 R h5.mem h5.bit)
      · have hr : r ∈ t := by rw [e]; simp
        have hs : lastN r = lastN R := by have := congrArg List.length hi.1; rw [pathN_length, pathN_length] at this; exact this.symm
        have hf : fitsB r.pre k = true := (fits_in hk hb (hg.may r hr) hw).2 (by rw [hs]; exact hi)
        have hle : R.pre.len ≤ r.pre.len := by
          have hmem := h5.mem
          rw [e] at hmem
          have ho := hg.ord
          rw [e] at ho
          rcases List.mem_append.1 hmem with h9 | h9
          · exact fit_order R.hk r.hk hk h5.fit hf (by rw [h5.bit, hb]) ((List.pairwise_append.1 ho).2.2 R h9 r (by simp))
          · rcases List.mem_cons.1 h9 with h9 | h9
            · rw [h9]; exact Int.le_refl _
            · exact absurd hin (h8 R h9 h5.bit)
        have e2 : ((treeL t bits).sl (pathN k (lastN R)) (nib k (lastN R))).1 = r.pre.len.toNat + 1 := by rw [ex]; rfl
        rw [e2] at h7
        omega
    rcases h1 with h1 | ⟨s, hs, h1⟩
    · rw [h1] at hbig; simp at hbig
    · rcases slot_fits hg hk hw s with h | ⟨a, c, r, e1, hb, -, hf, ex, -⟩
      · rw [h1, h] at hbig; simp at hbig
      · have hr : r ∈ t := by rw [e1]; simp
        have hle := h5.most r hr hb hf
        have e2 : bestS (treeL t bits) k (m + 1) = slotR r := by rw [h1, ex]
        rw [e2] at hbig ⊢
        have hbig2 : R.pre.len.toNat + 1 ≤ r.pre.len.toNat + 1 := hbig
        have m2r := ((mayB_iff r.pre r.hk).1 (hg.may r hr)).2.1
        have hrb : BestIs t k bits r := ⟨hr, hb, hf, fun q hq hqb hqf => by have := h5.most q hq hqb hqf; omega⟩
        have heq := best_one hg hk hrb h5
        subst heq
        unfold foundS slotR
        rw [if_neg (by simp)]
        rfl
end Go.Proofs.Ytggjcjijoihilaa
