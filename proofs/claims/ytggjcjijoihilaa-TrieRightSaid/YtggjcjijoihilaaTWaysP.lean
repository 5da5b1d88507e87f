/- The ways of keys through a table's trie: how long, what two keys share, and that each node is on some route's way. -/
import Derived.Test.YtggjcjijoihilaaTBestP
import Derived.Test.YtggjcjijoihilaaTrieWalk
namespace Go.Proofs.Ytggjcjijoihilaa

theorem way_len {T : Tr} {d : Nat} (hF : T.Fit d) {k : Nat → Nat} {m : Nat} (h : WalkTo T k m) : m + 1 ≤ d := by
  have := hF.deep _ (h.on m (Nat.le_refl _))
  rw [pathN_length] at this
  exact this
/-- Keys that have so many bits in common go through the same nodes as far. -/
theorem way_same {T : Tr} {k l : Nat → Nat} (hk : Bytes16 k) (hl : Bytes16 l) {m m' : Nat} (h : WalkTo T k m) (h' : WalkTo T l m') {i : Nat} (hi : i ≤ m) (hi32 : i ≤ 32) (hc : 4 * i ≤ com k l) : i ≤ m' ∧ pathN k i = pathN l i := by
  have hb := (com_ge (a := k) (b := l) (n := 4 * i) (by omega)).1 hc
  have hp : ∀ u, u ≤ i → pathN k u = pathN l u := fun u hu => path_eq.2 fun s hs => (nib_same hk hl (by omega)).2 fun j _ h2 => hb j (by omega)
  refine ⟨?_, hp i (Nat.le_refl _)⟩
  rcases Nat.lt_or_ge m' i with hlt | hge
  · exfalso
    refine h'.off ?_
    rw [← hp (m' + 1) (by omega)]
    exact h.on (m' + 1) (by omega)
  · exact hge
theorem along_old {T : Tr} {k : Nat → Nat} {w : List Nat} : ∀ s, w ∈ (T.along k s).ws → w ∈ T.ws ∨ ∃ u, u ≤ s ∧ w = pathN k u
  | 0, h => .inl h
  | s + 1, h => by
    have h2 : w ∈ ((T.along k s).step (pathN k (s + 1))).ws := h
    unfold Tr.step at h2
    split at h2
    · rcases along_old s h2 with h3 | ⟨u, h3, h4⟩
      · exact .inl h3
      · exact .inr ⟨u, by omega, h4⟩
    · rcases List.mem_append.1 (show w ∈ (T.along k s).ws ++ [pathN k (s + 1)] from h2) with h3 | h3
      · rcases along_old s h3 with h3 | ⟨u, h3, h4⟩
        · exact .inl h3
        · exact .inr ⟨u, by omega, h4⟩
      · exact .inr ⟨s + 1, Nat.le_refl _, by simpa using h3⟩
theorem adds_old {bits : Int} {w : List Nat} : ∀ (l : List Rt) (T : Tr), w ∈ (Tr.adds bits T l).ws → w ∈ T.ws ∨ ∃ r ∈ l, r.pre.bits = bits ∧ ∃ s, s ≤ lastN r ∧ w = pathN r.pre.key s
  | [], T, h => .inl h
  | r :: l, T, h => by
    unfold Tr.adds at h
    rcases adds_old l _ h with h1 | ⟨q, h1, h2, h3⟩
    · by_cases hb : r.pre.bits = bits
      · rw [if_pos hb] at h1
        rcases along_old (T := T) (k := r.pre.key) (lastN r) h1 with h4 | ⟨u, h4, h5⟩
        · exact .inl h4
        · exact .inr ⟨r, by simp, hb, u, h4, h5⟩
      · rw [if_neg hb] at h1; exact .inl h1
    · exact .inr ⟨q, by simp [h1], h2, h3⟩
/-- Each node but the first is on the way of some route's key. -/
theorem way_of {t : List Rt} {bits : Int} {w : List Nat} (h : w ∈ (treeL t bits).ws) : w = [] ∨ ∃ r ∈ t, r.pre.bits = bits ∧ ∃ s, s ≤ lastN r ∧ w = pathN r.pre.key s := by
  rcases adds_old t tr0 h with h1 | h1
  · exact .inl (by simpa [tr0] using h1)
  · exact .inr h1
theorem route_reaches {t : List Rt} {bits : Int} {r : Rt} (hr : r ∈ t) (hb : r.pre.bits = bits) {m s : Nat} (h : WalkTo (treeL t bits) r.pre.key m) (hs : s ≤ lastN r) : s ≤ m := by
  rcases Nat.lt_or_ge m s with hlt | hge
  · exact absurd (tree_way hr hb (by omega)) h.off
  · exact hge
/-- Whoever has marked the first node and all on the routes' ways has marked every one. -/
theorem all_on {t : List Rt} {bits : Int} (on : Nat → Prop) (h0 : on 0) (hon : ∀ r ∈ t, r.pre.bits = bits → ∃ m, WalkTo (treeL t bits) r.pre.key m ∧ ∀ x ∈ wayN (treeL t bits) r.pre.key m, on x) {n : Nat} (hn : n < (treeL t bits).ws.length) : on n := by
  have hok : (treeL t bits).Ok := Tr.adds_ok bits t tr0 tr0_ok
  obtain ⟨w, hw⟩ : ∃ w, (treeL t bits).ws[n]? = some w := ⟨_, List.getElem?_eq_getElem hn⟩
  have hi := idx_at hok.nodup hw
  rcases way_of (List.mem_of_getElem? hw) with rfl | ⟨r, hr, hb, s, hs, rfl⟩
  · have := idx_at hok.nodup hok.root
    rw [hi] at this
    rw [this]; exact h0
  · obtain ⟨m, hm, hx⟩ := hon r hr hb
    have hsm := route_reaches hr hb hm hs
    refine hx n ?_
    rw [← hi]
    exact List.mem_of_getElem? (wayN_at (treeL t bits) r.pre.key hsm)
/-- A route's own key may be walked. -/
theorem own_whole {r : Rt} (hm : mayB r.pre = true) : mayB (wholeP r.pre.key r.pre.bits) = true := by
  obtain ⟨h1, h2, h3, h4⟩ := (mayB_iff r.pre r.hk).1 hm
  exact (mayB_iff (wholeP r.pre.key r.pre.bits) r.hk).2 ⟨h1, by show (0 : Int) ≤ r.pre.bits; omega, Int.le_refl _, fun j h5 h6 => h4 j (by have h7 : r.pre.bits ≤ (j : Int) := h5; omega) h6⟩
/-- A key that is cut to itself may be walked. -/
theorem cut_whole {k : Nat → Nat} (hk : Bytes16 k) {bits : Int} (hb : bits = 32 ∨ bits = 128) (h : keyEq (cutB k bits.toNat) k = true) : mayB (wholeP k bits) = true := by
  refine (mayB_iff (wholeP k bits) hk).2 ⟨hb, by show (0 : Int) ≤ bits; omega, Int.le_refl _, fun j h5 h6 => ?_⟩
  have h7 : bits ≤ (j : Int) := h5
  exact (endsB_iff hk bits.toNat).1 h j (by omega) h6
end Go.Proofs.Ytggjcjijoihilaa
