/- How deep a table's trie is, and how many nodes it has. -/
import Derived.Test.YtggjcjijoihilaaTrieDeep
namespace Go.Proofs.Ytggjcjijoihilaa

theorem idx_deep {T : Tr} (h : T.Ok) : ∀ (n : Nat) (w : List Nat), w.length = n → w ∈ T.ws → n ≤ idx0 T.ws w := by
  intro n
  induction n with
  | zero => intro w _ _; exact Nat.zero_le _
  | succ n ih =>
    intro w hw hm
    rcases snoc_cases w with rfl | ⟨p, c, rfl⟩
    · simp at hw
    · have hp := h.pre p c hm
      have h1 := ih p (by simpa using hw) hp
      have h2 := h.ord _ _ p c (at_idx hp) (at_idx hm)
      omega
theorem way_few {T : Tr} (h : T.Ok) {w : List Nat} (hm : w ∈ T.ws) : w.length + 1 ≤ T.ws.length := by
  have h1 := idx_deep h w.length w rfl hm
  have h2 := idx_lt hm
  omega
def maxL (d : Nat) (xs : List Nat) : Nat := xs.foldl max d
theorem maxL_le {xs : List Nat} : ∀ {d e : Nat}, maxL d xs ≤ e ↔ d ≤ e ∧ ∀ x ∈ xs, x ≤ e := by
  induction xs with
  | nil => intro d e; simp [maxL]
  | cons x xs ih =>
    intro d e
    show maxL (max d x) xs ≤ e ↔ _
    rw [ih]
    constructor
    · rintro ⟨h1, h2⟩
      refine ⟨by omega, fun y hy => ?_⟩
      rcases List.mem_cons.1 hy with rfl | hy
      · omega
      · exact h2 y hy
    · rintro ⟨h1, h2⟩
      have h3 := h2 x (by simp)
      exact ⟨by omega, fun y hy => h2 y (List.mem_cons_of_mem _ hy)⟩
/-- At so many steps its last node is. -/
structure DeepIs (T : Tr) (d : Nat) : Prop where
  all : ∀ w ∈ T.ws, w.length + 1 ≤ d
  one : ∃ w ∈ T.ws, w.length + 1 = d
theorem DeepIs.deep {T : Tr} {d : Nat} (h : DeepIs T d) : deepL T = d := by
  have h1 : maxL 0 (depths T) ≤ d := maxL_le.2 ⟨Nat.zero_le _, fun x hx => by
    unfold depths at hx
    obtain ⟨w, hw, rfl⟩ := List.mem_map.1 hx
    exact h.all w hw⟩
  obtain ⟨w, hw, e⟩ := h.one
  have h2 := (maxL_le.1 (Nat.le_refl (maxL 0 (depths T)))).2 (w.length + 1) (by unfold depths; exact List.mem_map.2 ⟨w, hw, rfl⟩)
  show maxL 0 (depths T) = d
  omega
theorem step_mono (T : Tr) (v : List Nat) {w : List Nat} (h : w ∈ T.ws) : w ∈ (T.step v).ws := (T.step_mem v).2 w h
theorem along_keep (T : Tr) (k : Nat → Nat) {w : List Nat} (h : w ∈ T.ws) : ∀ s, w ∈ (T.along k s).ws
  | 0 => h
  | s + 1 => step_mono _ _ (along_keep T k h s)
theorem along_ways (T : Tr) (k : Nat → Nat) : ∀ s, ∀ w ∈ (T.along k s).ws, w ∈ T.ws ∨ w.length ≤ s
  | 0, w, h => .inl h
  | s + 1, w, h => by
    have h2 : w ∈ ((T.along k s).step (pathN k (s + 1))).ws := h
    unfold Tr.step at h2
    split at h2
    · rcases along_ways T k s w h2 with h3 | h3
      · exact .inl h3
      · exact .inr (by omega)
    · rcases List.mem_append.1 h2 with h3 | h3
      · rcases along_ways T k s w h3 with h4 | h4
        · exact .inl h4
        · exact .inr (by omega)
      · rw [List.mem_singleton.1 h3, pathN_length]; exact .inr (Nat.le_refl _)
theorem along_few (T : Tr) (k : Nat → Nat) : ∀ s, (T.along k s).ws.length ≤ T.ws.length + s
  | 0 => Nat.le_refl _
  | s + 1 => by
    have ih := along_few T k s
    show ((T.along k s).step (pathN k (s + 1))).ws.length ≤ _
    unfold Tr.step
    split
    · omega
    · simp [Tr.grow]; omega
theorem addR_deep {T : Tr} {d : Nat} (hT : T.Ok) (h : DeepIs T d) (r : Rt) : DeepIs (T.addR r) (max d (lastN r + 1)) := by
  refine ⟨fun w hw => ?_, ?_⟩
  · rcases along_ways T r.pre.key (lastN r) w hw with h1 | h1
    · have := h.all w h1; omega
    · omega
  · by_cases e : lastN r + 1 ≤ d
    · obtain ⟨w, hw, e2⟩ := h.one
      exact ⟨w, along_keep T r.pre.key hw (lastN r), by omega⟩
    · exact ⟨pathN r.pre.key (lastN r), (hT.along r.pre.key (lastN r)).2, by rw [pathN_length]; omega⟩
def stepsR (r : Rt) : Nat := lastN r + 1
def deepA (bits : Int) : Nat → List Rt → Nat
  | d, [] => d
  | d, r :: l => deepA bits (if r.pre.bits = bits then max d (stepsR r) else d) l
def allA (bits : Int) : Nat → List Rt → Nat
  | n, [] => n
  | n, r :: l => allA bits (if r.pre.bits = bits then n + (stepsR r - 1) else n) l
theorem deepA_snoc (bits : Int) (l : List Rt) (r : Rt) : ∀ d, deepA bits d (l ++ [r]) = if r.pre.bits = bits then max (deepA bits d l) (stepsR r) else deepA bits d l := by
  induction l with
  | nil => intro d; rfl
  | cons x l ih => intro d; exact ih _
theorem allA_snoc (bits : Int) (l : List Rt) (r : Rt) : ∀ d, allA bits d (l ++ [r]) = if r.pre.bits = bits then allA bits d l + (stepsR r - 1) else allA bits d l := by
  induction l with
  | nil => intro d; rfl
  | cons x l ih => intro d; exact ih _
theorem adds_deep (bits : Int) (l : List Rt) : ∀ (T : Tr) (d : Nat), T.Ok → DeepIs T d → DeepIs (Tr.adds bits T l) (deepA bits d l) := by
  induction l with
  | nil => intro T d _ h; exact h
  | cons r l ih =>
    intro T d hT h
    unfold Tr.adds deepA
    by_cases e : r.pre.bits = bits
    · rw [if_pos e, if_pos e]; exact ih _ _ (hT.addR r) (addR_deep hT h r)
    · rw [if_neg e, if_neg e]; exact ih _ _ hT h
theorem adds_few (bits : Int) (l : List Rt) : ∀ (T : Tr) (n : Nat), T.ws.length ≤ n → (Tr.adds bits T l).ws.length ≤ allA bits n l := by
  induction l with
  | nil => intro T n h; exact h
  | cons r l ih =>
    intro T n h
    unfold Tr.adds allA
    by_cases e : r.pre.bits = bits
    · rw [if_pos e, if_pos e]
      refine ih _ _ ?_
      have h1 := along_few T r.pre.key (lastN r)
      show (T.along r.pre.key (lastN r)).ws.length ≤ n + (stepsR r - 1)
      unfold stepsR; omega
    · rw [if_neg e, if_neg e]; exact ih _ _ h
/-- A table's trie: as deep as its longest route needs, and with as many nodes at most as all its routes' steps, and one. -/
theorem tree_deep (t : List Rt) (bits : Int) : deepL (treeL t bits) = deepA bits 1 t ∧ (treeL t bits).ws.length ≤ allA bits 1 t ∧ deepA bits 1 t ≤ (treeL t bits).ws.length := by
  have h0 : DeepIs tr0 1 := ⟨fun w hw => by simp [tr0] at hw; rw [hw]; simp, [], by simp [tr0], rfl⟩
  have h := adds_deep bits t tr0 1 tr0_ok h0
  refine ⟨h.deep, adds_few bits t tr0 1 (by simp [tr0]), ?_⟩
  obtain ⟨w, hw, e⟩ := h.one
  rw [← e]
  exact way_few (Tr.adds_ok bits t tr0 tr0_ok) hw
theorem deepA_few (bits : Int) (l : List Rt) (c : Nat) (hl : ∀ r ∈ l, r.pre.bits = bits → stepsR r ≤ c) : ∀ d, d ≤ c → deepA bits d l ≤ c := by
  induction l with
  | nil => intro d h; exact h
  | cons r l ih =>
    intro d h
    unfold deepA
    refine ih (fun s hs => hl s (List.mem_cons_of_mem _ hs)) _ ?_
    split
    · rename_i e; have := hl r (by simp) e; omega
    · exact h
theorem allA_few (bits : Int) (l : List Rt) (c : Nat) (hl : ∀ r ∈ l, r.pre.bits = bits → stepsR r ≤ c) : ∀ n, allA bits n l ≤ n + l.length * c := by
  induction l with
  | nil => intro n; simp [allA]
  | cons r l ih =>
    intro n
    unfold allA
    refine Nat.le_trans (ih (fun s hs => hl s (List.mem_cons_of_mem _ hs)) _) ?_
    rw [List.length_cons, Nat.add_mul, Nat.one_mul]
    split
    · rename_i e; have := hl r (by simp) e; omega
    · omega
end Go.Proofs.Ytggjcjijoihilaa
