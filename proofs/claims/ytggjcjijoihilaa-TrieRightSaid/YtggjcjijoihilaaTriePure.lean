/- Tries, plainly: which ways there are, what stands at each, and how a route is put in. -/
import Derived.Test.YtggjcjijoihilaaTrieNext
namespace Go.Proofs.Ytggjcjijoihilaa

/-! ### Ways -/
def nib (k : Nat → Nat) (s : Nat) : Nat := if s % 2 = 0 then k (s / 2) / 16 else k (s / 2) % 16
theorem nib_lt {k : Nat → Nat} (hk : Bytes16 k) (s : Nat) : nib k s < 16 := by
  unfold nib
  have := hk (s / 2)
  split <;> omega
theorem stepZ_nib (k : Nat → Nat) {s : Nat} (h : s < 32) : stepZ k s = (nib k s : Nat) := by
  unfold stepZ nib
  rw [if_pos (by omega), Int.toNat_natCast]
def pathN (k : Nat → Nat) (s : Nat) : List Nat := (List.range s).map (nib k)
theorem pathN_succ (k : Nat → Nat) (s : Nat) : pathN k (s + 1) = pathN k s ++ [nib k s] := by
  unfold pathN; rw [List.range_succ, List.map_append]; rfl
theorem pathN_length (k : Nat → Nat) (s : Nat) : (pathN k s).length = s := by simp [pathN]

/-- The number of a way; 0: there is none (nobody names the first one). -/
def idx0 (ws : List (List Nat)) (w : List Nat) : Nat := if w ∈ ws then ws.idxOf w else 0

/-- A trie: its ways in the order of their numbers, and what stands at each. -/
structure Tr where
  ws : List (List Nat)
  sl : List Nat → Nat → Nat × Nat
def Tr.node (T : Tr) (w : List Nat) : Nd := ⟨T.sl w, fun b => idx0 T.ws (w ++ [b])⟩
def Tr.nodes (T : Tr) : List Nd := T.ws.map T.node
theorem Tr.nodes_length (T : Tr) : T.nodes.length = T.ws.length := by simp [Tr.nodes]
theorem Tr.nodes_at (T : Tr) {i : Nat} {w : List Nat} (h : T.ws[i]? = some w) : T.nodes[i]? = some (T.node w) := by
  unfold Tr.nodes; rw [List.getElem?_map, h]; rfl

structure Tr.Ok (T : Tr) : Prop where
  root : T.ws[0]? = some []
  nodup : T.ws.Nodup
  pre : ∀ w b, w ++ [b] ∈ T.ws → w ∈ T.ws
  ord : ∀ (i j : Nat) (w : List Nat) (b : Nat), T.ws[i]? = some w → T.ws[j]? = some (w ++ [b]) → i < j
  bare : ∀ w, w ∉ T.ws → T.sl w = fun _ => (0, 0)

theorem idx_at {ws : List (List Nat)} (h : ws.Nodup) {i : Nat} {w : List Nat} (hi : ws[i]? = some w) : idx0 ws w = i := by
  have hm := List.mem_of_getElem? hi
  unfold idx0
  rw [if_pos hm]
  have h2 : ws.idxOf w < ws.length := List.idxOf_lt_length_iff.2 hm
  have h3 : ws[ws.idxOf w]? = some w := by rw [List.getElem?_eq_getElem h2, List.getElem_idxOf]
  obtain ⟨hl, hg⟩ := List.getElem?_eq_some_iff.1 hi
  obtain ⟨hl3, hg3⟩ := List.getElem?_eq_some_iff.1 h3
  have hp := List.pairwise_iff_getElem.1 h
  rcases Nat.lt_trichotomy (ws.idxOf w) i with h4 | h4 | h4
  · exact absurd (hg3.trans hg.symm) (hp _ _ hl3 hl h4)
  · exact h4
  · exact absurd (hg.trans hg3.symm) (hp _ _ hl hl3 h4)
theorem at_idx {ws : List (List Nat)} {w : List Nat} (hm : w ∈ ws) : ws[idx0 ws w]? = some w := by
  unfold idx0
  rw [if_pos hm]
  have h2 : ws.idxOf w < ws.length := List.idxOf_lt_length_iff.2 hm
  rw [List.getElem?_eq_getElem h2, List.getElem_idxOf]
theorem idx_lt {ws : List (List Nat)} {w : List Nat} (hm : w ∈ ws) : idx0 ws w < ws.length := (List.getElem?_eq_some_iff.1 (at_idx hm)).1
theorem Tr.Ok.pos {T : Tr} (h : T.Ok) : 0 < T.ws.length := (List.getElem?_eq_some_iff.1 h.root).1
theorem Tr.Ok.mem {T : Tr} (h : T.Ok) : [] ∈ T.ws := List.mem_of_getElem? h.root
/-- Who is named is no first node. -/
theorem Tr.Ok.zero {T : Tr} (h : T.Ok) (w : List Nat) (b : Nat) : idx0 T.ws (w ++ [b]) = 0 ↔ w ++ [b] ∉ T.ws := by
  constructor
  · intro e hm
    have h1 := at_idx hm
    rw [e, h.root] at h1
    simp at h1
  · intro hn; unfold idx0; rw [if_neg hn]

/-! ### A way more -/
def Tr.grow (T : Tr) (v : List Nat) : Tr := ⟨T.ws ++ [v], T.sl⟩
theorem idx_snoc {ws : List (List Nat)} {v : List Nat} (hv : v ∉ ws) (u : List Nat) : idx0 (ws ++ [v]) u = if u = v then ws.length else idx0 ws u := by
  unfold idx0
  by_cases e : u = v
  · subst e
    rw [if_pos (by simp), if_pos rfl, List.idxOf_append, if_neg hv]; simp
  · rw [if_neg e]
    by_cases hm : u ∈ ws
    · rw [if_pos (by simp [hm]), if_pos hm, List.idxOf_append, if_pos hm]
    · rw [if_neg (by simp [hm, e]), if_neg hm]
theorem Tr.Ok.grow {T : Tr} (h : T.Ok) {w : List Nat} {b : Nat} (hw : w ∈ T.ws) (hv : w ++ [b] ∉ T.ws) : (T.grow (w ++ [b])).Ok := by
  have hlt := h.pos
  refine ⟨?_, ?_, ?_, ?_, ?_⟩
  · show (T.ws ++ [w ++ [b]])[0]? = _
    rw [List.getElem?_append_left hlt]; exact h.root
  · show (T.ws ++ [w ++ [b]]).Nodup
    rw [List.nodup_append]
    exact ⟨h.nodup, by simp, fun x hx y hy e => by simp at hy; subst hy; subst e; exact hv hx⟩
  · intro u c hm
    rcases List.mem_append.1 hm with hm | hm
    · exact List.mem_append.2 (.inl (h.pre u c hm))
    · have := List.append_inj' (List.mem_singleton.1 hm) rfl
      rw [this.1]
      exact List.mem_append.2 (.inl hw)
  · intro i j u c hi hj
    have hj2 : (T.ws ++ [w ++ [b]])[j]? = some (u ++ [c]) := hj
    have hi2 : (T.ws ++ [w ++ [b]])[i]? = some u := hi
    by_cases hjl : j < T.ws.length
    · rw [List.getElem?_append_left hjl] at hj2
      by_cases hil : i < T.ws.length
      · rw [List.getElem?_append_left hil] at hi2
        exact h.ord i j u c hi2 hj2
      · have hu := h.pre u c (List.mem_of_getElem? hj2)
        have hi3 : i = T.ws.length := by
          have := (List.getElem?_eq_some_iff.1 hi2).1
          simp at this; omega
        rw [hi3, List.getElem?_append_right (Nat.le_refl _)] at hi2
        simp at hi2
        rw [← hi2] at hu
        exact absurd hu hv
    · have : j = T.ws.length := by
        have := (List.getElem?_eq_some_iff.1 hj2).1
        simp at this; omega
      by_cases hil : i < T.ws.length
      · omega
      · exfalso
        have hi3 : i = T.ws.length := by
          have := (List.getElem?_eq_some_iff.1 hi2).1
          simp at this; omega
        rw [this, List.getElem?_append_right (Nat.le_refl _)] at hj2
        rw [hi3, List.getElem?_append_right (Nat.le_refl _)] at hi2
        rw [Nat.sub_self] at hi2 hj2
        have l1 := congrArg List.length (Option.some.inj hi2)
        have l2 := congrArg List.length (Option.some.inj hj2)
        simp at l1 l2
        omega
  · intro u hu
    exact h.bare u fun hm => hu (List.mem_append.2 (.inl hm))
theorem Tr.Ok.grow_nodes {T : Tr} (h : T.Ok) {w : List Nat} {b i : Nat} (hi : T.ws[i]? = some w) (hv : w ++ [b] ∉ T.ws) : (T.grow (w ++ [b])).nodes = T.nodes.set i ((T.node w).setNx b T.ws.length) ++ [nd0] := by
  have hlt := (List.getElem?_eq_some_iff.1 hi).1
  apply List.ext_getElem?
  intro j
  have hL : (T.grow (w ++ [b])).nodes[j]? = ((T.ws ++ [w ++ [b]])[j]?).map (T.grow (w ++ [b])).node := by unfold Tr.nodes; rw [List.getElem?_map]; rfl
  rw [hL]
  by_cases hj : j < T.ws.length
  · rw [List.getElem?_append_left hj, List.getElem?_append_left (by rw [List.length_set, T.nodes_length]; exact hj), List.getElem?_set, T.nodes_length]
    obtain ⟨u, hu⟩ : ∃ u, T.ws[j]? = some u := ⟨_, List.getElem?_eq_getElem hj⟩
    rw [T.nodes_at hu, hu]
    by_cases e : i = j
    · subst e
      rw [hi] at hu
      simp only [Option.some.injEq] at hu
      subst hu
      rw [if_pos rfl, if_pos hj]
      simp only [Option.map_some, Option.some.injEq]
      unfold Tr.node Nd.setNx Tr.grow
      simp only [Nd.mk.injEq, true_and]
      funext c
      rw [idx_snoc hv]
      by_cases hc : c = b
      · rw [hc, if_pos rfl, if_pos rfl]
      · rw [if_neg hc, if_neg (fun e => hc (by have := List.append_inj' e rfl; simpa using this.2))]
    · rw [if_neg e]
      simp only [Option.map_some, Option.some.injEq]
      unfold Tr.node Tr.grow
      simp only [Nd.mk.injEq, true_and]
      funext c
      rw [idx_snoc hv, if_neg]
      intro e2
      have := (List.append_inj' e2 rfl).1
      subst this
      have h1 := idx_at h.nodup hi
      have h2 := idx_at h.nodup hu
      exact e (h1.symm.trans h2)
  · by_cases hj2 : j = T.ws.length
    · subst hj2
      rw [List.getElem?_append_right (Nat.le_refl _), List.getElem?_append_right (by rw [List.length_set, T.nodes_length]; exact Nat.le_refl _), List.length_set, T.nodes_length, Nat.sub_self]
      simp only [List.getElem?_cons_zero, Option.map_some, Option.some.injEq]
      unfold Tr.node Tr.grow nd0
      rw [Nd.mk.injEq]
      refine ⟨h.bare _ hv, ?_⟩
      funext c
      unfold idx0
      rw [if_neg]
      intro hm
      rcases List.mem_append.1 hm with hm | hm
      · exact hv (h.pre _ _ hm)
      · have := congrArg List.length (List.mem_singleton.1 hm)
        simp at this
    · rw [List.getElem?_eq_none (by simp; omega), List.getElem?_eq_none (by simp [T.nodes_length]; omega)]
      rfl

def Tr.step (T : Tr) (v : List Nat) : Tr := if v ∈ T.ws then T else T.grow v
theorem Tr.step_length (T : Tr) (v : List Nat) : T.ws.length ≤ (T.step v).ws.length := by
  unfold Tr.step; split
  · exact Nat.le_refl _
  · simp [Tr.grow]
theorem Tr.step_mem (T : Tr) (v : List Nat) : v ∈ (T.step v).ws ∧ ∀ u ∈ T.ws, u ∈ (T.step v).ws := by
  unfold Tr.step
  split
  · rename_i h; exact ⟨h, fun u hu => hu⟩
  · exact ⟨by simp [Tr.grow], fun u hu => by simp [Tr.grow, hu]⟩
theorem Tr.Ok.step {T : Tr} (h : T.Ok) {w : List Nat} (hw : w ∈ T.ws) (b : Nat) : (T.step (w ++ [b])).Ok := by
  unfold Tr.step
  split
  · exact h
  · rename_i hv; exact h.grow hw hv
/-- What the builder's 'next' does to a trie. -/
theorem Tr.Ok.next {T : Tr} (h : T.Ok) {w : List Nat} {b : Nat} (hw : w ∈ T.ws) (hl : T.ws.length ≤ 512) :
    (nextL T.nodes (idx0 T.ws w) b = if (T.step (w ++ [b])).ws.length ≤ 512 then ((T.step (w ++ [b])).nodes, idx0 (T.step (w ++ [b])).ws (w ++ [b])) else (T.nodes, 0)) ∧
    ((T.step (w ++ [b])).ws.length ≤ 512 → idx0 (T.step (w ++ [b])).ws (w ++ [b]) ≠ 0) := by
  have hi := at_idx hw
  have hg : T.nodes.getD (idx0 T.ws w) nd0 = T.node w := by rw [List.getD_eq_getElem?_getD, T.nodes_at hi]; rfl
  have hnx : (T.node w).nx b = idx0 T.ws (w ++ [b]) := rfl
  unfold nextL
  rw [hg, hnx, T.nodes_length]
  by_cases hm : w ++ [b] ∈ T.ws
  · have hz : ¬ idx0 T.ws (w ++ [b]) = 0 := fun e => ((h.zero w b).1 e) hm
    have hs : T.step (w ++ [b]) = T := by unfold Tr.step; rw [if_pos hm]
    rw [hs, if_neg (fun e => hz e.1), if_pos hl]
    exact ⟨rfl, fun _ => hz⟩
  · have hz := (h.zero w b).2 hm
    have hs : T.step (w ++ [b]) = T.grow (w ++ [b]) := by unfold Tr.step; rw [if_neg hm]
    have hL : (T.grow (w ++ [b])).ws.length = T.ws.length + 1 := by simp [Tr.grow]
    have hx : idx0 (T.grow (w ++ [b])).ws (w ++ [b]) = T.ws.length := by show idx0 (T.ws ++ [w ++ [b]]) _ = _; rw [idx_snoc hm, if_pos rfl]
    rw [hs, hL, hx]
    have hp := h.pos
    by_cases h5 : T.ws.length < 512
    · rw [if_pos ⟨hz, h5⟩, if_pos (by omega), h.grow_nodes hi hm]
      exact ⟨rfl, fun _ => by omega⟩
    · rw [if_neg (fun e => h5 e.2), if_neg (by omega), hz]
      exact ⟨rfl, fun h6 => by omega⟩

/-! ### A route put in -/
def Tr.along (T : Tr) (k : Nat → Nat) : Nat → Tr
  | 0 => T
  | s + 1 => (T.along k s).step (pathN k (s + 1))
theorem Tr.Ok.along {T : Tr} (h : T.Ok) (k : Nat → Nat) (s : Nat) : (T.along k s).Ok ∧ pathN k s ∈ (T.along k s).ws := by
  induction s with
  | zero => exact ⟨h, h.mem⟩
  | succ s ih =>
    refine ⟨?_, ((T.along k s).step_mem _).1⟩
    show ((T.along k s).step (pathN k (s + 1))).Ok
    rw [pathN_succ]
    exact ih.1.step ih.2 _
theorem Tr.along_mono (T : Tr) (k : Nat → Nat) {s u : Nat} (h : s ≤ u) : (T.along k s).ws.length ≤ (T.along k u).ws.length := by
  obtain ⟨d, rfl⟩ : ∃ d, u = s + d := ⟨u - s, by omega⟩
  induction d with
  | zero => exact Nat.le_refl _
  | succ d ih => exact Nat.le_trans (ih (by omega)) (Tr.step_length _ _)
def Tr.put (T : Tr) (w : List Nat) (f c : Nat) (x : Nat × Nat) : Tr := ⟨T.ws, fun u b => if u = w ∧ f ≤ b ∧ b < f + c then x else T.sl u b⟩
theorem Tr.Ok.put {T : Tr} (h : T.Ok) {w : List Nat} (hw : w ∈ T.ws) (f c : Nat) (x : Nat × Nat) : (T.put w f c x).Ok :=
  ⟨h.root, h.nodup, h.pre, h.ord, fun u hu => by
    have hu2 : u ∉ T.ws := hu
    funext b
    show (if u = w ∧ f ≤ b ∧ b < f + c then x else T.sl u b) = (0, 0)
    have hne : ¬ (u = w ∧ f ≤ b ∧ b < f + c) := fun e => hu2 (e.1 ▸ hw)
    rw [if_neg hne, h.bare u hu2]⟩
theorem Tr.put_zero (T : Tr) (w : List Nat) (f : Nat) (x : Nat × Nat) : T.put w f 0 x = T := by
  cases T
  unfold Tr.put
  simp only [Tr.mk.injEq, true_and]
  funext u b
  rw [if_neg (by omega)]
theorem Tr.Ok.put_nodes {T : Tr} (h : T.Ok) {w : List Nat} {i : Nat} (hi : T.ws[i]? = some w) (f c : Nat) (x : Nat × Nat) : (T.put w f (c + 1) x).nodes = (T.put w f c x).nodes.set i (((T.put w f c x).node w).setSl (f + c) x) := by
  have hlt := (List.getElem?_eq_some_iff.1 hi).1
  apply List.ext_getElem?
  intro j
  rw [List.getElem?_set, Tr.nodes_length]
  show ((T.ws.map (T.put w f (c + 1) x).node))[j]? = if i = j then (if i < T.ws.length then _ else none) else (T.ws.map (T.put w f c x).node)[j]?
  rw [List.getElem?_map, List.getElem?_map]
  by_cases e : i = j
  · subst e
    rw [if_pos rfl, if_pos hlt, hi]
    simp only [Option.map_some, Option.some.injEq]
    unfold Tr.node Nd.setSl Tr.put
    simp only [Nd.mk.injEq, and_true, true_and]
    funext b
    by_cases hb : b = f + c
    · rw [if_pos (by omega), if_pos hb]
    · rw [if_neg hb]
      by_cases h2 : f ≤ b ∧ b < f + c
      · rw [if_pos (by omega), if_pos h2]
      · rw [if_neg (by omega), if_neg h2]
  · rw [if_neg e]
    cases hu : T.ws[j]? with
    | none => rfl
    | some u =>
      simp only [Option.map_some, Option.some.injEq]
      have hne : ¬ u = w := fun e2 => by
        subst e2
        exact e ((idx_at h.nodup hi).symm.trans (idx_at h.nodup hu))
      unfold Tr.node Tr.put
      simp only [Nd.mk.injEq, and_true]
      funext b
      rw [if_neg (fun e2 => hne e2.1), if_neg (fun e2 => hne e2.1)]

def lastN (r : Rt) : Nat := (r.pre.len.toNat - 1) / 4
def manyN (r : Rt) : Nat := 2 ^ (4 * (lastN r + 1) - r.pre.len.toNat)
def Tr.addR (T : Tr) (r : Rt) : Tr := (T.along r.pre.key (lastN r)).put (pathN r.pre.key (lastN r)) (nib r.pre.key (lastN r)) (manyN r) (r.pre.len.toNat + 1, r.hop)
theorem Tr.Ok.addR {T : Tr} (h : T.Ok) (r : Rt) : (T.addR r).Ok := (h.along r.pre.key (lastN r)).1.put (h.along r.pre.key (lastN r)).2 _ _ _
theorem Tr.addR_length (T : Tr) (r : Rt) : T.ws.length ≤ (T.addR r).ws.length := T.along_mono r.pre.key (Nat.zero_le (lastN r))
def tr0 : Tr := ⟨[[]], fun _ _ => (0, 0)⟩
theorem tr0_ok : tr0.Ok := ⟨rfl, by simp [tr0], fun w b h => by simp [tr0] at h, fun i j w b _ hj => by
  have hm := List.mem_of_getElem? hj
  simp [tr0] at hm, fun _ _ => rfl⟩
theorem tr0_nodes : tr0.nodes = [nd0] := by
  unfold Tr.nodes tr0 Tr.node idx0 nd0
  simp
/-- The trie of a table's routes of so many bits. -/
def Tr.adds (bits : Int) : Tr → List Rt → Tr
  | T, [] => T
  | T, r :: l => Tr.adds bits (if r.pre.bits = bits then T.addR r else T) l
theorem Tr.adds_length (bits : Int) (l : List Rt) : ∀ T : Tr, T.ws.length ≤ (Tr.adds bits T l).ws.length := by
  induction l with
  | nil => intro T; exact Nat.le_refl _
  | cons r l ih =>
    intro T
    unfold Tr.adds
    refine Nat.le_trans ?_ (ih _)
    split
    · exact T.addR_length r
    · exact Nat.le_refl _
theorem Tr.adds_ok (bits : Int) (l : List Rt) : ∀ T : Tr, T.Ok → (Tr.adds bits T l).Ok := by
  induction l with
  | nil => intro T h; exact h
  | cons r l ih =>
    intro T h
    unfold Tr.adds
    refine ih _ ?_
    split
    · exact h.addR r
    · exact h
end Go.Proofs.Ytggjcjijoihilaa
