/- At how many steps nodes are, plainly; and what a table's trie keeps to. -/
import Derived.Test.YtggjcjijoihilaaTrieHold
namespace Go.Proofs.Ytggjcjijoihilaa
open Go.RowKit Go.Sort Go.Shelf

/-- What stands for a way when all nodes of lesser numbers were gone through, and of this one so many. -/
def avR (ws : List (List Nat)) (i b : Nat) : List Nat → Nat
  | [] => 1
  | c :: p => if idx0 ws p.reverse < i ∨ (idx0 ws p.reverse = i ∧ c < b) then p.length + 2 else 0
def av (ws : List (List Nat)) (i b : Nat) (w : List Nat) : Nat := avR ws i b w.reverse
theorem av_nil (ws : List (List Nat)) (i b : Nat) : av ws i b [] = 1 := rfl
theorem av_snoc (ws : List (List Nat)) (i b : Nat) (p : List Nat) (c : Nat) : av ws i b (p ++ [c]) = if idx0 ws p < i ∨ (idx0 ws p = i ∧ c < b) then p.length + 2 else 0 := by
  unfold av
  rw [List.reverse_append]
  show (if idx0 ws p.reverse.reverse < i ∨ (idx0 ws p.reverse.reverse = i ∧ c < b) then p.reverse.length + 2 else 0) = _
  rw [List.reverse_reverse, List.length_reverse]
theorem snoc_cases (w : List Nat) : w = [] ∨ ∃ p c, w = p ++ [c] := by
  rcases List.eq_nil_or_concat w with h | ⟨p, c, h⟩
  · exact .inl h
  · exact .inr ⟨p, c, by rw [h, List.concat_eq_append]⟩
def rowA (ws : List (List Nat)) (i b : Nat) : List Nat := ws.map (av ws i b)
theorem rowA_length (ws : List (List Nat)) (i b : Nat) : (rowA ws i b).length = ws.length := by simp [rowA]
theorem rowA_at {ws : List (List Nat)} {j : Nat} {w : List Nat} (h : ws[j]? = some w) (i b : Nat) : (rowA ws i b)[j]? = some (av ws i b w) := by
  unfold rowA; rw [List.getElem?_map, h]; rfl
theorem av_own {T : Tr} (hT : T.Ok) {i : Nat} {w : List Nat} (h : T.ws[i]? = some w) (b : Nat) : av T.ws i b w = w.length + 1 := by
  rcases snoc_cases w with rfl | ⟨p, c, rfl⟩
  · rfl
  · have hp := hT.pre p c (List.mem_of_getElem? h)
    have := hT.ord _ _ p c (at_idx hp) h
    rw [av_snoc, if_pos (.inl this)]; simp
theorem av_step {T : Tr} {i : Nat} {w : List Nat} (h : T.ws[i]? = some w) (b : Nat) {u : List Nat} (hT : T.Ok) (hu : u ∈ T.ws) (hne : u ≠ w ++ [b]) : av T.ws i (b + 1) u = av T.ws i b u := by
  rcases snoc_cases u with rfl | ⟨p, c, rfl⟩
  · rfl
  · have hp := hT.pre p c hu
    rw [av_snoc, av_snoc]
    by_cases h1 : idx0 T.ws p < i
    · rw [if_pos (.inl h1), if_pos (.inl h1)]
    · by_cases h2 : idx0 T.ws p = i
      · have hpw : p = w := by
          have h3 := at_idx hp
          rw [h2, h] at h3
          exact (Option.some.inj h3).symm
        have hc : c ≠ b := fun e => hne (by rw [hpw, e])
        by_cases h4 : c < b
        · rw [if_pos (.inr ⟨h2, by omega⟩), if_pos (.inr ⟨h2, h4⟩)]
        · rw [if_neg (by omega), if_neg (by omega)]
      · rw [if_neg (by omega), if_neg (by omega)]
theorem rowA_miss {T : Tr} (hT : T.Ok) {i : Nat} {w : List Nat} (h : T.ws[i]? = some w) {b : Nat} (hn : w ++ [b] ∉ T.ws) : rowA T.ws i (b + 1) = rowA T.ws i b := by
  unfold rowA
  exact List.map_congr_left fun u hu => av_step h b hT hu (fun e => hn (e ▸ hu))
theorem rowA_hit {T : Tr} (hT : T.Ok) {i : Nat} {w : List Nat} (h : T.ws[i]? = some w) {b : Nat} (hm : w ++ [b] ∈ T.ws) :
    rowA T.ws i (b + 1) = (rowA T.ws i b).set (idx0 T.ws (w ++ [b])) (w.length + 2) ∧ (rowA T.ws i b)[idx0 T.ws (w ++ [b])]? = some 0 ∧ i < idx0 T.ws (w ++ [b]) ∧ idx0 T.ws (w ++ [b]) < T.ws.length := by
  have hj := at_idx hm
  have hi := idx_at hT.nodup h
  have hav : av T.ws i b (w ++ [b]) = 0 := by rw [av_snoc, hi, if_neg (by omega)]
  refine ⟨?_, by rw [rowA_at hj, hav], hT.ord _ _ w b h hj, idx_lt hm⟩
  apply List.ext_getElem?
  intro k
  rw [List.getElem?_set, rowA_length]
  by_cases e : idx0 T.ws (w ++ [b]) = k
  · rw [← e, if_pos rfl, if_pos (idx_lt hm), rowA_at hj, av_snoc, hi, if_pos (.inr ⟨rfl, by omega⟩)]
  · rw [if_neg e]
    cases hu : T.ws[k]? with
    | none => rw [List.getElem?_eq_none (by rw [rowA_length]; exact List.getElem?_eq_none_iff.1 hu), List.getElem?_eq_none (by rw [rowA_length]; exact List.getElem?_eq_none_iff.1 hu)]
    | some u =>
      rw [rowA_at hu, rowA_at hu, av_step h b hT (List.mem_of_getElem? hu)]
      intro e2
      subst e2
      exact e (idx_at hT.nodup hu)
/-- What a table's trie keeps to. -/
structure Tr.Fit (T : Tr) (d : Nat) : Prop where
  low : ∀ p c, p ++ [c] ∈ T.ws → c < 16
  deep : ∀ w ∈ T.ws, w.length + 1 ≤ d
  slot : ∀ w b, (T.sl w b).1 ≤ 4 * (w.length + 1) + 1
theorem rowA_next {T : Tr} {d : Nat} (hF : T.Fit d) (i : Nat) : rowA T.ws i 16 = rowA T.ws (i + 1) 0 := by
  unfold rowA
  refine List.map_congr_left fun u hu => ?_
  rcases snoc_cases u with rfl | ⟨p, c, rfl⟩
  · rfl
  · have := hF.low p c hu
    rw [av_snoc, av_snoc]
    by_cases h : idx0 T.ws p < i + 1
    · rw [if_pos (by omega), if_pos (.inl h)]
    · rw [if_neg (by omega), if_neg (by omega)]
def depths (T : Tr) : List Nat := T.ws.map fun w => w.length + 1
theorem rowA_end {T : Tr} (hT : T.Ok) : rowA T.ws T.ws.length 0 = depths T := by
  unfold rowA depths
  refine List.map_congr_left fun u hu => ?_
  rcases snoc_cases u with rfl | ⟨p, c, rfl⟩
  · rfl
  · rw [av_snoc, if_pos (.inl (idx_lt (hT.pre p c hu)))]; simp
theorem rowA_start {T : Tr} (hT : T.Ok) : rowA T.ws 0 0 = (List.replicate T.ws.length 0).set 0 1 := by
  apply List.ext_getElem?
  intro k
  rw [List.getElem?_set, List.length_replicate, List.getElem?_replicate]
  cases hu : T.ws[k]? with
  | none =>
    have hk := List.getElem?_eq_none_iff.1 hu
    have := hT.pos
    rw [List.getElem?_eq_none (by rw [rowA_length]; exact hk), if_neg (by omega), if_neg (by omega)]
  | some u =>
    have hk := (List.getElem?_eq_some_iff.1 hu).1
    rw [rowA_at hu]
    by_cases e : 0 = k
    · subst e
      rw [hT.root] at hu
      rw [if_pos rfl, if_pos hk, ← Option.some.inj hu]; rfl
    · rw [if_neg e, if_pos hk]
      rcases snoc_cases u with rfl | ⟨p, c, rfl⟩
      · exact absurd ((idx_at hT.nodup hT.root).symm.trans (idx_at hT.nodup hu)) e
      · rw [av_snoc, if_neg (by omega)]

/-! ### A table's trie keeps to it -/
theorem step_fit {T : Tr} {d : Nat} (h : T.Fit d) {w : List Nat} {b : Nat} (hb : b < 16) (hd : w.length + 2 ≤ d) : (T.step (w ++ [b])).Fit d := by
  unfold Tr.step
  split
  · exact h
  · refine ⟨fun p c hm => ?_, fun u hu => ?_, h.slot⟩
    · rcases List.mem_append.1 hm with hm | hm
      · exact h.low p c hm
      · have := (List.append_inj' (List.mem_singleton.1 hm) rfl).2
        simp at this; omega
    · rcases List.mem_append.1 hu with hu | hu
      · exact h.deep u hu
      · rw [List.mem_singleton.1 hu]; simp; omega
theorem along_fit {T : Tr} {d : Nat} (h : T.Fit d) {k : Nat → Nat} (hk : Bytes16 k) : ∀ s, s + 1 ≤ d → (T.along k s).Fit d
  | 0, _ => h
  | s + 1, hd => by
    show ((T.along k s).step (pathN k (s + 1))).Fit d
    rw [pathN_succ]
    exact step_fit (along_fit h hk s (by omega)) (nib_lt hk s) (by rw [pathN_length]; omega)
theorem addR_fit {T : Tr} {d : Nat} (h : T.Fit d) (r : Rt) (hd : lastN r + 1 ≤ d) : (T.addR r).Fit d := by
  have h1 := along_fit h r.hk (lastN r) hd
  refine ⟨h1.low, h1.deep, fun w b => ?_⟩
  show ((if w = _ ∧ _ then _ else _ : Nat × Nat)).1 ≤ _
  split
  · rename_i e
    rw [e.1, pathN_length]
    show r.pre.len.toNat + 1 ≤ _
    unfold lastN; omega
  · exact h1.slot w b
theorem tr0_fit {d : Nat} (h : 1 ≤ d) : tr0.Fit d := ⟨fun p c hm => by simp [tr0] at hm, fun w hw => by simp [tr0] at hw; rw [hw]; simpa using h, fun _ _ => Nat.zero_le _⟩
theorem adds_fit {d : Nat} (bits : Int) (l : List Rt) (hl : ∀ r ∈ l, r.pre.bits = bits → lastN r + 1 ≤ d) : ∀ T : Tr, T.Fit d → (Tr.adds bits T l).Fit d := by
  induction l with
  | nil => intro T h; exact h
  | cons r l ih =>
    intro T h
    unfold Tr.adds
    refine ih (fun s hs => hl s (List.mem_cons_of_mem _ hs)) _ ?_
    split
    · rename_i e; exact addR_fit h r (hl r (by simp) e)
    · exact h
theorem keysP_iff (bits : Int) : mayB (keysP bits) = true ↔ bits = 32 ∨ bits = 128 := by
  rw [mayB_iff _ zkey_bytes]
  constructor
  · exact fun h => h.1
  · intro h
    refine ⟨h, Int.le_refl _, by show (0 : Int) ≤ bits; omega, fun j _ _ => ?_⟩
    show bt zkey j = 0
    simp [bt, zkey]
theorem treeL_fit {t : List Rt} (h : Good t) {bits : Int} (hb : mayB (keysP bits) = true) : (treeL t bits).Fit (bits.toNat / 4) := by
  have h2 := (keysP_iff bits).1 hb
  refine adds_fit bits t (fun r hr e => ?_) tr0 (tr0_fit (by omega))
  obtain ⟨m1, m2, m3, -⟩ := (mayB_iff r.pre r.hk).1 (h.may r hr)
  unfold lastN
  omega
end Go.Proofs.Ytggjcjijoihilaa
