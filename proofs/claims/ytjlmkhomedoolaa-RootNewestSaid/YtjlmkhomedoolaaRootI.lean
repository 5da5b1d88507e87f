/- Numbers as values: a slice of them that reads so, one of the call's own, a piece of one, one behind another. (Made of the text of bytes.) -/
import Derived.Test.YtjlmkhomedoolaaSumOpen
namespace Go.Proofs.Ytjlmkhomedoolaa.Root
open Go.RowKit Go.Sort

def nV (x : Int) : Value := .int .i64 x
def cellsN (l : List Int) : List Value := l.map nV
theorem cellsN_length (l : List Int) : (cellsN l).length = l.length := by simp [cellsN]
theorem cellsN_append (a b : List Int) : cellsN (a ++ b) = cellsN a ++ cellsN b := by simp [cellsN]
theorem cellsN_one (l : List Int) : ∀ u ∈ cellsN l, u.oneCell' = true := fun u hu => by
  obtain ⟨x, -, rfl⟩ := List.mem_map.1 hu; rfl
theorem cellsN_at {l : List Int} {i : Nat} {x : Int} (h : l[i]? = some x) : (cellsN l)[i]? = some (nV x) := by
  unfold cellsN; rw [List.getElem?_map, h]; rfl
/-- A slice that reads as bytes. -/
def RdN (w : World) (v : Value) (l : List Int) : Prop :=
  ∃ a cap, v = .slice a l.length cap ∧ l.length ≤ cap ∧ cap ≤ maxLen ∧ (a = none → cap = 0) ∧ ∀ ad, a = some ad → ∀ (j : Nat) u, (cellsN l)[j]? = some u → w.cell? (ad.add j) = some u
/-- A slice of bytes that is the call's own. -/
def OwnN (w : World) (base : Nat) (v : Value) (l : List Int) : Prop := w.ownsRow base 3 1 v l.length (cellsN l)
theorem RdN.later {w w' : World} {v : Value} {l : List Int} (h : RdN w v l) (hb : Below w.heap.size w w') : RdN w' v l := by
  obtain ⟨a, cap, h1, h2, h3, h4, h5⟩ := h
  refine ⟨a, cap, h1, h2, h3, h4, fun ad ha j u hu => ?_⟩
  have := h5 ad ha j u hu
  rw [hb.cell (World.block_lt_of_cell? _ _ this)]; exact this
theorem RdN.regrown {w : World} {v : Value} {l : List Int} (h : RdN w v l) (d : Nat) (os : Array Obj) : RdN (grow (redrawn w d) os) v l := by
  obtain ⟨a, cap, h1, h2, h3, h4, h5⟩ := h
  exact ⟨a, cap, h1, h2, h3, h4, fun ad ha j u hu => cell_regrown (h5 ad ha j u hu) d os⟩
theorem OwnN.rd {w : World} {base : Nat} {v : Value} {l : List Int} (h : OwnN w base v l) : RdN w v l := by
  rcases h.2 with ⟨h1, h2⟩ | ⟨g, cap, cur, h1, h2, h3, h4, h5, h6, h7⟩
  · refine ⟨none, 0, by rw [h1, h2], by omega, Nat.zero_le _, fun _ => rfl, fun ad ha => by cases ha⟩
  · refine ⟨some ⟨g, 0, none⟩, cap, h1, h4, h5, (fun h => by cases h), fun ad ha j u hu => ?_⟩
    cases ha
    exact h.cells (by rw [h1]; rfl) j u hu
theorem OwnN.later {w w' : World} {base : Nat} {v : Value} {l : List Int} (h : OwnN w base v l) (hb : Below w.heap.size w w') : OwnN w' base v l := by
  refine ⟨h.1, ?_⟩
  rcases h.2 with h1 | ⟨g, cap, cur, h1, h2, h3, h4⟩
  · exact .inl h1
  · exact .inr ⟨g, cap, cur, h1, h2, by rw [hb.block g (Array.getElem?_eq_some_iff.1 h3).1]; exact h3, h4⟩
theorem OwnN.mono {w : World} {base base' : Nat} {v : Value} {l : List Int} (h : OwnN w base v l) (hb : base' ≤ base) : OwnN w base' v l := by
  refine ⟨h.1, ?_⟩
  rcases h.2 with h1 | ⟨g, cap, cur, h1, h2, h3⟩
  · exact .inl h1
  · exact .inr ⟨g, cap, cur, h1, by omega, h3⟩
theorem OwnN.nil (w : World) (base : Nat) : OwnN w base (.slice none 0 0) [] := World.ownsRow_nil _ _ _ _
theorem OwnN.made (w : World) (cur : List Int) : OwnN (w.alloc (.cells (cellsN cur).toArray 3)) w.heap.size (.slice (some ⟨w.heap.size, 0, none⟩) cur.length cur.length) cur ∨ ¬ cur.length ≤ maxLen := by
  by_cases h : cur.length ≤ maxLen
  · exact .inl ⟨by rw [cellsN_length]; omega, .inr ⟨w.heap.size, cur.length, _, rfl, Nat.le_refl _, heap_alloc_new w _, Nat.le_refl _, h, by simp [cellsN_length], by rw [Nat.mul_one, List.toList_toArray, List.take_of_length_le (by rw [cellsN_length]; omega)]⟩⟩
  · exact .inr h
/-- The shape of a slice that reads as bytes. -/
theorem RdN.form {w : World} {v : Value} {l : List Int} (h : RdN w v l) (hl : 0 < l.length) : ∃ b o cap, v = .slice (some ⟨b, o, none⟩) l.length cap ∧ ∀ (i : Nat) x, l[i]? = some x → w.cell? ⟨b, o + i, none⟩ = some (nV x) := by
  obtain ⟨a, cap, h1, h2, h3, h4, h5⟩ := h
  cases a with
  | none => have := h4 rfl; omega
  | some ad =>
    obtain ⟨b, o, s⟩ := ad
    have c0 := h5 _ rfl 0 _ (cellsN_at (List.getElem?_eq_getElem hl))
    obtain rfl : s = none := by simpa [Addr.add] using World.cell?_spot c0
    exact ⟨b, o, cap, h1, fun i x hx => by rw [← add_here]; exact h5 _ rfl i _ (cellsN_at hx)⟩
theorem RdN.len {w : World} {v : Value} {l : List Int} (h : RdN w v l) : ∃ a cap, v = .slice a l.length cap ∧ l.length ≤ cap ∧ cap ≤ maxLen := by
  obtain ⟨a, cap, h1, h2, h3, -⟩ := h
  exact ⟨a, cap, h1, h2, h3⟩
/-- A piece of a slice of bytes, behind a name. -/
def intsSlice (v : Value) (lo hi : Option Value) : Sem Value := Instr.slice 23 v lo hi none
theorem slice_ints (v : Value) (lo hi : Option Value) : Instr.slice 23 v lo hi none = intsSlice v lo hi := rfl
theorem sizeN (w : World) : (Go.sizeOf 3).run Try.prog w = .ok 1 w := by kernel_rfl
theorem elemN : Try.prog.elem 23 = 3 := by simp [Program.elem, Try.underlying23]
theorem underN : Try.prog.underlying 23 = some (.slice (Try.prog.elem 23)) := by rw [elemN]; exact Try.underlying23
theorem cells_drop (l : List Int) (k j : Nat) : (cellsN (l.drop k))[j]? = (cellsN l)[k + j]? := by simp [cellsN, List.getElem?_map, List.getElem?_drop]
theorem slice_head {w : World} {v : Value} {l : List Int} (h : RdN w v l) {k : Nat} (hk : k ≤ l.length) : ∃ v', (∀ (i : Int) W, i = k → (intsSlice v none (some (.int .i64 i))).run Try.prog W = .ok v' W) ∧ RdN w v' (l.take k) := by
  obtain ⟨a, cap, h1, h2, h3, h4, h5⟩ := h
  subst h1
  refine ⟨sliced a 0 k cap 1, fun i W hi => ?_, ?_⟩
  · subst hi
    unfold intsSlice
    rw [run_slice_h W 23 a _ _ underN .i64 _ (by omega) (by omega), elemN, sizeN]
    simp [Result.andThen]
  · have hlen : (l.take k).length = k := by rw [List.length_take]; omega
    refine ⟨if cap = 0 then a else a.map (·.add (0 * 1)), cap, by rw [hlen]; rfl, by omega, h3, ?_, ?_⟩
    · intro ha
      split at ha
      · assumption
      · cases a with
        | none => exact h4 rfl
        | some ad => cases ha
    · intro ad ha j u hu
      have hj : j < k := by
        have := (List.getElem?_eq_some_iff.1 hu).1
        rw [cellsN_length, hlen] at this; exact this
      have hu' : (cellsN l)[j]? = some u := by
        rw [← hu]; unfold cellsN; rw [List.getElem?_map, List.getElem?_map, List.getElem?_take_of_lt hj]
      rw [if_neg (by omega)] at ha
      cases a with
      | none => cases ha
      | some ad0 =>
        simp only [Option.map_some, Option.some.injEq] at ha
        subst ha
        rw [add_add, Nat.zero_mul, Nat.zero_add]
        exact h5 _ rfl j u hu'
theorem slice_tail {w : World} {v : Value} {l : List Int} (h : RdN w v l) {k : Nat} (hk : k ≤ l.length) : ∃ v', (∀ (i : Int) W, i = k → (intsSlice v (some (.int .i64 i)) none).run Try.prog W = .ok v' W) ∧ RdN w v' (l.drop k) := by
  obtain ⟨a, cap, h1, h2, h3, h4, h5⟩ := h
  subst h1
  refine ⟨sliced a k l.length cap 1, fun i W hi => ?_, ?_⟩
  · subst hi
    unfold intsSlice
    rw [run_slice_l W 23 a _ _ underN .i64 _ (by omega) (by omega), elemN, sizeN]
    simp [Result.andThen]
  · have hlen : (l.drop k).length = l.length - k := List.length_drop
    refine ⟨if cap = k then a else a.map (·.add (k * 1)), cap - k, by rw [hlen]; rfl, by omega, by omega, ?_, ?_⟩
    · intro ha
      split at ha
      · omega
      · cases a with
        | none => have := h4 rfl; omega
        | some ad => cases ha
    · intro ad ha j u hu
      rw [cells_drop] at hu
      have hj : k + j < l.length := by
        have := (List.getElem?_eq_some_iff.1 hu).1
        rw [cellsN_length] at this; exact this
      rw [if_neg (by omega)] at ha
      cases a with
      | none => cases ha
      | some ad0 =>
        simp only [Option.map_some, Option.some.injEq] at ha
        subst ha
        rw [add_add, Nat.mul_one]
        exact h5 _ rfl _ u hu
theorem infoN : (Try.prog.info? 3).map (fun i => (i.zero, i.size, i.bytes)) = some (some (.int .i64 0), 1, 8) := by kernel_rfl
/-- Bytes behind bytes of the call's own. -/
theorem run_appendN {w : World} {base : Nat} {v u : Value} {xs ys : List Int} (h : OwnN w base v xs) (hr : RdN w u ys) (hb : base ≤ w.heap.size) (hn : xs.length + ys.length ≤ 1000000) (ty : TypeId) :
    ∃ v' w', (Builtin.append_ #[23, 23] ty #[v, u]).run Try.prog w = .ok v' w' ∧ OwnN w' base v' (xs ++ ys) ∧ w.grownBy w' v.ownBlock := by
  obtain ⟨i0, e0, e1, e2, e3⟩ := info_parts infoN
  obtain ⟨a, cap, h1, h2, h3, h4, h5⟩ := hr
  subst h1
  cases a with
  | none =>
    have hc := h4 rfl
    subst hc
    have hy : ys = [] := List.length_eq_zero_iff.1 (by omega)
    subst hy
    refine ⟨v, w, ?_, by rw [List.append_nil]; exact h, ⟨rfl, rfl, rfl, Nat.le_refl _, fun _ _ _ => rfl⟩⟩
    exact run_append_owned_none (P := Try.prog) (w := w) base 23 ty 3 i0 1 Try.underlying23 e0 v _ _ h
  | some ad =>
    obtain ⟨v', w', r1, r2, r3, -⟩ := run_append_own (P := Try.prog) (w := w) base 23 ty 3 i0 (.int .i64 0) 1 8 Try.underlying23 e0 e1 e2 e3 rfl (by decide) v xs.length (cellsN xs) h ad ys.length cap (cellsN ys)
      (by rw [cellsN_length]; omega) (fun j u hu => h5 ad rfl j u hu) (cellsN_one ys) (by unfold maxLen; omega) (by omega) hb
    refine ⟨v', w', r1, ?_, r3⟩
    unfold OwnN
    rw [List.length_append, cellsN_append]
    exact r2
/-- The operation by itself. -/
theorem wpList_appendN {w : World} {ops : Array Oper} {rest : List Oper} {o : Oper} {a : Act} {Q : Exit → Act → World → Prop} (hgd : o.guard = none) (s x : Operand)
    (ho : o.op = .call { callee := .builtin .append, args := #[s, x], argTypes := #[23, 23] })
    {base : Nat} {v u : Value} {xs ys : List Int} (hs : a.eval s = v) (hx : a.eval x = u) (h : OwnN w base v xs) (hr : RdN w u ys) (hb : base ≤ w.heap.size) (hn : xs.length + ys.length ≤ 1000000)
    (k : ∀ v' w', OwnN w' base v' (xs ++ ys) → w.grownBy w' v.ownBlock → wpList Try.prog ops Q rest (a.put o.dst v') w') : wpList Try.prog ops Q (o :: rest) a w := by
  refine wpList_plain hgd fun K hK => ?_
  obtain ⟨v', w', hrun, h1, h2⟩ := run_appendN h hr hb hn o.type
  unfold Oper.wp
  simp [execOp, ho, resolve, invoke, builtin, hs, hx, hrun, Result.andThen]
  exact hK _ _ (k v' w' h1 h2)
/-- What grew by one's own is as it was below. -/
theorem OwnN.below {w w' : World} {base : Nat} {v : Value} {l : List Int} (h : OwnN w base v l) (hg : w.grownBy w' v.ownBlock) (hb : base ≤ w.heap.size) : Below base w w' :=
  (Below.refl base w).grown hg hb fun k hk => (World.ownsRow.lt h k hk).1
/-- A byte stored into bytes of the call's own. -/
theorem OwnN.at {w : World} {base g n cap : Nat} {l : List Int} (h : OwnN w base (.slice (some ⟨g, 0, none⟩) n cap) l) {i : Nat} {x : Int} (hx : l[i]? = some x) : w.cell? ⟨g, i, none⟩ = some (nV x) ∧ w.frozen? ⟨g, i, none⟩ = false := by
  have h1 := World.ownsRow.cells h (g := g) rfl i _ (cellsN_at hx)
  rw [add_here, Nat.zero_add] at h1
  exact ⟨h1, World.ownsRow.frozenAt (n := n) (by
    have hn : n = l.length := by
      rcases h.2 with ⟨h2, -⟩ | ⟨g', cap', cur, h2, -⟩ <;> cases h2; rfl
    subst hn; exact h) i⟩
theorem OwnN.store {w : World} {base g n cap : Nat} {l : List Int} (h : OwnN w base (.slice (some ⟨g, 0, none⟩) n cap) l) (i : Nat) (x : Int) :
    OwnN (w.setCell ⟨g, i, none⟩ (nV x)) base (.slice (some ⟨g, 0, none⟩) n cap) (l.set i x) ∧ Below base w (w.setCell ⟨g, i, none⟩ (nV x)) := by
  have hn : n = l.length := by
    rcases h.2 with ⟨h2, -⟩ | ⟨g', cap', cur, h2, -⟩ <;> cases h2; rfl
  subst hn
  have hg : base ≤ g := (World.ownsRow.lt h g rfl).1
  obtain ⟨h1, h2⟩ := World.ownsRow.stored h i (nV x)
  refine ⟨?_, (Below.refl _ _).setCell hg _⟩
  unfold OwnN
  have e : cellsN (l.set i x) = (cellsN l).set i (nV x) := by unfold cellsN; exact List.map_set
  rw [e, List.length_set]
  exact h1
end Go.Proofs.Ytjlmkhomedoolaa.Root
