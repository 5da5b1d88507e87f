/- A chip in memory: slices that read as faults, pages, blocks; a chip's value; rows that are the call's own. -/
import Derived.Test.YtilgppijmkcomaaSumBase
import Derived.Test.YtilgppijmkcomaaChipP
namespace Go.Proofs.Ytilgppijmkcomaa.Chip
open Go.RowKit Go.Sort

/-- A slice that reads as n things, whose cells these are. -/
def RdRow (w : World) (v : Value) (n : Nat) (cs : List Value) : Prop :=
  ∃ a cap, v = .slice a n cap ∧ n ≤ cap ∧ cap ≤ maxLen ∧ (a = none → cap = 0) ∧ ∀ ad, a = some ad → ∀ (j : Nat) u, cs[j]? = some u → w.cell? (ad.add j) = some u
theorem RdRow.later {w w' : World} {v : Value} {n : Nat} {cs : List Value} (h : RdRow w v n cs) (hb : Below w.heap.size w w') : RdRow w' v n cs := by
  obtain ⟨a, cap, h1, h2, h3, h4, h5⟩ := h
  refine ⟨a, cap, h1, h2, h3, h4, fun ad ha j u hu => ?_⟩
  have := h5 ad ha j u hu
  rw [hb.cell (World.block_lt_of_cell? _ _ this)]; exact this
theorem RdRow.form {w : World} {v : Value} {n : Nat} {cs : List Value} (h : RdRow w v n cs) {x : Value} (hn : 0 < n) (hx : cs[0]? = some x) : ∃ b o cap, v = .slice (some ⟨b, o, none⟩) n cap ∧ n ≤ cap ∧ cap ≤ maxLen ∧ ∀ (i : Nat) u, cs[i]? = some u → w.cell? ⟨b, o + i, none⟩ = some u := by
  obtain ⟨a, cap, h1, h2, h3, h4, h5⟩ := h
  cases a with
  | none => have := h4 rfl; omega
  | some ad =>
    obtain ⟨b, o, s⟩ := ad
    have c0 := h5 _ rfl 0 _ hx
    obtain rfl : s = none := by simpa [Addr.add] using World.cell?_spot c0
    exact ⟨b, o, cap, h1, h2, h3, fun i u hu => by rw [← add_here]; exact h5 _ rfl i _ hu⟩
theorem RdRow.len {w : World} {v : Value} {n : Nat} {cs : List Value} (h : RdRow w v n cs) : ∃ a cap, v = .slice a n cap ∧ n ≤ cap ∧ cap ≤ maxLen := by
  obtain ⟨a, cap, h1, h2, h3, -⟩ := h
  exact ⟨a, cap, h1, h2, h3⟩
theorem own_rdRow {w : World} {base : Nat} {e : TypeId} {size : Nat} {v : Value} {n : Nat} {cs : List Value} (h : w.ownsRow base e size v n cs) : RdRow w v n cs := by
  rcases h.2 with ⟨h1, h2⟩ | ⟨g, cap, cur, h1, h2, h3, h4, h5, h6, h7⟩
  · exact ⟨none, 0, by rw [h1, h2], by omega, Nat.zero_le _, fun _ => rfl, fun ad ha => by cases ha⟩
  · refine ⟨some ⟨g, 0, none⟩, cap, h1, h4, h5, (fun h => by cases h), fun ad ha j u hu => ?_⟩
    cases ha
    exact h.cells (by rw [h1]; rfl) j u hu
theorem own_later {w w' : World} {base : Nat} {e : TypeId} {size : Nat} {v : Value} {n : Nat} {cs : List Value} (h : w.ownsRow base e size v n cs) (hb : Below w.heap.size w w') : w'.ownsRow base e size v n cs := by
  refine ⟨h.1, ?_⟩
  rcases h.2 with h1 | ⟨g, cap, cur, h1, h2, h3, h4⟩
  · exact .inl h1
  · exact .inr ⟨g, cap, cur, h1, h2, by rw [hb.block g (Array.getElem?_eq_some_iff.1 h3).1]; exact h3, h4⟩
theorem own_mono {w : World} {base base' : Nat} {e : TypeId} {size : Nat} {v : Value} {n : Nat} {cs : List Value} (h : w.ownsRow base e size v n cs) (hb : base' ≤ base) : w.ownsRow base' e size v n cs := by
  refine ⟨h.1, ?_⟩
  rcases h.2 with h1 | ⟨g, cap, cur, h1, h2, h3⟩
  · exact .inl h1
  · exact .inr ⟨g, cap, cur, h1, by omega, h3⟩
/-- Rows of unlike things lie in unlike blocks. -/
theorem own_apart {w : World} {base : Nat} {e : TypeId} {size : Nat} {v : Value} {n : Nat} {cs : List Value} (h : w.ownsRow base e size v n cs) {g : Nat} {cur : Array Value} {t : TypeId} {f : Nat × Nat} (hg : w.heap[g]? = some (.cells cur t f)) (ht : t ≠ e) : v.ownBlock ≠ some g := by
  rcases h.2 with ⟨h1, -⟩ | ⟨g', cap, cur', h1, -, h3, -⟩
  · rw [h1]; simp [Value.ownBlock]
  · rw [h1]
    simp only [Value.ownBlock, ne_eq, Option.some.injEq]
    rintro rfl
    rw [h3] at hg
    simp at hg
    exact ht hg.2.1.symm
theorem own_block {w : World} {base : Nat} {e : TypeId} {size : Nat} {v : Value} {n : Nat} {cs : List Value} (h : w.ownsRow base e size v n cs) {g : Nat} (hg : v.ownBlock = some g) : ∃ cur, w.heap[g]? = some (.cells cur e (0, 0)) := by
  rcases h.2 with ⟨h1, -⟩ | ⟨g', cap, cur', h1, -, h3, -⟩
  · rw [h1] at hg; simp [Value.ownBlock] at hg
  · rw [h1] at hg
    simp only [Value.ownBlock, Option.some.injEq] at hg
    subst hg
    exact ⟨cur', h3⟩
theorem own_form {w : World} {base : Nat} {e : TypeId} {size : Nat} {v : Value} {n : Nat} {cs : List Value} (h : w.ownsRow base e size v n cs) (hn : 0 < n) : ∃ g cap, v = .slice (some ⟨g, 0, none⟩) n cap ∧ n ≤ cap ∧ cap ≤ maxLen ∧ base ≤ g ∧ g < w.heap.size := by
  rcases h.2 with ⟨-, h0⟩ | ⟨g, cap, cur, h1, h2, h3, h4, h5, -⟩
  · omega
  · exact ⟨g, cap, h1, h4, h5, h2, (Array.getElem?_eq_some_iff.1 h3).1⟩
theorem grown_set (w : World) (g j : Nat) (u : Value) : w.grownBy (w.setCell ⟨g, j, none⟩ u) (some g) :=
  ⟨rfl, rfl, rfl, by simp, fun k _ hk => heap_setCell_other w ⟨g, j, none⟩ k u (fun e => hk (by simp [e]))⟩

/-! ### Lists side by side -/
def F2 {α β : Type} (R : α → β → Prop) (xs : List α) (ys : List β) : Prop := xs.length = ys.length ∧ ∀ (i : Nat) (a : α) (b : β), xs[i]? = some a → ys[i]? = some b → R a b
section
variable {α β : Type} {R S : α → β → Prop} {xs : List α} {ys : List β}
theorem f2_left (h : F2 R xs ys) {i : Nat} {b : β} (hb : ys[i]? = some b) : ∃ a, xs[i]? = some a ∧ R a b := by
  have hi := (List.getElem?_eq_some_iff.1 hb).1
  have ha : xs[i]? = some (xs[i]'(by rw [h.1]; exact hi)) := List.getElem?_eq_getElem _
  exact ⟨_, ha, h.2 i _ _ ha hb⟩
theorem f2_right (h : F2 R xs ys) {i : Nat} {a : α} (ha : xs[i]? = some a) : ∃ b, ys[i]? = some b ∧ R a b := by
  have hi := (List.getElem?_eq_some_iff.1 ha).1
  have hb : ys[i]? = some (ys[i]'(by rw [← h.1]; exact hi)) := List.getElem?_eq_getElem _
  exact ⟨_, hb, h.2 i _ _ ha hb⟩
theorem f2_both (h : F2 R xs ys) {i : Nat} {a : α} {b : β} (ha : xs[i]? = some a) (hb : ys[i]? = some b) : R a b := h.2 i a b ha hb
theorem f2_mono (hRS : ∀ a b, R a b → S a b) (h : F2 R xs ys) : F2 S xs ys := ⟨h.1, fun i a b ha hb => hRS _ _ (h.2 i a b ha hb)⟩
theorem f2_len (h : F2 R xs ys) : xs.length = ys.length := h.1
theorem f2_of (hl : xs.length = ys.length) (h : ∀ (i : Nat) (a : α) (b : β), xs[i]? = some a → ys[i]? = some b → R a b) : F2 R xs ys := ⟨hl, h⟩
theorem get_snoc {γ : Type} {l : List γ} {x : γ} {i : Nat} {a : γ} (h : (l ++ [x])[i]? = some a) : l[i]? = some a ∨ (i = l.length ∧ a = x) := by
  rw [List.getElem?_append] at h
  split at h
  · exact .inl h
  · rename_i hi
    have hz : i - l.length = 0 := by
      have := (List.getElem?_eq_some_iff.1 h).1
      simp at this; omega
    rw [hz] at h
    exact .inr ⟨by omega, by simpa using h.symm⟩
theorem f2_snoc (h : F2 R xs ys) {a : α} {b : β} (hab : R a b) : F2 R (xs ++ [a]) (ys ++ [b]) := by
  refine ⟨by simp [h.1], fun i x y hx hy => ?_⟩
  rcases get_snoc hx with h1 | ⟨h1, rfl⟩
  · rcases get_snoc hy with h2 | ⟨h2, rfl⟩
    · exact h.2 i x y h1 h2
    · have := (List.getElem?_eq_some_iff.1 h1).1; have := h.1; omega
  · rcases get_snoc hy with h2 | ⟨h2, rfl⟩
    · have := (List.getElem?_eq_some_iff.1 h2).1; have := h.1; omega
    · exact hab
end

/-! ### Cells -/
def flC (f : Flt) : List Value := [.int .i64 f.op, .bool f.fail, .bool f.cut, .int .u8 (f.mask.toNat : Int)]
def flAll (fs : List Flt) : List Value := fs.flatMap flC
def bkC (x : Value) (b : Blk) : List Value := [x, .int .i64 b.used, .int .i64 b.worn, .bool b.bad]
def bkAll : List Value → List Blk → List Value
  | x :: xs, b :: bs => bkC x b ++ bkAll xs bs
  | _, _ => []
theorem flAll_length (fs : List Flt) : (flAll fs).length = fs.length * 4 := by
  unfold flAll
  induction fs with
  | nil => rfl
  | cons f fs ih => rw [List.flatMap_cons, List.length_append, ih, List.length_cons]; show 4 + _ = _; omega
theorem flAll_at {fs : List Flt} {i : Nat} {f : Flt} (h : fs[i]? = some f) {j : Nat} (hj : j < 4) : (flAll fs)[i * 4 + j]? = (flC f)[j]? := by
  unfold flAll
  induction fs generalizing i with
  | nil => simp at h
  | cons g fs ih =>
    rw [List.flatMap_cons]
    cases i with
    | zero =>
      simp at h; subst h
      rw [Nat.zero_mul, Nat.zero_add, List.getElem?_append_left (by show j < 4; exact hj)]
    | succ i =>
      simp at h
      rw [List.getElem?_append_right (by show 4 ≤ _; omega), show (flC g).length = 4 from rfl, show (i + 1) * 4 + j - 4 = i * 4 + j by omega]
      exact ih h
theorem bkAll_length : ∀ (xs : List Value) (bs : List Blk), xs.length = bs.length → (bkAll xs bs).length = bs.length * 4
  | [], [], _ => rfl
  | x :: xs, b :: bs, h => by
    have := bkAll_length xs bs (by simpa using h)
    show (bkC x b ++ bkAll xs bs).length = _
    rw [List.length_append, this, List.length_cons]; show 4 + _ = _; omega
  | [], b :: bs, h => by simp at h
  | x :: xs, [], h => by simp at h
theorem bkAll_at : ∀ {xs : List Value} {bs : List Blk} {i : Nat} {x : Value} {b : Blk}, xs[i]? = some x → bs[i]? = some b → ∀ {j : Nat}, j < 4 → (bkAll xs bs)[i * 4 + j]? = (bkC x b)[j]?
  | x :: xs, b :: bs, 0, _, _, h1, h2, j, hj => by
    simp at h1 h2; subst h1; subst h2
    show (bkC x b ++ bkAll xs bs)[0 * 4 + j]? = _
    rw [Nat.zero_mul, Nat.zero_add, List.getElem?_append_left (by show j < 4; exact hj)]
  | x :: xs, b :: bs, i + 1, _, _, h1, h2, j, hj => by
    simp at h1 h2
    show (bkC x b ++ bkAll xs bs)[(i + 1) * 4 + j]? = _
    rw [List.getElem?_append_right (by show 4 ≤ _; omega), show (bkC x b).length = 4 from rfl, show (i + 1) * 4 + j - 4 = i * 4 + j by omega]
    exact bkAll_at h1 h2 hj
  | [], _, _, _, _, h1, _, _, _ => by simp at h1
  | _ :: _, [], _, _, _, _, h2, _, _ => by simp at h2
theorem bkAll_set : ∀ {xs : List Value} {bs : List Blk} {i : Nat} {x x' : Value} {b b' : Blk}, xs[i]? = some x → bs[i]? = some b → ∀ {j : Nat}, j < 4 → ∀ u, bkC x' b' = (bkC x b).set j u → (bkAll xs bs).set (i * 4 + j) u = bkAll (xs.set i x') (bs.set i b')
  | x :: xs, b :: bs, 0, _, x', _, b', h1, h2, j, hj, u, e => by
    simp at h1 h2; subst h1; subst h2
    show (bkC x b ++ bkAll xs bs).set (0 * 4 + j) u = bkC x' b' ++ bkAll xs bs
    rw [Nat.zero_mul, Nat.zero_add, List.set_append_left _ _ (by show j < 4; exact hj), e]
  | x :: xs, b :: bs, i + 1, _, x', _, b', h1, h2, j, hj, u, e => by
    simp at h1 h2
    show (bkC x b ++ bkAll xs bs).set ((i + 1) * 4 + j) u = bkC x b ++ bkAll (xs.set i x') (bs.set i b')
    rw [List.set_append_right _ _ (by show 4 ≤ _; omega), show (bkC x b).length = 4 from rfl, show (i + 1) * 4 + j - 4 = i * 4 + j by omega, bkAll_set h1 h2 hj u e]
  | [], _, _, _, _, _, _, h1, _, _, _, _, _ => by simp at h1
  | _ :: _, [], _, _, _, _, _, _, h2, _, _, _, _ => by simp at h2
theorem set_same {α : Type} : ∀ {l : List α} {i : Nat} {x : α}, l[i]? = some x → l.set i x = l
  | y :: l, 0, x, h => by simp at h; subst h; rfl
  | y :: l, i + 1, x, h => by simp at h; rw [List.set_cons_succ, set_same h]
  | [], _, _, h => by simp at h

/-! ### What reads so -/
def RdF (w : World) (v : Value) (fs : List Flt) : Prop := RdRow w v fs.length (flAll fs)
def RdP (w : World) (v : Value) (ps : List (List UInt8)) : Prop := ∃ us, F2 (RdB w) us ps ∧ RdRow w v ps.length us
def RdK (w : World) (v : Value) (bs : List Blk) : Prop := ∃ xs, F2 (fun x b => RdP w x (Blk.pages b)) xs bs ∧ RdRow w v bs.length (bkAll xs bs)
def chipV (c : Chp) (vb vf : Value) : Value := .agg #[.int .i64 c.pages, .int .i64 c.size, vb, .int .i64 c.ops, .bool c.off, vf]
def RdC (w : World) (v : Value) (c : Chp) : Prop := ∃ vb vf, v = chipV c vb vf ∧ RdK w vb c.blocks ∧ RdF w vf c.faults
theorem RdP.later {w w' : World} {v : Value} {ps : List (List UInt8)} (h : RdP w v ps) (hb : Below w.heap.size w w') : RdP w' v ps := by
  obtain ⟨us, h1, h2⟩ := h
  exact ⟨us, f2_mono (fun _ _ h => h.later hb) h1, h2.later hb⟩
theorem RdK.later {w w' : World} {v : Value} {bs : List Blk} (h : RdK w v bs) (hb : Below w.heap.size w w') : RdK w' v bs := by
  obtain ⟨us, h1, h2⟩ := h
  exact ⟨us, f2_mono (fun _ _ h => h.later hb) h1, h2.later hb⟩
theorem RdF.later {w w' : World} {v : Value} {fs : List Flt} (h : RdF w v fs) (hb : Below w.heap.size w w') : RdF w' v fs := RdRow.later h hb
theorem RdC.later {w w' : World} {v : Value} {c : Chp} (h : RdC w v c) (hb : Below w.heap.size w w') : RdC w' v c := by
  obtain ⟨vb, vf, h1, h2, h3⟩ := h
  exact ⟨vb, vf, h1, h2.later hb, h3.later hb⟩

/-! ### What is the call's own -/
def OwnF (w : World) (base : Nat) (v : Value) (fs : List Flt) : Prop := w.ownsRow base 56 4 v fs.length (flAll fs)
def OwnU (w : World) (base : Nat) (v : Value) (us : List Value) : Prop := w.ownsRow base 42 1 v us.length us
def OwnX (w : World) (base : Nat) (v : Value) (xs : List Value) (bs : List Blk) : Prop := w.ownsRow base 40 4 v bs.length (bkAll xs bs)
/-- No two rows lie in one block. -/
def Sep1 (us : List Value) : Prop := ∀ (k k' : Nat) (x y : Value) (g : Nat), us[k]? = some x → us[k']? = some y → x.ownBlock = some g → y.ownBlock = some g → k = k'
def Sep (T : List (Value × List Value)) : Prop := ∀ (i i' : Nat) (p p' : Value × List Value) (k k' : Nat) (x y : Value) (g : Nat), T[i]? = some p → T[i']? = some p' → p.2[k]? = some x → p'.2[k']? = some y → x.ownBlock = some g → y.ownBlock = some g → i = i' ∧ k = k'
/-- Blocks that are the call's own, down to their bytes: T has each one's row of pages, and the pages' rows. -/
structure OwnK (w : World) (base : Nat) (vb : Value) (T : List (Value × List Value)) (bs : List Blk) : Prop where
  row : OwnX w base vb (T.map (·.1)) bs
  len : T.length = bs.length
  us : ∀ (i : Nat) (p : Value × List Value) (b : Blk), T[i]? = some p → bs[i]? = some b → OwnU w base p.1 p.2 ∧ F2 (OwnB w base) p.2 b.pages
  sep : Sep T
theorem OwnK.later {w w' : World} {base : Nat} {vb : Value} {T : List (Value × List Value)} {bs : List Blk} (h : OwnK w base vb T bs) (hb : Below w.heap.size w w') : OwnK w' base vb T bs :=
  ⟨own_later h.row hb, h.len, fun i p b hp hbb => ⟨own_later (h.us i p b hp hbb).1 hb, f2_mono (fun _ _ h => h.later hb) (h.us i p b hp hbb).2⟩, h.sep⟩
theorem OwnU.rd {w : World} {base : Nat} {x : Value} {us : List Value} {ps : List (List UInt8)} (h : OwnU w base x us) (hf : F2 (OwnB w base) us ps) : RdP w x ps :=
  ⟨us, f2_mono (fun _ _ h => h.rd) hf, by rw [← f2_len hf]; exact own_rdRow h⟩
theorem OwnK.rd {w : World} {base : Nat} {vb : Value} {T : List (Value × List Value)} {bs : List Blk} (h : OwnK w base vb T bs) : RdK w vb bs := by
  have hr : RdRow w vb bs.length (bkAll (T.map (·.1)) bs) := own_rdRow h.row
  refine ⟨T.map (·.1), f2_of (by simp [h.len]) fun i x b hx hb => ?_, hr⟩
  rw [List.getElem?_map] at hx
  obtain ⟨p, hp, rfl⟩ := Option.map_eq_some_iff.1 hx
  obtain ⟨h1, h2⟩ := h.us i p b hp hb
  exact h1.rd h2
theorem OwnF.rd {w : World} {base : Nat} {v : Value} {fs : List Flt} (h : OwnF w base v fs) : RdF w v fs := own_rdRow h

/-- A byte of a page is written. -/
theorem OwnK.setByte {w : World} {base : Nat} {vb : Value} {T : List (Value × List Value)} {bs : List Blk} (h : OwnK w base vb T bs) {i k g cap j : Nat} {p : Value × List Value} {b : Blk} {l : List UInt8}
    (hp : T[i]? = some p) (hb : bs[i]? = some b) (hk : b.pages[k]? = some l) (hu : p.2[k]? = some (.slice (some ⟨g, 0, none⟩) l.length cap)) (y : UInt8) :
    OwnK (w.setCell ⟨g, j, none⟩ (byV y)) base vb T (bs.set i (b.setPage k (l.set j y))) := by
  obtain ⟨hU, hF⟩ := h.us i p b hp hb
  have hO : OwnB w base (.slice (some ⟨g, 0, none⟩) l.length cap) l := f2_both hF hu hk
  have hg := grown_set w g j (byV y)
  obtain ⟨cur, hcur⟩ := own_block hO (g := g) rfl
  have ilt := (List.getElem?_eq_some_iff.1 hb).1
  have keepB : ∀ {v : Value} {m : List UInt8}, OwnB w base v m → v.ownBlock ≠ some g → OwnB (w.setCell ⟨g, j, none⟩ (byV y)) base v m := fun h1 h2 => World.ownsRow.kept h1 hg (.inr h2)
  have hbk : bkAll (T.map (·.1)) bs = bkAll (T.map (·.1)) (bs.set i (b.setPage k (l.set j y))) := by
    have h1 : (T.map (·.1))[i]? = some p.1 := by rw [List.getElem?_map, hp]; rfl
    have e := bkAll_set (x' := p.1) (b' := b.setPage k (l.set j y)) h1 hb (j := 0) (by omega) p.1 rfl
    rw [set_same h1] at e
    rw [← e, set_same (by rw [bkAll_at h1 hb (by omega)]; rfl)]
  refine ⟨?_, by rw [List.length_set]; exact h.len, fun i' p' b' hp' hb' => ?_, h.sep⟩
  · unfold OwnX
    rw [List.length_set, ← hbk]
    exact World.ownsRow.kept h.row hg (.inr (own_apart h.row hcur (by decide)))
  · rw [List.getElem?_set] at hb'
    by_cases e : i = i'
    · subst e
      rw [hp] at hp'; cases hp'
      rw [if_pos rfl, if_pos ilt] at hb'; cases hb'
      refine ⟨World.ownsRow.kept hU hg (.inr (own_apart hU hcur (by decide))), ?_⟩
      show F2 _ _ (b.pages.set k (l.set j y))
      refine f2_of (by rw [List.length_set]; exact f2_len hF) fun k' v m hv hm => ?_
      rw [List.getElem?_set] at hm
      by_cases e : k = k'
      · subst e
        rw [if_pos rfl, if_pos (List.getElem?_eq_some_iff.1 hk).1] at hm; cases hm
        rw [hu] at hv; cases hv
        have := (World.ownsRow.stored hO j (byV y)).1
        unfold OwnB
        rw [List.length_set]
        unfold cellsB at this ⊢
        rw [List.map_set]
        exact this
      · rw [if_neg e] at hm
        refine keepB (f2_both hF hv hm) fun hvg => e ?_
        exact ((h.sep i i p p k k' _ _ g hp hp hu hv rfl hvg).2)
    · rw [if_neg e] at hb'
      obtain ⟨hU', hF'⟩ := h.us i' p' b' hp' hb'
      refine ⟨World.ownsRow.kept hU' hg (.inr (own_apart hU' hcur (by decide))), f2_of (f2_len hF') fun k' v m hv hm => ?_⟩
      refine keepB (f2_both hF' hv hm) fun hvg => e ?_
      exact ((h.sep i i' p p' k k' _ _ g hp hp' hu hv rfl hvg).1)
/-- A number of a block is written. -/
theorem OwnK.setNum {w : World} {base g cap : Nat} {T : List (Value × List Value)} {bs : List Blk} (h : OwnK w base (.slice (some ⟨g, 0, none⟩) bs.length cap) T bs) {i : Nat} {b b' : Blk} (hb : bs[i]? = some b) (hpg : b'.pages = b.pages) {j : Nat} (hj : j < 4) (u : Value)
    (hu : ∀ x, bkC x b' = (bkC x b).set j u) : OwnK (w.setCell ⟨g, i * 4 + j, none⟩ u) base (.slice (some ⟨g, 0, none⟩) bs.length cap) T (bs.set i b') := by
  have ilt := (List.getElem?_eq_some_iff.1 hb).1
  have hg := grown_set w g (i * 4 + j) u
  obtain ⟨cur, hcur⟩ := own_block h.row (g := g) rfl
  obtain ⟨p, hp⟩ : ∃ p, T[i]? = some p := ⟨T[i]'(by rw [h.len]; exact ilt), List.getElem?_eq_getElem _⟩
  have h1 : (T.map (·.1))[i]? = some p.1 := by rw [List.getElem?_map, hp]; rfl
  refine ⟨?_, by rw [List.length_set]; exact h.len, fun i' p' c hp' hc => ?_, h.sep⟩
  · have := (World.ownsRow.stored h.row (i * 4 + j) u).1
    rw [bkAll_set h1 hb hj u (hu p.1), set_same h1] at this
    unfold OwnX
    rw [List.length_set]
    exact this
  · obtain ⟨c', hc', hpp⟩ : ∃ c', bs[i']? = some c' ∧ c.pages = c'.pages := by
      rw [List.getElem?_set] at hc
      by_cases e : i = i'
      · subst e
        rw [if_pos rfl, if_pos ilt] at hc; cases hc
        exact ⟨b, hb, hpg⟩
      · rw [if_neg e] at hc; exact ⟨c, hc, rfl⟩
    obtain ⟨hU', hF'⟩ := h.us i' p' c' hp' hc'
    rw [hpp]
    exact ⟨World.ownsRow.kept hU' hg (.inr (own_apart hU' hcur (by decide))), f2_mono (fun v m hv => World.ownsRow.kept hv hg (.inr (own_apart hv hcur (by decide)))) hF'⟩
end Go.Proofs.Ytilgppijmkcomaa.Chip
