/- ChipKeeps' variables: the chip's box, two rows of what is sure, and the things to do. -/
import Derived.Test.YtilgppijmkcomaaKeepP
import Derived.Test.YtilgppijmkcomaaChipOpen
namespace Go.Proofs.Ytilgppijmkcomaa.Chip
open Go.RowKit Go.Sort Go.Shelf Go.ChangeShapes Go.WideShapes Go.ChangeAt Go.Deep

/-! ### Things to do -/
structure Ado where
  kind : UInt8
  block : UInt8
  byte : UInt8
instance : Inhabited Ado := ⟨⟨0, 0, 0⟩⟩
def doC (d : Ado) : List Value := [.int .u8 (d.kind.toNat : Int), .int .u8 (d.block.toNat : Int), .int .u8 (d.byte.toNat : Int)]
def doAll (ds : List Ado) : List Value := ds.flatMap doC
theorem doAll_length (ds : List Ado) : (doAll ds).length = ds.length * 3 := by
  induction ds with
  | nil => rfl
  | cons d t ih =>
    show (doC d ++ doAll t).length = _
    rw [List.length_append, ih, List.length_cons]; show 3 + _ = _; omega
theorem doAll_at {ds : List Ado} {i : Nat} {d : Ado} (h : ds[i]? = some d) {j : Nat} (hj : j < 3) : (doAll ds)[i * 3 + j]? = (doC d)[j]? := by
  induction ds generalizing i with
  | nil => simp at h
  | cons x t ih =>
    show (doC x ++ doAll t)[_]? = _
    cases i with
    | zero =>
      simp at h
      subst h
      rw [List.getElem?_append_left (by show 0 * 3 + j < 3; omega), Nat.zero_mul, Nat.zero_add]
    | succ i =>
      rw [List.getElem?_cons_succ] at h
      rw [List.getElem?_append_right (by show 3 ≤ _; omega)]
      have : (i + 1) * 3 + j - (doC x).length = i * 3 + j := by show _ - 3 = _; omega
      rw [this]
      exact ih h
def RdD (w : World) (v : Value) (ds : List Ado) : Prop := RdRow w v ds.length (doAll ds)
theorem at_do {w : World} {v : Value} {ds : List Ado} (h : RdD w v ds) {i : Nat} {d : Ado} (hi : ds[i]? = some d) : ∃ b o cap, v = .slice (some ⟨b, o, none⟩) ds.length cap ∧ w.cell? ⟨b, o + i * 3, none⟩ = some (.int .u8 (d.kind.toNat : Int)) ∧ w.cell? ⟨b, o + i * 3 + 1, none⟩ = some (.int .u8 (d.block.toNat : Int)) ∧ w.cell? ⟨b, o + i * 3 + 2, none⟩ = some (.int .u8 (d.byte.toNat : Int)) := by
  have hl := (List.getElem?_eq_some_iff.1 hi).1
  obtain ⟨r0, hr0⟩ : ∃ r, ds[0]? = some r := ⟨ds[0], List.getElem?_eq_getElem (by omega)⟩
  obtain ⟨b, o, cap, hv, -, -, hc⟩ := RdRow.form h (x := .int .u8 (r0.kind.toNat : Int)) (by omega) (by have := doAll_at hr0 (j := 0) (by omega); simpa [doC] using this)
  refine ⟨b, o, cap, hv, ?_, ?_, ?_⟩
  · exact hc (i * 3) _ (by have := doAll_at hi (j := 0) (by omega); simpa [doC] using this)
  · rw [Nat.add_assoc]; exact hc (i * 3 + 1) _ (by rw [doAll_at hi (by omega)]; rfl)
  · rw [Nat.add_assoc]; exact hc (i * 3 + 2) _ (by rw [doAll_at hi (by omega)]; rfl)
section
variable {H : Type} {enc : TypeId × Value → H} {w : World} {base : Nat} {spare : Nat → Bool} {held : Bool}
theorem three_list {l : List Value} (h : l.length = 3) : ∃ a b c, l = [a, b, c] := by
  match l, h with
  | [a, b, c], _ => exact ⟨a, b, c, rfl⟩
set_option maxRecDepth 100000 in
theorem do_of_trod {fuel : Nat} {cs : List Value} {x : DataW H × List MemPlace} (h : DataW.trod enc Try.prog w base spare held fuel 37 cs = some x) : ∃ d : Ado, cs = doC d := by
  have hu : Try.prog.cellsOf 5 = 1 := by kernel_rfl
  have h3 : Try.prog.cellsOf 37 = 3 := by kernel_rfl
  obtain ⟨hl, n, hf⟩ := trod_field Try.underlying37 h
  rw [h3] at hl
  obtain ⟨a, b, c, rfl⟩ := three_list hl
  obtain ⟨y0, h0⟩ : ∃ y, DataW.trod enc Try.prog w base spare held n 5 (([a, b, c].drop 0).take (Try.prog.cellsOf 5)) = some y := by
    have := hf 0 _ rfl
    exact this
  obtain ⟨y1, h1⟩ : ∃ y, DataW.trod enc Try.prog w base spare held n 5 (([a, b, c].drop 1).take (Try.prog.cellsOf 5)) = some y := by
    have := hf 1 _ rfl
    exact this
  obtain ⟨y2, h2⟩ : ∃ y, DataW.trod enc Try.prog w base spare held n 5 (([a, b, c].drop 2).take (Try.prog.cellsOf 5)) = some y := by
    have := hf 2 _ rfl
    exact this
  rw [hu] at h0 h1 h2
  obtain ⟨m0, e0, _, w0⟩ := DataW.trod_int Try.underlying5 h0
  obtain ⟨m1, e1, _, w1⟩ := DataW.trod_int Try.underlying5 h1
  obtain ⟨m2, e2, _, w2⟩ := DataW.trod_int Try.underlying5 h2
  have hm0 := bounds_u8 w0
  have hm1 := bounds_u8 w1
  have hm2 := bounds_u8 w2
  refine ⟨⟨UInt8.ofNat m0.toNat, UInt8.ofNat m1.toNat, UInt8.ofNat m2.toNat⟩, ?_⟩
  have t0 : (((UInt8.ofNat m0.toNat).toNat : Nat) : Int) = m0 := by rw [UInt8.toNat_ofNat']; omega
  have t1 : (((UInt8.ofNat m1.toNat).toNat : Nat) : Int) = m1 := by rw [UInt8.toNat_ofNat']; omega
  have t2 : (((UInt8.ofNat m2.toNat).toNat : Nat) : Int) = m2 := by rw [UInt8.toNat_ofNat']; omega
  unfold doC
  simp only [t0, t1, t2]
  simp at e0 e1 e2
  rw [e0, e1, e2]
set_option maxRecDepth 100000 in
/-- Things to do that come in. -/
theorem open_dos {v : Value} {d : DataW H} {p : List MemPlace} (hv : Value.okWide Try.prog w .any base 23 v) (h : DataW.Trod enc Try.prog w 0 spare held 23 v d p) : ∃ ds, RdD w v ds := by
  obtain ⟨a0, len0, cap0, rfl⟩ := okWide_slice Try.underlying23 hv
  obtain ⟨fuel, hf⟩ := h
  have hc : Try.prog.cellsOf 37 = 3 := by kernel_rfl
  rcases open_slice Try.underlying23 hf with ⟨e, _⟩ | ⟨a, len, cap, m, n, D, Pl, e, hb, hl, hm, hmm, _, hx⟩
  · have e' : (Value.slice a0 len0 cap0) = .slice none 0 0 := by simpa [Value.cells] using e
    exact ⟨[], rdRow_nil e'⟩
  · rw [hc] at hx
    have e' : (Value.slice a0 len0 cap0) = .slice (some a) len cap := by simpa [Value.cells] using e
    have hlm : len ≤ m := by rw [hmm]; split <;> omega
    obtain ⟨R, hR⟩ := choose_lt (α := Ado) (n := len) (p := fun i r => ∀ (j : Nat) u, (doC r)[j]? = some u → w.cell? ((a.add (i * 3)).add j) = some u) (fun i hi => by
      obtain ⟨cs', h1, h2⟩ := hx i (by omega)
      obtain ⟨h3, h4⟩ := cells_each h1
      obtain ⟨r, rfl⟩ := do_of_trod h2
      exact ⟨r, h4⟩)
    refine ⟨(List.range len).map R, some a, cap, by simpa using e', by simpa using hl, hm, (fun h => by cases h), fun ad ha j u hu => ?_⟩
    cases ha
    have hj := (List.getElem?_eq_some_iff.1 hu).1
    rw [doAll_length] at hj
    simp at hj
    have hr : ((List.range len).map R)[j / 3]? = some (R (j / 3)) := by rw [List.getElem?_map, List.getElem?_range (by omega)]; rfl
    have e : j = j / 3 * 3 + j % 3 := by omega
    rw [e, doAll_at hr (by omega)] at hu
    have := hR (j / 3) (by omega) (j % 3) u hu
    rw [add_add, ← e] at this
    exact this
end

/-! ### The variables -/
def cB (S : List Bool) : Array Value := (S.map Value.bool).toArray
def cH (X : List UInt8) : Array Value := (X.map fun x => Value.int .u8 (x.toNat : Int)).toArray
theorem cB_at {S : List Bool} {q : Nat} {b : Bool} (h : S[q]? = some b) : (cB S)[q]? = some (.bool b) := by unfold cB; simp [h]
theorem cH_at {X : List UInt8} {q : Nat} {x : UInt8} (h : X[q]? = some x) : (cH X)[q]? = some (.int .u8 (x.toNat : Int)) := by unfold cH; simp [h]
theorem cB_set (S : List Bool) (q : Nat) (b : Bool) : (cB S).setIfInBounds q (.bool b) = cB (S.set q b) := by unfold cB; rw [List.setIfInBounds_toArray, List.map_set]
theorem cH_set (X : List UInt8) (q : Nat) (x : UInt8) : (cH X).setIfInBounds q (.int .u8 (x.toNat : Int)) = cH (X.set q x) := by unfold cH; rw [List.setIfInBounds_toArray, List.map_set]

/-- A chip's box that reads so. -/
def Bx (W : World) (B : Nat) (c : Chp) : Prop := ∃ A, Box W B A ∧ A.size = 6 ∧ RdN W (.agg A) c
theorem Bx.lt {W : World} {B : Nat} {c : Chp} (h : Bx W B c) : B < W.heap.size := by obtain ⟨A, h1, -⟩ := h; exact h1.lt
theorem Bx.later {W W' : World} {B : Nat} {c : Chp} (h : Bx W B c) (hb : Below W.heap.size W W') : Bx W' B c := by
  obtain ⟨A, h1, h2, h3⟩ := h
  exact ⟨A, h1.later hb, h2, h3.oth (Oth.below hb)⟩
theorem Bx.oth {W W' : World} {B : Nat} {c : Chp} (h : Bx W B c) (ho : Oth W W') (hB : W'.heap[B]? = W.heap[B]?) : Bx W' B c := by
  obtain ⟨A, h1, h2, h3⟩ := h
  exact ⟨A, hB.trans h1, h2, h3.oth ho⟩
theorem Bx.cells {W : World} {B : Nat} {c : Chp} (h : Bx W B c) : ∃ A vb, RdC W (.agg A) c ∧ RdN W (.agg A) c ∧ RdK W vb c.blocks ∧ (∀ V, Below W.heap.size W V → (chipLoad ⟨B, 0, none⟩).run Try.prog V = .ok (.agg A) V) ∧ W.cell? ⟨B, 2, none⟩ = some vb ∧ W.cell? ⟨B, 3, none⟩ = some (.int .i64 c.ops) ∧ W.cell? ⟨B, 4, none⟩ = some (.bool c.off) := by
  obtain ⟨A, h1, h2, h3⟩ := h
  obtain ⟨vb, vf, hA, hK, hF⟩ := id h3.rd
  simp only [chipV_cells, Value.agg.injEq] at hA
  refine ⟨A, vb, h3.rd, h3, hK, fun V hV => (h1.later hV).load h2, ?_, ?_, ?_⟩ <;> (rw [h1.cell, hA]; rfl)
theorem Bx.blk {W : World} {B : Nat} {c : Chp} (h : Bx W B c) {i : Nat} (hi : i < c.blocks.length) : ∃ bb bo cb, W.cell? ⟨B, 2, none⟩ = some (.slice (some ⟨bb, bo, none⟩) c.blocks.length cb) ∧ W.cell? ⟨bb, bo + i * 4 + 1, none⟩ = some (.int .i64 (blkAt c i).used) ∧ W.cell? ⟨bb, bo + i * 4 + 2, none⟩ = some (.int .i64 (blkAt c i).worn) := by
  obtain ⟨A, vb, -, -, hK, -, h2, -⟩ := h.cells
  obtain ⟨bb, bo, cb, x, hv, hx, -, c0, c1, c2, c3⟩ := at_blk hK (blkAt_get hi)
  subst hv
  exact ⟨bb, bo, cb, h2, c1, c2⟩

structure St (w0 : World) (B5 B7 B8 : Nat) (c : Chp) (S : List Bool) (X : List UInt8) (W : World) : Prop where
  bel : Below w0.heap.size w0 W
  box : Bx W B5 c
  s7 : W.heap[B7]? = some (.cells (cB S) 33 (0, 0))
  s8 : W.heap[B8]? = some (.cells (cH X) 35 (0, 0))
  l5 : w0.heap.size ≤ B5
  l7 : w0.heap.size ≤ B7
  l8 : w0.heap.size ≤ B8
variable {w0 W W' : World} {B5 B7 B8 B : Nat} {c d : Chp} {S : List Bool} {X : List UInt8}
theorem St.later (h : St w0 B5 B7 B8 c S X W) (hb : Below W.heap.size W W') : St w0 B5 B7 B8 c S X W' :=
  ⟨h.bel.trans (hb.mono h.bel.size), h.box.later hb, (hb.block _ (Array.getElem?_eq_some_iff.1 h.s7).1).trans h.s7, (hb.block _ (Array.getElem?_eq_some_iff.1 h.s8).1).trans h.s8, h.l5, h.l7, h.l8⟩
theorem Bx.ne_row {A : Array Value} {t : TypeId} (h : Bx W B c) (hs : W.heap[B7]? = some (.cells A t (0, 0))) (ht : t ≠ 27) : B ≠ B7 := by
  obtain ⟨A', h1, -⟩ := h
  intro e
  subst e
  unfold Box at h1
  rw [hs] at h1
  simp at h1
  exact ht h1.2
theorem St.n57 (h : St w0 B5 B7 B8 c S X W) : B5 ≠ B7 := h.box.ne_row h.s7 (by decide)
theorem St.n58 (h : St w0 B5 B7 B8 c S X W) : B5 ≠ B8 := h.box.ne_row h.s8 (by decide)
theorem St.n78 (h : St w0 B5 B7 B8 c S X W) : B7 ≠ B8 := fun e => by
  have h1 := h.s7
  rw [e, h.s8] at h1
  simp at h1
/-- A chip is put into the box. -/
theorem St.put {v : Value} (h : St w0 B5 B7 B8 c S X W) (hv : RdN W v d) : ∃ A W', v = .agg A ∧ (chipStore ⟨B5, 0, none⟩ (.agg A)).run Try.prog W = .ok () W' ∧ St w0 B5 B7 B8 d S X W' ∧ (∀ B c', B ≠ B5 → Bx W B c' → Bx W' B c') ∧ W.heap.size ≤ W'.heap.size := by
  obtain ⟨A0, h1, h2, h3⟩ := h.box
  obtain ⟨A, W', hv, st, hx, hn, ho, hg, hs⟩ := box_put hv h1 h2
  have hk : ∀ k, k < W.heap.size → k ≠ B5 → W'.heap[k]? = W.heap[k]? := fun k hk hne => hg.block k hk (by simp [hne])
  refine ⟨A, W', hv, st, ⟨below_put h.bel h.bel.size h.l5 hg, ⟨A, hx, hs, hn⟩, (hk _ (Array.getElem?_eq_some_iff.1 h.s7).1 h.n57.symm).trans h.s7, (hk _ (Array.getElem?_eq_some_iff.1 h.s8).1 h.n58.symm).trans h.s8, h.l5, h.l7, h.l8⟩, fun B c' hne hB => hB.oth ho (hk B hB.lt hne), ?_⟩
  exact hg.size
/-- What is sure of a page, and what it has. -/
theorem St.cell7 (h : St w0 B5 B7 B8 c S X W) {q : Nat} {b : Bool} (hq : S[q]? = some b) : W.cell? ⟨B7, q, none⟩ = some (.bool b) := by
  rw [cell_of_row W B7 q _ _ (0, 0) h.s7]; exact cB_at hq
theorem St.cell8 (h : St w0 B5 B7 B8 c S X W) {q : Nat} {x : UInt8} (hq : X[q]? = some x) : W.cell? ⟨B8, q, none⟩ = some (.int .u8 (x.toNat : Int)) := by
  rw [cell_of_row W B8 q _ _ (0, 0) h.s8]; exact cH_at hq
theorem St.fr7 (h : St w0 B5 B7 B8 c S X W) (q : Nat) : W.frozen? ⟨B7, q, none⟩ = false := frozen_of_row W B7 q _ _ h.s7
theorem St.fr8 (h : St w0 B5 B7 B8 c S X W) (q : Nat) : W.frozen? ⟨B8, q, none⟩ = false := frozen_of_row W B8 q _ _ h.s8
theorem oth_row {A : Array Value} {t : TypeId} (hs : W.heap[B]? = some (.cells A t (0, 0))) (ht : Other t) (q : Nat) (u : Value) : Oth W (W.setCell ⟨B, q, none⟩ u) := fun k hk => by
  by_cases e : k = B
  · subst e
    exact .inr ⟨A, _, t, ht, hs, heap_setCell_same _ _ _ _ _ _ hs⟩
  · exact .inl (heap_setCell_other _ _ _ _ e)
theorem other_7 : Other 33 := ⟨by decide, by decide, by decide, by decide⟩
theorem other_8 : Other 35 := ⟨by decide, by decide, by decide, by decide⟩
theorem St.set7 (h : St w0 B5 B7 B8 c S X W) (q : Nat) (b : Bool) : St w0 B5 B7 B8 c (S.set q b) X (W.setCell ⟨B7, q, none⟩ (.bool b)) :=
  ⟨h.bel.setCell h.l7 _, h.box.oth (oth_row h.s7 other_7 q _) (heap_setCell_other _ _ _ _ h.n57), by rw [heap_setCell_same _ _ _ _ _ _ h.s7, cB_set], (heap_setCell_other _ _ _ _ h.n78.symm).trans h.s8, h.l5, h.l7, h.l8⟩
theorem St.set8 (h : St w0 B5 B7 B8 c S X W) (q : Nat) (x : UInt8) : St w0 B5 B7 B8 c S (X.set q x) (W.setCell ⟨B8, q, none⟩ (.int .u8 (x.toNat : Int))) :=
  ⟨h.bel.setCell h.l8 _, h.box.oth (oth_row h.s8 other_8 q _) (heap_setCell_other _ _ _ _ h.n58), (heap_setCell_other _ _ _ _ h.n78).trans h.s7, by rw [heap_setCell_same _ _ _ _ _ _ h.s8, cH_set], h.l5, h.l7, h.l8⟩
theorem Bx.set7 (h : St w0 B5 B7 B8 c S X W) {c' : Chp} (hB : Bx W B c') (q : Nat) (u : Value) : Bx (W.setCell ⟨B7, q, none⟩ u) B c' :=
  hB.oth (oth_row h.s7 other_7 q _) (heap_setCell_other _ _ _ _ (hB.ne_row h.s7 (by decide)))
theorem Bx.set8 (h : St w0 B5 B7 B8 c S X W) {c' : Chp} (hB : Bx W B c') (q : Nat) (u : Value) : Bx (W.setCell ⟨B8, q, none⟩ u) B c' :=
  hB.oth (oth_row h.s8 other_8 q _) (heap_setCell_other _ _ _ _ (hB.ne_row h.s8 (by decide)))
/-- A new box that a chip is put into. -/
theorem bx_make {v : Value} (h : RdN W v c) : ∃ A W', v = .agg A ∧ (chipStore ⟨W.heap.size, 0, none⟩ (.agg A)).run Try.prog (W.alloc (.cells zc 27)) = .ok () W' ∧ Bx W' W.heap.size c ∧ Below W.heap.size W W' := by
  obtain ⟨A, W', h1, h2, h3, h4, h5, h6⟩ := box_make h
  exact ⟨A, W', h1, h2, ⟨A, h3, h6, h4⟩, h5⟩
theorem own5 {base : Nat} {v : Value} {l : List UInt8} (h : OwnB W base v l) (h5 : l.length = 5) : ∃ g cap, v = .slice (some ⟨g, 0, none⟩) 5 cap ∧ ∀ (j : Nat) x, l[j]? = some x → W.cell? ⟨g, j, none⟩ = some (.int .u8 (x.toNat : Int)) := by
  obtain ⟨g, cap, hv, -, -, hb, -⟩ := own_form h (by omega)
  rw [h5] at hv
  refine ⟨g, cap, hv, fun j x hx => ?_⟩
  have h2 := h
  unfold OwnB at h2
  rw [h5] at h2
  subst hv
  rw [World.ownsRow.cellAt h2 j (by have := (List.getElem?_eq_some_iff.1 hx).1; omega)]
  exact cellsB_at hx
def five (x : UInt8) : Array Value := #[.int .u8 (x.toNat : Int), .int .u8 (x.toNat : Int), .int .u8 (x.toNat : Int), .int .u8 (x.toNat : Int), .int .u8 (x.toNat : Int)]
theorem five_below (W : World) (x : UInt8) : Below W.heap.size W (W.alloc (.cells (five x) 5)).drew := ((Below.refl _ _).alloc (Nat.le_refl _) _).drew
theorem five_rd (W : World) (x : UInt8) : RdB (W.alloc (.cells (five x) 5)).drew (.slice (some ⟨W.heap.size, 0, none⟩) 5 5) (List.replicate 5 x) :=
  RdRow.later (w := W.alloc (.cells (five x) 5)) (by
    refine ⟨some ⟨W.heap.size, 0, none⟩, 5, rfl, by simp, by decide, (fun h => by cases h), fun ad ha j u hu => ?_⟩
    cases ha
    rw [add_here, Nat.zero_add, World.cell?_alloc_at _ _ _ _ rfl]
    simpa [cellsB, byV, five] using hu) ((Below.refl _ _).drew)
def z5 : Array Value := #[.int .u8 0, .int .u8 0, .int .u8 0, .int .u8 0, .int .u8 0]
theorem z5_rd (W : World) : RdB (W.alloc (.cells z5 5)) (.slice (some ⟨W.heap.size, 0, none⟩) 5 5) (List.replicate 5 0) := by
  refine ⟨some ⟨W.heap.size, 0, none⟩, 5, rfl, by simp, by decide, (fun h => by cases h), fun ad ha j u hu => ?_⟩
  cases ha
  rw [add_here, Nat.zero_add, World.cell?_alloc_at _ _ _ _ rfl]
  simpa [cellsB, byV, z5] using hu
def fiveMake (n m : Value) : Sem Value := Instr.makeSlice 42 n m
theorem make_five (n m : Value) : Instr.makeSlice 42 n m = fiveMake n m := rfl
theorem run_five (w : World) : (fiveMake (.int .i64 5) (.int .i64 5)).run Try.prog w = .ok (.slice (some ⟨w.heap.size, 0, none⟩) 5 5) (w.alloc (.cells z5 5)) := by kernel_rfl
/-- A chip is put into a box that was made ahead of the call. -/
theorem box_late {w : World} {v : Value} {c : Chp} {B : Nat} (h : RdN w v c) (hB : Box w B zc) : ∃ A, v = .agg A ∧ (chipStore ⟨B, 0, none⟩ (.agg A)).run Try.prog w = .ok () (w.setRow B A) := by
  obtain ⟨vb, vf, rfl, h1, -⟩ := rdC_form h.rd
  exact ⟨chipCells c vb vf, rfl, hB.store rfl rfl h1⟩
end Go.Proofs.Ytilgppijmkcomaa.Chip
