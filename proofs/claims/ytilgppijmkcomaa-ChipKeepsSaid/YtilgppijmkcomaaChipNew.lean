/- chip.New: a chip that is erased. -/
import Derived.Test.YtilgppijmkcomaaChipRep
import Derived.Laws.OwnMore
namespace Go.Proofs.Ytilgppijmkcomaa.Chip
open Go.RowKit Go.Sort Go.Shelf

def blksMake (n m : Value) : Sem Value := Instr.makeSlice 25 n m
theorem make_blks (n m : Value) : Instr.makeSlice 25 n m = blksMake n m := rfl
def pagesMake (n m : Value) : Sem Value := Instr.makeSlice 38 n m
theorem make_pages (n m : Value) : Instr.makeSlice 38 n m = pagesMake n m := rfl
def chipBuild (parts : Array (Nat × Value)) : Sem Value := Instr.build 27 parts
theorem build_chip (parts : Array (Nat × Value)) : Instr.build 27 parts = chipBuild parts := rfl
theorem run_chipBuild0 (w : World) : (chipBuild #[]).run Try.prog w = .ok (.agg zc) w := by kernel_rfl
theorem run_chipBuild (m s : Int) (a : Option Addr) (n c : Nat) (w : World) : (chipBuild #[(0, .int .i64 m), (1, .int .i64 s), (2, .slice a n c)]).run Try.prog w = .ok (.agg #[.int .i64 m, .int .i64 s, .slice a n c, .int .i64 0, .bool false, .slice none 0 0]) w := by kernel_rfl
def nilV : Value := .slice none 0 0
def zB (x : Value) : List Value := [x, .int .i64 0, .int .i64 0, .bool false]
def zAll (xs : List Value) : List Value := xs.flatMap zB
theorem zAll_bk (xs : List Value) (p : List (List UInt8)) : zAll xs = bkAll xs (List.replicate xs.length ⟨p, 0, 0, false⟩) := by
  induction xs with
  | nil => rfl
  | cons x xs ih => rw [List.length_cons, List.replicate_succ]; show zB x ++ zAll xs = bkC x _ ++ bkAll xs _; rw [ih]; rfl
theorem zAll_length (xs : List Value) : (zAll xs).length = xs.length * 4 := by rw [zAll_bk xs [], bkAll_length _ _ (by simp), List.length_replicate]
theorem zAll_at {xs : List Value} {i : Nat} {x : Value} (h : xs[i]? = some x) {j : Nat} (hj : j < 4) : (zAll xs)[i * 4 + j]? = (zB x)[j]? := by
  have hl := (List.getElem?_eq_some_iff.1 h).1
  rw [zAll_bk xs []]
  exact bkAll_at (b := ⟨[], 0, 0, false⟩) h (by rw [List.getElem?_replicate, if_pos hl]) hj
theorem zAll_set {xs : List Value} {i : Nat} {x : Value} (h : i < xs.length) : (zAll xs).set (i * 4) x = zAll (xs.set i x) := by
  have h1 : xs[i]? = some xs[i] := List.getElem?_eq_getElem h
  have h2 : (List.replicate xs.length (⟨[], 0, 0, false⟩ : Blk))[i]? = some ⟨[], 0, 0, false⟩ := by rw [List.getElem?_replicate, if_pos h]
  have := bkAll_set (x' := x) (b' := ⟨[], 0, 0, false⟩) h1 h2 (j := 0) (by omega) x rfl
  rw [set_same h2, Nat.add_zero] at this
  rw [zAll_bk xs [], this, zAll_bk (xs.set i x) [], List.length_set]
theorem infoK2 : (Try.prog.info? 40).map (fun i => (i.zero, i.size, i.bytes)) = some (some (.agg #[nilV, .int .i64 0, .int .i64 0, .bool false]), 4, 48) := by kernel_rfl
theorem zeros_are (n : Nat) : madeCells #[nilV, .int .i64 0, .int .i64 0, .bool false] (n * 4) = (zAll (List.replicate n nilV)).toArray := by
  refine Array.toList_inj.1 (List.ext_getElem? fun j => ?_)
  rw [List.toList_toArray, Array.getElem?_toList]
  by_cases hj : j < n * 4
  · have h1 : (List.replicate n nilV)[j / 4]? = some nilV := by rw [List.getElem?_replicate, if_pos (by omega)]
    have h2 := zAll_at h1 (j := j % 4) (by omega)
    rw [show j / 4 * 4 + j % 4 = j by omega] at h2
    rw [h2, Array.getElem?_eq_getElem (by rw [size_madeCells]; exact hj)]
    unfold madeCells
    rw [Array.getElem_map, Array.getElem_range]
    have h4 : j % 4 < 4 := by omega
    show some ((#[nilV, Value.int .i64 0, .int .i64 0, .bool false] : Array Value)[j % 4]!) = _
    generalize j % 4 = r at h4
    match r, h4 with
    | 0, _ => rfl
    | 1, _ => rfl
    | 2, _ => rfl
    | 3, _ => rfl
  · rw [Array.getElem?_eq_none (by rw [size_madeCells]; omega), List.getElem?_eq_none (by rw [zAll_length, List.length_replicate]; omega)]
theorem run_blksMake (n : Nat) (hn : n ≤ 65536) (w : World) : (blksMake (.int .i64 (n : Int)) (.int .i64 (n : Int))).run Try.prog w = .ok (.slice (some ⟨w.heap.size, 0, none⟩) n n) (w.alloc (.cells (zAll (List.replicate n nilV)).toArray 40)) := by
  obtain ⟨i, h0, h1, h2, h3⟩ := info_parts infoK2
  have := run_make (P := Try.prog) w 25 40 i _ Try.underlying25 h0 h1 .i64 .i64 n n (by omega) (by omega) (by rw [h3]; omega) (by omega)
  rw [Int.toNat_natCast, h2] at this
  rw [← zeros_are]
  exact this
theorem run_pagesMake (n : Nat) (hn : n ≤ 65536) (w : World) : (pagesMake (.int .i64 (n : Int)) (.int .i64 (n : Int))).run Try.prog w = .ok (.slice (some ⟨w.heap.size, 0, none⟩) n n) (w.alloc (.cells (List.replicate n nilV).toArray 42)) := by
  obtain ⟨i, h0, h1, h2, h3⟩ := info_parts infoU
  have := run_make (P := Try.prog) w 38 42 i _ Try.underlying38 h0 h1 .i64 .i64 n n (by omega) (by omega) (by rw [h3]; omega) (by omega)
  rw [Int.toNat_natCast, h2, Nat.mul_one] at this
  have e := toList_madeCells_one nilV n
  have e2 : madeCells (Value.slice none 0 0).cells n = (List.replicate n nilV).toArray := by rw [← e, Array.toArray_toList]; rfl
  rw [e2] at this
  exact this
attribute [local go_sem ↓] loadVar_chip storeVar_chip make_blks make_pages build_chip

/-- A row of pages of which k are there, each of them erased. -/
def PgL (w : World) (x : Value) (m s k : Nat) : Prop := ∃ gP us, x = .slice (some ⟨gP, 0, none⟩) m m ∧ w.heap[gP]? = some (.cells (us ++ List.replicate (m - k) nilV).toArray 42 (0, 0)) ∧ us.length = k ∧ ∀ u ∈ us, PgB w u (List.replicate s 255)
theorem PgB.grown {w w' : World} {v : Value} {l : List UInt8} (h : PgB w v l) {g : Nat} {cur : Array Value} {t : TypeId} (hg : w.heap[g]? = some (.cells cur t (0, 0))) (ht : t ≠ 5) (hw : w.grownBy w' (some g)) : PgB w' v l := by
  obtain ⟨g', cap, cur', h1, h2, h3⟩ := h
  refine ⟨g', cap, cur', h1, (hw.block g' (Array.getElem?_eq_some_iff.1 h2).1 fun e => ?_).trans h2, h3⟩
  cases e
  rw [h2] at hg
  simp at hg
  exact ht hg.2.symm
theorem PgL.grown {w w' : World} {x : Value} {m s k : Nat} (h : PgL w x m s k) {g : Nat} {cur : Array Value} (hg : w.heap[g]? = some (.cells cur 40 (0, 0))) (hw : w.grownBy w' (some g)) : PgL w' x m s k := by
  obtain ⟨gP, us, h1, h2, h3, h4⟩ := h
  refine ⟨gP, us, h1, (hw.block gP (Array.getElem?_eq_some_iff.1 h2).1 fun e => ?_).trans h2, h3, fun u hu => (h4 u hu).grown hg (by decide) hw⟩
  cases e
  rw [h2] at hg
  simp at hg
theorem PgL.rd {w : World} {x : Value} {m s : Nat} (hm : m ≤ maxLen) (h : PgL w x m s m) : RdP w x (List.replicate m (List.replicate s 255)) := by
  obtain ⟨gP, us, h1, h2, h3, h4⟩ := h
  rw [Nat.sub_self, List.replicate_zero, List.append_nil] at h2
  refine ⟨us, ⟨by simp [h3], fun i u l hu hl => ?_⟩, some ⟨gP, 0, none⟩, m, by rw [h1, List.length_replicate], by simp, hm, (fun h => by cases h), fun ad ha j u hu => ?_⟩
  · have := h4 u (List.mem_of_getElem? hu)
    rw [List.getElem?_replicate] at hl
    split at hl
    · cases hl; exact this.rd
    · cases hl
  · cases ha
    rw [add_here, Nat.zero_add, cell_of_row w gP j _ _ _ h2]
    simpa using hu

/-- How far a new chip is: i blocks have their pages. -/
structure Nw (w : World) (gB B : Nat) (n m s i : Nat) (W : World) : Prop where
  bel : Below w.heap.size w W
  res : Box W w.heap.size zc
  box : Box W B #[.int .i64 (m : Int), .int .i64 (s : Int), .slice (some ⟨gB, 0, none⟩) n n, .int .i64 0, .bool false, .slice none 0 0]
  row : ∃ T : List Value, T.length = i ∧ W.heap[gB]? = some (.cells (zAll (T ++ List.replicate (n - i) nilV)).toArray 40 (0, 0)) ∧ ∀ x ∈ T, PgL W x m s m
  le : w.heap.size + 1 ≤ gB ∧ w.heap.size + 1 ≤ B ∧ B ≠ gB
/-- While a block gets its pages. -/
structure Nx (wo : World) (gB N M S i : Nat) (T : List Value) (k : Nat) (W : World) : Prop where
  g : wo.grownBy W (some gB)
  row : W.heap[gB]? = some (.cells (zAll (T ++ [.slice (some ⟨wo.heap.size, 0, none⟩) M M] ++ List.replicate (N - (i + 1)) nilV)).toArray 40 (0, 0))
  pg : PgL W (.slice (some ⟨wo.heap.size, 0, none⟩) M M) M S k
theorem Nw.cellB {w W : World} {gB B n m s i : Nat} (h : Nw w gB B n m s i W) : W.cell? ⟨B, 2, none⟩ = some (.slice (some ⟨gB, 0, none⟩) n n) := by rw [h.box.cell]; rfl
theorem Nw.cellI {w W : World} {gB B n m s i : Nat} (h : Nw w gB B n m s i W) (hi : i < n) : W.cell? ⟨gB, i * 4, none⟩ = some nilV ∧ W.frozen? ⟨gB, i * 4, none⟩ = false := by
  obtain ⟨T, h1, h2, h3⟩ := h.row
  refine ⟨?_, frozen_of_row W gB _ _ _ h2⟩
  rw [cell_of_row W gB (i * 4) _ _ _ h2, List.getElem?_toArray]
  have : (T ++ List.replicate (n - i) nilV)[i]? = some nilV := by rw [List.getElem?_append_right (by omega), h1, Nat.sub_self, List.getElem?_replicate, if_pos (by omega)]
  have := zAll_at this (j := 0) (by omega)
  simpa [zB] using this
theorem Nw.open {w W : World} {gB B n m s i : Nat} (h : Nw w gB B n m s i W) (hi : i < n) : ∃ T, T.length = i ∧ (∀ x ∈ T, PgL W x m s m) ∧ W.heap[gB]? = some (.cells (zAll (T ++ List.replicate (n - i) nilV)).toArray 40 (0, 0)) ∧ Nx W gB n m s i T 0 ((W.alloc (.cells (List.replicate m nilV).toArray 42)).setCell ⟨gB, i * 4, none⟩ (.slice (some ⟨W.heap.size, 0, none⟩) m m)).drew := by
  obtain ⟨T, h1, h2, h3⟩ := h.row
  have hlt := (Array.getElem?_eq_some_iff.1 h2).1
  have h4 : (W.alloc (.cells (List.replicate m nilV).toArray 42)).heap[gB]? = some (.cells (zAll (T ++ List.replicate (n - i) nilV)).toArray 40 (0, 0)) := by rw [Go.heap_alloc_old _ _ hlt]; exact h2
  refine ⟨T, h1, h3, h2, ?_, ?_, W.heap.size, [], rfl, ?_, rfl, fun u hu => by cases hu⟩
  · have := grown_tr (World.grownBy_alloc W (.cells (List.replicate m nilV).toArray 42) (some gB)) (grown_set _ gB (i * 4) (.slice (some ⟨W.heap.size, 0, none⟩) m m))
    exact ⟨this.os, this.tape, this.output, this.size, this.block⟩
  · have := heap_setCell_same _ gB (i * 4) _ _ (.slice (some ⟨W.heap.size, 0, none⟩) m m) h4
    show ((W.alloc _).setCell _ _).heap[gB]? = _
    rw [this, List.setIfInBounds_toArray, zAll_set (by simp; omega)]
    have e : (T ++ List.replicate (n - i) nilV).set i (.slice (some ⟨W.heap.size, 0, none⟩) m m) = T ++ [.slice (some ⟨W.heap.size, 0, none⟩) m m] ++ List.replicate (n - (i + 1)) nilV := by
      rw [List.set_append_right _ _ (by omega), h1, Nat.sub_self, show n - i = (n - (i + 1)) + 1 by omega, List.replicate_succ, List.set_cons_zero]
      simp
    rw [e]
  · show ((W.alloc _).setCell _ _).heap[W.heap.size]? = _
    rw [heap_setCell_other _ _ _ _ (by simp; omega), Go.heap_alloc_new]
    simp
theorem Nx.box {w wo W : World} {gB B N M S i k : Nat} {T : List Value} (h : Nx wo gB N M S i T k W) (h0 : Nw w gB B N M S i wo) : Box W w.heap.size zc ∧ Box W B #[.int .i64 (M : Int), .int .i64 (S : Int), .slice (some ⟨gB, 0, none⟩) N N, .int .i64 0, .bool false, .slice none 0 0] ∧ Below w.heap.size w W := by
  have hle := h0.le
  exact ⟨(h.g.block _ h0.res.lt (by simp; omega)).trans h0.res, (h.g.block _ h0.box.lt (by simp; omega)).trans h0.box, h0.bel.grown h.g h0.bel.size (fun k hk => by cases hk; omega)⟩
theorem Nx.cellP {wo W : World} {gB N M S i k : Nat} {T : List Value} (h : Nx wo gB N M S i T k W) (hT : T.length = i) : W.cell? ⟨gB, i * 4, none⟩ = some (.slice (some ⟨wo.heap.size, 0, none⟩) M M) := by
  rw [cell_of_row W gB (i * 4) _ _ _ h.row, List.getElem?_toArray]
  have : (T ++ [.slice (some ⟨wo.heap.size, 0, none⟩) M M] ++ List.replicate (N - (i + 1)) nilV)[i]? = some (.slice (some ⟨wo.heap.size, 0, none⟩) M M) := by
    rw [List.append_assoc, List.getElem?_append_right (by omega), hT, Nat.sub_self]; rfl
  have := zAll_at this (j := 0) (by omega)
  simpa [zB] using this
theorem Nx.cellK {wo W : World} {gB N M S i k : Nat} {T : List Value} (h : Nx wo gB N M S i T k W) (hk : k < M) : W.cell? ⟨wo.heap.size, k, none⟩ = some nilV ∧ W.frozen? ⟨wo.heap.size, k, none⟩ = false ∧ wo.heap.size < W.heap.size := by
  obtain ⟨gP, us, h1, h2, h3, h4⟩ := h.pg
  cases h1
  refine ⟨?_, frozen_of_row W _ _ _ _ h2, (Array.getElem?_eq_some_iff.1 h2).1⟩
  rw [cell_of_row W _ k _ _ _ h2, List.getElem?_toArray, List.getElem?_append_right (by omega), h3, Nat.sub_self, List.getElem?_replicate, if_pos (by omega)]
theorem Nx.step {wo W W' : World} {gB N M S i k : Nat} {T : List Value} (h : Nx wo gB N M S i T k W) (hk : k < M) (hgb : gB < wo.heap.size) (hb : Below W.heap.size W W') {v : Value} (hv : PgB W' v (List.replicate S 255)) : Nx wo gB N M S i T (k + 1) (W'.setCell ⟨wo.heap.size, k, none⟩ v) := by
  obtain ⟨gP, us, h1, h2, h3, h4⟩ := h.pg
  cases h1
  have hsz := h.g.size
  have hlt := (Array.getElem?_eq_some_iff.1 h2).1
  have h2' := (hb.block _ hlt).trans h2
  refine ⟨?_, ?_, wo.heap.size, us ++ [v], rfl, ?_, by simp [h3], fun u hu => ?_⟩
  · have g1 := grown_tr h.g (grown_bel hb (some gB))
    refine ⟨g1.os, g1.tape, g1.output, by simpa using g1.size, fun j hj hne => ?_⟩
    rw [heap_setCell_other _ _ _ _ (by simp; omega)]
    exact g1.block j hj hne
  · rw [heap_setCell_other _ _ _ _ (by simp; omega), hb.block _ (Array.getElem?_eq_some_iff.1 h.row).1]
    exact h.row
  · rw [heap_setCell_same _ wo.heap.size k _ _ v h2', List.setIfInBounds_toArray, show M - k = (M - (k + 1)) + 1 by omega, List.replicate_succ]
    congr 3
    rw [List.set_append_right _ _ (by omega), h3, Nat.sub_self, List.set_cons_zero]
    simp
  · rcases List.mem_append.1 hu with hu | hu
    · exact ((h4 u hu).later hb).kept h2' (by decide) v
    · simp at hu; subst hu; exact hv.kept h2' (by decide) u
theorem Nx.close {w wo W : World} {gB B N M S i : Nat} {T : List Value} (h : Nx wo gB N M S i T M W) (h0 : Nw w gB B N M S i wo) (hT : T.length = i) (hTP : ∀ x ∈ T, PgL wo x M S M) (hgo : wo.heap[gB]? = some (.cells (zAll (T ++ List.replicate (N - i) nilV)).toArray 40 (0, 0))) : Nw w gB B N M S (i + 1) W := by
  obtain ⟨b1, b2, b3⟩ := h.box h0
  refine ⟨b3, b1, b2, ⟨T ++ [.slice (some ⟨wo.heap.size, 0, none⟩) M M], by simp [hT], h.row, fun x hx => ?_⟩, h0.le⟩
  rcases List.mem_append.1 hx with hx | hx
  · exact (hTP x hx).grown hgo h.g
  · simp at hx; subst hx; exact h.pg
theorem PgB.setRow {w : World} {v : Value} {l : List UInt8} (h : PgB w v l) {g : Nat} {cur : Array Value} {t : TypeId} (hg : w.heap[g]? = some (.cells cur t (0, 0))) (ht : t ≠ 5) (ds : Array Value) : PgB (w.setRow g ds) v l :=
  h.grown hg ht ⟨rfl, rfl, rfl, by simp, fun k _ hk => setRow_other w g k ds (fun e => hk (by simp [e]))⟩
/-- As Nw, but for the result's box, which was written. -/
structure Nz (gB B n m s : Nat) (W : World) : Prop where
  row : ∃ T : List Value, T.length = n ∧ W.heap[gB]? = some (.cells (zAll T).toArray 40 (0, 0)) ∧ ∀ x ∈ T, PgL W x m s m
theorem PgB.oth {w W : World} {v : Value} {l : List UInt8} (h : PgB w v l) (ho : Oth w W) : PgB W v l := by
  obtain ⟨g, cap, cur, h1, h2, h3⟩ := h
  exact ⟨g, cap, cur, h1, ho.block h2 (fun h => h.1 rfl), h3⟩
theorem Nz.oth {w W : World} {gB B n m s : Nat} (h : Nz gB B n m s w) (ho : Oth w W) : Nz gB B n m s W := by
  obtain ⟨T, h1, h2, h3⟩ := h.row
  refine ⟨T, h1, ho.block h2 (fun h => h.2.1 rfl), fun x hx => ?_⟩
  obtain ⟨gP, us, a1, a2, a3, a4⟩ := h3 x hx
  exact ⟨gP, us, a1, ho.block a2 (fun h => h.2.2.1 rfl), a3, fun u hu => (a4 u hu).oth ho⟩
theorem Nw.setRow {w W : World} {gB B n m s : Nat} (h : Nw w gB B n m s n W) (ds : Array Value) : Nz gB B n m s (W.setRow w.heap.size ds) := by
  obtain ⟨T, h1, h2, h3⟩ := h.row
  rw [Nat.sub_self, List.replicate_zero, List.append_nil] at h2
  have hle := h.le
  refine ⟨T, h1, (setRow_other _ _ _ _ (by omega)).trans h2, fun x hx => ?_⟩
  obtain ⟨gP, us, a1, a2, a3, a4⟩ := h3 x hx
  refine ⟨gP, us, a1, (setRow_other _ _ _ _ fun e => ?_).trans a2, a3, fun u hu => (a4 u hu).setRow h.res (by decide) ds⟩
  subst e
  have := h.res
  unfold Box at this
  rw [a2] at this
  simp at this
theorem Nz.done {W : World} {gB B N M S : Nat} (h : Nz gB B N M S W) (hM : M ≤ maxLen) (hN : N ≤ maxLen) : RdC W (chipV (newChp N M S) (.slice (some ⟨gB, 0, none⟩) N N) (.slice none 0 0)) (newChp N M S) := by
  obtain ⟨T, h1, h2, h3⟩ := h.row
  refine ⟨_, _, rfl, ⟨T, ⟨by show T.length = (List.replicate N (newBlk M S)).length; simp [h1], fun i x b hx hb => ?_⟩, some ⟨gB, 0, none⟩, N, ?_, ?_, hN, (fun h => by cases h), fun ad ha j u hu => ?_⟩, none, 0, rfl, Nat.le_refl _, Nat.zero_le _, fun _ => rfl, fun ad ha => by cases ha⟩
  · have hb' : b = newBlk M S := by
      have : (List.replicate N (newBlk M S))[i]? = some b := hb
      simp [List.getElem?_replicate] at this
      exact this.2.symm
    subst hb'
    exact (h3 x (List.mem_of_getElem? hx)).rd hM
  · show Value.slice _ N N = Value.slice _ (List.replicate N (newBlk M S)).length N
    rw [List.length_replicate]
  · show (List.replicate N (newBlk M S)).length ≤ N
    rw [List.length_replicate]; exact Nat.le_refl _
  · cases ha
    rw [add_here, Nat.zero_add, cell_of_row W gB j _ _ _ h2, List.getElem?_toArray, zAll_bk T (List.replicate M (List.replicate S 255)), h1]
    exact hu

set_option maxHeartbeats 4000000 in
set_option maxRecDepth 100000 in
theorem new_any (n m s : Int) (w : World) : Calls Try.prog 6 #[.int .i64 n, .int .i64 m, .int .i64 s] w (ChipPost w (if shapedB n m s = true then newChp n.toNat m.toNat s.toNat else chp0) (if shapedB n m s = true then 0 else 1)) := by
  have C1 := shaped_any n m s
  have h0 : Box (w.alloc (.cells zc 27)) w.heap.size zc := Box.new _ _
  have hb0 : Below w.heap.size w (w.alloc (.cells zc 27)) := (Below.refl _ _).alloc (Nat.le_refl _) _
  have hone : One6 zc := one6 chp0 rfl rfl
  cases hsh : shapedB n m s with
  | false =>
    rw [hsh] at C1
    have HC1 := Lib.hid C1
    have bu := run_chipBuild0
    have st := store_new (ds := zc) rfl hone w zc rfl
    have H0 := Lib.hid h0
    have HB0 := Lib.hid hb0
    unfold zc at st bu
    clear C1 hsh h0 hb0 hone
    go_enter Try.func6, Try.ntmps6
    go_wp2_with (go_at_call 16; with_reducible refine (HC1.out _).mono ?_; rintro e w' ⟨rfl, rfl⟩)
    refine bodyPost_ret (v := .tuple #[.agg zc, .int .i64 1]) (out2 rfl H0.out rfl _ rfl rfl) rfl ?_
    exact ⟨_, rfl, fun V hV => ⟨_, _, rfl, ⟨[], ⟨rfl, fun i a b ha => by simp at ha⟩, none, 0, rfl, Nat.le_refl _, Nat.zero_le _, fun _ => rfl, fun ad ha => by cases ha⟩, none, 0, rfl, Nat.le_refl _, Nat.zero_le _, fun _ => rfl, fun ad ha => by cases ha⟩, HB0.out⟩
  | true =>
    rw [hsh] at C1
    have HC1 := Lib.hid C1
    unfold shapedB at hsh
    simp only [Bool.and_eq_true, withinB_iff] at hsh
    obtain ⟨⟨⟨n1, n2⟩, m1, m2⟩, s1, s2⟩ := hsh
    obtain ⟨N, rfl, hNt⟩ : ∃ N : Nat, n = N ∧ n.toNat = N := ⟨n.toNat, by omega, rfl⟩
    obtain ⟨M, rfl, hMt⟩ : ∃ M : Nat, m = M ∧ m.toNat = M := ⟨m.toNat, by omega, rfl⟩
    obtain ⟨S, rfl, hSt⟩ : ∃ S : Nat, s = S ∧ s.toNat = S := ⟨s.toNat, by omega, rfl⟩
    have mb := run_blksMake N (by omega) (w.alloc (.cells zc 27))
    have bu := run_chipBuild M S (some ⟨w.heap.size + 1, 0, none⟩) N N
    obtain ⟨W1, hW1⟩ : ∃ W1, W1 = (w.alloc (.cells zc 27)).alloc (.cells (zAll (List.replicate N nilV)).toArray 40) := ⟨_, rfl⟩
    have hz1 : W1.heap.size = w.heap.size + 2 := by rw [hW1]; simp
    have hbW1 : Below w.heap.size w W1 := by rw [hW1]; exact below2 _ _ _
    have hrW1 : Box W1 w.heap.size zc := by rw [hW1]; exact h0.later ((Below.refl _ _).alloc (Nat.le_refl _) _)
    have hgW1 : W1.heap[w.heap.size + 1]? = some (.cells (zAll (List.replicate N nilV)).toArray 40 (0, 0)) := by
      rw [hW1]
      have := Go.heap_alloc_new (w.alloc (.cells zc 27)) (.cells (zAll (List.replicate N nilV)).toArray 40)
      simpa using this
    have st := store_new (ds := #[.int .i64 (M : Int), .int .i64 (S : Int), .slice (some ⟨w.heap.size + 1, 0, none⟩) N N, .int .i64 0, .bool false, .slice none 0 0]) rfl (one6 ⟨M, S, [], 0, false, []⟩ rfl rfl) W1 zc rfl
    have hbx := Box.new W1 #[.int .i64 (M : Int), .int .i64 (S : Int), .slice (some ⟨w.heap.size + 1, 0, none⟩) N N, .int .i64 0, .bool false, .slice none 0 0]
    have hal : Below W1.heap.size W1 (W1.alloc (.cells #[.int .i64 (M : Int), .int .i64 (S : Int), .slice (some ⟨w.heap.size + 1, 0, none⟩) N N, .int .i64 0, .bool false, .slice none 0 0] 27)) := (Below.refl _ _).alloc (Nat.le_refl _) _
    have hnw : Nw w (w.heap.size + 1) W1.heap.size N M S 0 (W1.alloc (.cells #[.int .i64 (M : Int), .int .i64 (S : Int), .slice (some ⟨w.heap.size + 1, 0, none⟩) N N, .int .i64 0, .bool false, .slice none 0 0] 27)) :=
      ⟨hbW1.trans (hal.mono hbW1.size), hrW1.later hal, hbx, ⟨[], rfl, (hal.block _ (by omega)).trans hgW1, fun x hx => by cases hx⟩, by omega, by omega, by omega⟩
    obtain ⟨B, hB⟩ : ∃ B, B = W1.heap.size := ⟨_, rfl⟩
    obtain ⟨W2, hW2⟩ : ∃ W2, W2 = W1.alloc (.cells #[.int .i64 (M : Int), .int .i64 (S : Int), .slice (some ⟨w.heap.size + 1, 0, none⟩) N N, .int .i64 0, .bool false, .slice none 0 0] 27) := ⟨_, rfl⟩
    rw [← hW2] at hnw st
    rw [← hB] at hnw
    have HNW := Lib.hid hnw
    have HW1 := Lib.hid hW1
    have HB := Lib.hid hB
    rw [← hW1] at mb
    have hz0 : (w.alloc (.cells zc 27)).heap.size = w.heap.size + 1 := by simp
    rw [hz0] at mb
    unfold zc at mb st HW1
    have hN32 : N ≤ 32 := by omega
    have hM16 : M ≤ 16 := by omega
    have hS256 : S ≤ 256 := by omega
    have hS1 : 1 ≤ S := by omega
    clear C1 h0 hb0 hone hz1 hbW1 hrW1 hgW1 hbx hal hnw hW1 hB hW2 hz0 hNt hMt hSt
    go_enter Try.func6, Try.ntmps6
    go_wp2_with (go_at_call 16; with_reducible refine (HC1.out _).mono ?_; rintro e w' ⟨rfl, rfl⟩)
    rw [← HB.out]
    clear mb bu st
    have CR : Hid (∀ W : World, Calls Try.prog 17 #[.slice (some ⟨W.heap.size, 0, none⟩) 1 1, .int .i64 (S : Int)] (W.alloc (.cells #[.int .u8 255] 5)).drew fun e w' => ∃ v', e = .returned v' ∧ PgB w' v' (List.replicate S 255) ∧ Below W.heap.size W w') := fun W => by
      have hb : Below W.heap.size W (W.alloc (.cells #[.int .u8 255] 5)).drew := ((Below.refl _ _).alloc (Nat.le_refl _) _).drew
      refine (repeat_any 255 S hS1 (by omega) _ _ ⟨some ⟨W.heap.size, 0, none⟩, 1, rfl, Nat.le_refl _, by decide, (fun h => by cases h), fun ad ha j u hu => by
        cases ha
        rw [add_here, Nat.zero_add]
        have := World.cell?_alloc_at (w := W) #[.int .u8 255] 5 W.heap.size j rfl
        refine this.trans ?_
        simpa [cellsB, byV] using hu⟩).mono ?_
      rintro e w' ⟨v', rfl, h1, h2⟩
      exact ⟨v', rfl, h1, hb.trans (h2.mono hb.size)⟩
    go_loopw [9, 10, 23, 34] (fun _ _ t _ wr => ∃ i : Nat, i ≤ N ∧ t = .int .i64 i ∧ Hid (Nw w (w.heap.size + 1) B N M S i wr)) (fun _ _ t _ _ => N - (intOf t).toNat)
    case atStart => exact ⟨0, Nat.zero_le _, rfl, HNW⟩
    case round =>
      obtain ⟨i, hi, rfl, HN⟩ := hrel
      obtain ⟨wo, hwo⟩ : ∃ wo, wo = wr := ⟨_, rfl⟩
      subst hwo
      clear HNW
      by_cases hlt : i < N
      · have hltI : (i : Int) < N := by omega
        have hi0 : (0 : Int) ≤ i := by omega
        have cB := HN.out.cellB
        obtain ⟨ci, fi⟩ := HN.out.cellI hlt
        have mp := run_pagesMake M (by omega)
        obtain ⟨T, hT, hTP, hgo, hx⟩ := HN.out.open hlt
        have hal : Below wo.heap.size wo (wo.alloc (.cells (List.replicate M nilV).toArray 42)) := (Below.refl _ _).alloc (Nat.le_refl _) _
        have cB2 := keep_cell cB hal
        have ci2 := keep_cell ci hal
        have hgl := World.block_lt_of_cell? _ _ ci
        simp only at hgl
        have fi2 : (wo.alloc (.cells (List.replicate M nilV).toArray 42)).frozen? ⟨w.heap.size + 1, i * 4, none⟩ = false := ((bcell hal).2 _ _ hgl).trans fi
        rw [World.setCell_alloc_past _ _ _ _ hgl, List.toArray_replicate] at hx
        have cS : ((wo.setCell ⟨w.heap.size + 1, i * 4, none⟩ (.slice (some ⟨wo.heap.size, 0, none⟩) M M)).alloc (.cells (Array.replicate M nilV) 42)).cell? ⟨B, 2, none⟩ = some (.slice (some ⟨w.heap.size + 1, 0, none⟩) N N) := by
          have := (hx.box HN.out).2.1.cell 2
          exact this.trans rfl
        have HX := Lib.hid hx
        have HT := Lib.hid hT
        have HTP := Lib.hid hTP
        have HGO := Lib.hid hgo
        unfold nilV at ci2 ci
        clear hx hT hTP hgo hal
        go_wp2
        go_region_held3 (fun w' => w'.cell? ⟨B, 2, none⟩ = some (.slice (some ⟨w.heap.size + 1, 0, none⟩) N N)) (first | go_keep | exact cS) (fail)
        obtain ⟨W5, hW5⟩ : ∃ W5, W5 = ((wo.setCell ⟨w.heap.size + 1, i * 4, none⟩ (.slice (some ⟨wo.heap.size, 0, none⟩) M M)).alloc (.cells (Array.replicate M nilV) 42)).drew := ⟨_, rfl⟩
        rw [← hW5] at HX
        rw [← hW5]
        have HGL := Lib.hid hgl
        clear hW5 cB ci fi mp cB2 ci2 fi2 cS hgl
        go_wp2
        go_loopw [10, 34] (fun _ t wr => ∃ k : Nat, k ≤ M ∧ t = .int .i64 k ∧ Hid (Nx wo (w.heap.size + 1) N M S i T k wr)) (fun _ t _ => M - (intOf t).toNat)
        case atStart => exact ⟨0, Nat.zero_le _, rfl, HX⟩
        case round =>
          obtain ⟨k, hk, rfl, HI⟩ := hrel
          obtain ⟨wi, hwi⟩ : ∃ wi, wi = wr := ⟨_, rfl⟩
          subst hwi
          by_cases hlt2 : k < M
          · have hlt2I : (k : Int) < M := by omega
            have hk0 : (0 : Int) ≤ k := by omega
            have cB : wi.cell? ⟨B, 2, none⟩ = some (.slice (some ⟨w.heap.size + 1, 0, none⟩) N N) := by rw [(HI.out.box HN.out).2.1.cell]; rfl
            have cP := HI.out.cellP HT.out
            obtain ⟨ck, fk, hlk⟩ := HI.out.cellK hlt2
            have nb := World.new_ne wi _ cB
            have np := World.new_ne wi _ cP
            go_wp2
            have HGB : Hid (w.heap.size + 1 < wo.heap.size) := HGL.out
            unfold nilV at ck
            go_region_held3 (fun w' => w'.cell? ⟨B, 2, none⟩ = some (.slice (some ⟨w.heap.size + 1, 0, none⟩) N N) ∧ w'.cell? ⟨w.heap.size + 1, i * 4, none⟩ = some (.slice (some ⟨wo.heap.size, 0, none⟩) M M)) (first | go_keep | (exact ⟨cS1, cS2⟩))
              ((go_at_call 17; refine (CR.out wi).mono ?_; rintro e w7 ⟨v7, rfl, hp7, hb7⟩; obtain ⟨g7, c7, u7, hv7, -⟩ := id hp7; rw [List.length_replicate] at hv7; subst hv7; have hst := HI.out.step hlt2 HGB.out hb7 hp7; have cS1 := ((hst.box HN.out).2.1.cell 2).trans (show _ = some (Value.slice (some ⟨w.heap.size + 1, 0, none⟩) N N) from rfl); have cS2 := hst.cellP HT.out; have HST := Lib.hid hst; have cB7 := keep_cell cB hb7; have cP7 := keep_cell cP hb7; have ck7 := keep_cell ck hb7; have fk7 : w7.frozen? ⟨wo.heap.size, k, none⟩ = false := ((bcell hb7).2 _ _ hlk).trans fk; clear hst hp7 hb7))
            clear cS1 cS2 cB7 cP7 ck7 fk7 cB cP ck fk nb np
            go_wp2
            go_roundw
            case rel => exact ⟨k + 1, by omega, by go_num, HST⟩
            case measure => simp [intOf]; omega
          · obtain rfl : k = M := by omega
            have HNX := Lib.hid (HI.out.close HN.out HT.out HTP.out HGO.out)
            go_wp2
            go_roundw
            case rel => exact ⟨i + 1, by omega, by go_num, HNX⟩
            case measure => simp [intOf]; omega
      · obtain rfl : i = N := by omega
        have hone := one6 (newChp i M S) (vb := .slice (some ⟨w.heap.size + 1, 0, none⟩) i i) (vf := .slice none 0 0) rfl rfl
        have st := HN.out.res.store rfl rfl hone
        have ld := HN.out.box.load rfl
        have HBX := Lib.hid (HN.out.res.row (chipCells (newChp i M S) (.slice (some ⟨w.heap.size + 1, 0, none⟩) i i) (.slice none 0 0)))
        have HBL := Lib.hid (below_setRow HN.out.bel (Nat.le_refl _) (chipCells (newChp i M S) (.slice (some ⟨w.heap.size + 1, 0, none⟩) i i) (.slice none 0 0)))
        have HRD : Hid (RdN (wo.setRow w.heap.size (chipCells (newChp i M S) (.slice (some ⟨w.heap.size + 1, 0, none⟩) i i) (.slice none 0 0))) (chipV (newChp i M S) (.slice (some ⟨w.heap.size + 1, 0, none⟩) i i) (.slice none 0 0)) (newChp i M S)) :=
          fun V hV => ((HN.out.setRow _).oth hV).done (by unfold maxLen; omega) (by unfold maxLen; omega)
        unfold chipCells at st
        dsimp only [newChp] at st
        clear hone
        go_wp2
        refine bodyPost_ret (v := .tuple #[.agg (chipCells (newChp i M S) (.slice (some ⟨w.heap.size + 1, 0, none⟩) i i) (.slice none 0 0)), .int .i64 0]) (out2 rfl HBX.out rfl _ rfl rfl) rfl ?_
        exact ⟨_, rfl, HRD.out, HBL.out⟩
end Go.Proofs.Ytilgppijmkcomaa.Chip
