/- A trie's nodes: their cells in memory, and a row of them that is the call's own. -/
import Derived.Test.YtggjcjijoihilaaTabMem
import Derived.Laws.OwnMore
namespace Go.Proofs.Ytggjcjijoihilaa
open Go.RowKit Go.Sort Go.Shelf

/-- A node: its slots (a length and one, where it leads), and who is next. -/
structure Nd where
  sl : Nat → Nat × Nat
  nx : Nat → Nat
def nd0 : Nd := ⟨fun _ => (0, 0), fun _ => 0⟩
def ndC (n : Nd) (j : Nat) : Value :=
  if j < 32 then (if j % 2 = 0 then .int .i64 ((n.sl (j / 2)).1 : Nat) else .int .u16 ((n.sl (j / 2)).2 : Nat)) else .int .i64 (n.nx (j - 32) : Nat)
def ndl (n : Nd) : List Value := (List.range 48).map (ndC n)
theorem ndl_length (n : Nd) : (ndl n).length = 48 := by simp [ndl]
theorem ndl_at (n : Nd) {j : Nat} (h : j < 48) : (ndl n)[j]? = some (ndC n j) := by simp [ndl, h]
theorem ndl_one (n : Nd) : ∀ v ∈ ndl n, v.oneCell' = true := fun v hv => by
  unfold ndl at hv
  obtain ⟨j, -, rfl⟩ := List.mem_map.1 hv
  unfold ndC
  split
  · split <;> rfl
  · rfl
theorem ndC_len (n : Nd) {b : Nat} (h : b < 16) : ndC n (2 * b) = .int .i64 ((n.sl b).1 : Nat) := by
  unfold ndC; rw [if_pos (by omega), if_pos (by omega), show 2 * b / 2 = b by omega]
theorem ndC_hop (n : Nd) {b : Nat} (h : b < 16) : ndC n (2 * b + 1) = .int .u16 ((n.sl b).2 : Nat) := by
  unfold ndC; rw [if_pos (by omega), if_neg (by omega), show (2 * b + 1) / 2 = b by omega]
theorem ndC_next (n : Nd) (b : Nat) : ndC n (32 + b) = .int .i64 (n.nx b : Nat) := by
  unfold ndC; rw [if_neg (by omega), show 32 + b - 32 = b by omega]
def nc (n : Nd) : Array Value := (ndl n).toArray
theorem nc_size (n : Nd) : (nc n).size = 48 := by simp [nc, ndl_length]

def Nd.setNx (n : Nd) (b x : Nat) : Nd := ⟨n.sl, fun c => if c = b then x else n.nx c⟩
def Nd.setSl (n : Nd) (b : Nat) (x : Nat × Nat) : Nd := ⟨fun c => if c = b then x else n.sl c, n.nx⟩
theorem ndl_setNx (n : Nd) {b : Nat} (x : Nat) (h : b < 16) : ndl (n.setNx b x) = (ndl n).set (32 + b) (.int .i64 (x : Nat)) := by
  apply List.ext_getElem?
  intro j
  rw [List.getElem?_set, ndl_length]
  by_cases hj : j < 48
  · rw [ndl_at _ hj, ndl_at _ hj]
    by_cases e : 32 + b = j
    · subst e
      rw [if_pos rfl, if_pos (by omega), ndC_next]
      simp [Nd.setNx]
    · rw [if_neg e]
      unfold ndC Nd.setNx
      simp only
      by_cases h32 : j < 32
      · rw [if_pos h32, if_pos h32]
      · rw [if_neg h32, if_neg h32, if_neg (by omega)]
  · rw [List.getElem?_eq_none (by rw [ndl_length]; omega), List.getElem?_eq_none (by rw [ndl_length]; omega), if_neg (by omega)]
theorem ndl_setSl (n : Nd) {b : Nat} (x : Nat × Nat) (h : b < 16) : ndl (n.setSl b x) = ((ndl n).set (2 * b) (.int .i64 (x.1 : Nat))).set (2 * b + 1) (.int .u16 (x.2 : Nat)) := by
  apply List.ext_getElem?
  intro j
  rw [List.getElem?_set, List.getElem?_set, List.length_set, ndl_length]
  by_cases hj : j < 48
  · rw [ndl_at _ hj, ndl_at _ hj]
    by_cases e : 2 * b + 1 = j
    · subst e
      rw [if_pos rfl, if_pos (by omega), ndC_hop _ h]
      simp [Nd.setSl]
    · rw [if_neg e]
      by_cases e2 : 2 * b = j
      · subst e2
        rw [if_pos rfl, if_pos (by omega), ndC_len _ h]
        simp [Nd.setSl]
      · rw [if_neg e2]
        unfold ndC Nd.setSl
        simp only
        by_cases h32 : j < 32
        · have hne : ¬ j / 2 = b := by omega
          rw [if_pos h32, if_pos h32]
          simp only [if_neg hne]
        · rw [if_neg h32, if_neg h32]
  · rw [List.getElem?_eq_none (by rw [ndl_length]; omega), List.getElem?_eq_none (by rw [ndl_length]; omega), if_neg (by omega), if_neg (by omega)]

def fn (ns : List Nd) : List Value := ns.flatMap ndl
theorem fn_cons (n : Nd) (ns : List Nd) : fn (n :: ns) = ndl n ++ fn ns := by simp [fn]
theorem fn_append (a b : List Nd) : fn (a ++ b) = fn a ++ fn b := by simp [fn]
theorem fn_one (n : Nd) : fn [n] = ndl n := by simp [fn]
theorem fn_length (ns : List Nd) : (fn ns).length = ns.length * 48 := by
  induction ns with
  | nil => rfl
  | cons n ns ih => rw [fn_cons, List.length_append, ndl_length, ih, List.length_cons]; omega
theorem fn_at {ns : List Nd} {i : Nat} {n : Nd} (h : ns[i]? = some n) {j : Nat} (hj : j < 48) : (fn ns)[i * 48 + j]? = some (ndC n j) := by
  induction ns generalizing i with
  | nil => simp at h
  | cons m ns ih =>
    rw [fn_cons]
    cases i with
    | zero =>
      simp at h; subst h
      rw [Nat.zero_mul, Nat.zero_add, List.getElem?_append_left (by rw [ndl_length]; exact hj), ndl_at _ hj]
    | succ i =>
      simp at h
      rw [List.getElem?_append_right (by rw [ndl_length]; omega), ndl_length, show (i + 1) * 48 + j - 48 = i * 48 + j by omega]
      exact ih h
theorem fn_set {ns : List Nd} {i : Nat} {n n' : Nd} (h : ns[i]? = some n) {j : Nat} (hj : j < 48) (u : Value) (hn : ndl n' = (ndl n).set j u) : (fn ns).set (i * 48 + j) u = fn (ns.set i n') := by
  induction ns generalizing i with
  | nil => simp at h
  | cons m ns ih =>
    rw [fn_cons]
    cases i with
    | zero =>
      simp at h; subst h
      rw [Nat.zero_mul, Nat.zero_add, List.set_append_left _ _ (by rw [ndl_length]; exact hj), List.set_cons_zero, fn_cons, hn]
    | succ i =>
      simp at h
      rw [List.set_append_right _ _ (by rw [ndl_length]; omega), ndl_length, show (i + 1) * 48 + j - 48 = i * 48 + j by omega, ih h, List.set_cons_succ, fn_cons]

theorem fn_set2 {ns : List Nd} {i : Nat} {n n' : Nd} (h : ns[i]? = some n) {j j' : Nat} (hj : j < 48) (hj' : j' < 48) (u u' : Value) (hn : ndl n' = ((ndl n).set j u).set j' u') : ((fn ns).set (i * 48 + j) u).set (i * 48 + j') u' = fn (ns.set i n') := by
  induction ns generalizing i with
  | nil => simp at h
  | cons m ns ih =>
    rw [fn_cons]
    cases i with
    | zero =>
      simp at h; subst h
      rw [Nat.zero_mul, Nat.zero_add, Nat.zero_add, List.set_append_left _ _ (by rw [ndl_length]; exact hj), List.set_append_left _ _ (by rw [List.length_set, ndl_length]; exact hj'), List.set_cons_zero, fn_cons, hn]
    | succ i =>
      simp at h
      rw [List.set_append_right _ _ (by rw [ndl_length]; omega), ndl_length, show (i + 1) * 48 + j - 48 = i * 48 + j by omega, List.set_append_right _ _ (by rw [ndl_length]; omega), ndl_length, show (i + 1) * 48 + j' - 48 = i * 48 + j' by omega, ih h, List.set_cons_succ, fn_cons]

def OwnN (w : World) (base : Nat) (v : Value) (ns : List Nd) : Prop := w.ownsRow base 104 48 v ns.length (fn ns)
theorem OwnN.later {w w' : World} {base : Nat} {v : Value} {ns : List Nd} (h : OwnN w base v ns) (hb : Below w.heap.size w w') : OwnN w' base v ns :=
  World.ownsRow.kept (row := none) h ⟨hb.os, hb.tape, hb.output, hb.size, fun k hk _ => hb.block k hk⟩ (by cases hv : v.ownBlock <;> simp)
theorem OwnN.form {w : World} {base : Nat} {v : Value} {ns : List Nd} (h : OwnN w base v ns) (hn : 0 < ns.length) : ∃ g cap, v = .slice (some ⟨g, 0, none⟩) ns.length cap ∧ base ≤ g ∧ g < w.heap.size := by
  rcases h.2 with ⟨-, h0⟩ | ⟨g, cap, cur, h1, h2, h3, -⟩
  · omega
  · exact ⟨g, cap, h1, h2, (Array.getElem?_eq_some_iff.1 h3).1⟩
theorem OwnN.cell {w : World} {base g cap : Nat} {ns : List Nd} (h : OwnN w base (.slice (some ⟨g, 0, none⟩) ns.length cap) ns) {i : Nat} {n : Nd} (hi : ns[i]? = some n) {j : Nat} (hj : j < 48) : w.cell? ⟨g, i * 48 + j, none⟩ = some (ndC n j) := by
  have hlt := (List.getElem?_eq_some_iff.1 hi).1
  have := World.ownsRow.cellAt h (i * 48 + j) (by omega)
  rw [this, fn_at hi hj]
theorem OwnN.frozen {w : World} {base g cap : Nat} {ns : List Nd} (h : OwnN w base (.slice (some ⟨g, 0, none⟩) ns.length cap) ns) (j : Nat) : w.frozen? ⟨g, j, none⟩ = false := World.ownsRow.frozenAt h j
theorem OwnN.set {w : World} {base g cap : Nat} {ns : List Nd} (h : OwnN w base (.slice (some ⟨g, 0, none⟩) ns.length cap) ns) {i : Nat} {n n' : Nd} (hi : ns[i]? = some n) {j : Nat} (hj : j < 48) (u : Value) (hn : ndl n' = (ndl n).set j u) :
    OwnN (w.setCell ⟨g, i * 48 + j, none⟩ u) base (.slice (some ⟨g, 0, none⟩) (ns.set i n').length cap) (ns.set i n') ∧ w.grownBy (w.setCell ⟨g, i * 48 + j, none⟩ u) (some g) := by
  have := World.ownsRow.stored h (i * 48 + j) u
  rw [fn_set hi hj u hn] at this
  unfold OwnN
  rw [List.length_set]
  exact this

/-! ### A node made, and kept -/
theorem infoN : (Try.prog.info? 104).map (fun i => (i.zero, i.size, i.bytes)) = some (some (.agg (nc nd0)), 48, 384) := by kernel_rfl
theorem infoN' : ∃ i, Try.prog.info? 104 = some i ∧ i.zero = some (.agg (nc nd0)) ∧ i.size = 48 ∧ i.bytes = 384 := by
  obtain ⟨i, h0, h1, h2, h3⟩ := info_parts infoN
  exact ⟨i, h0, h1, h2, h3⟩
def nodeBuild (parts : Array (Nat × Value)) : Sem Value := Instr.build 104 parts
theorem build_node (parts : Array (Nat × Value)) : Instr.build 104 parts = nodeBuild parts := rfl
theorem run_nodeBuild0 (w : World) : (nodeBuild #[]).run Try.prog w = .ok (.agg (nc nd0)) w := by kernel_rfl
def nodesBuild (n : Nat) (parts : Array (Nat × Value)) : Sem Value := Instr.buildSlice 50 n parts
theorem buildSlice_nodes (n : Nat) (parts : Array (Nat × Value)) : Instr.buildSlice 50 n parts = nodesBuild n parts := rfl
theorem run_nodesBuild (n : Nd) (w : World) : (nodesBuild 1 #[(0, .agg (nc n))]).run Try.prog w = .ok (.slice (some ⟨w.heap.size, 0, none⟩) 1 1) (w.alloc (.cells (nc n) 104)) := by
  obtain ⟨i, h0, h1, h2, h3⟩ := infoN'
  exact run_buildSlice w 50 104 1 _ (nc n) i _ Try.underlying50 h0 h1 (by rw [h2]; decide) (by rw [h2]; decide) (by rw [h2]; kernel_rfl)
theorem newNode (W : World) (n : Nd) : CellsAt (W.alloc (.cells (nc n) 104)) ⟨W.heap.size, 0, none⟩ (ndl n) := fun j u hu => by
  have hadd : (⟨W.heap.size, 0, none⟩ : Addr).add j = ⟨W.heap.size, j, none⟩ := by unfold Addr.add; split <;> simp_all
  rw [hadd, World.cell?_alloc_at _ _ _ _ rfl]; simpa [nc] using hu

/-! ### What is being made -/
/-- The builder's block, and its nodes in a row of the call's own. -/
structure Bui (w : World) (B base : Nat) (bits : Int) (v : Value) (ns : List Nd) : Prop where
  box : w.heap[B]? = some (.cells #[.int .i64 bits, v] 94 (0, 0))
  own : OwnN w base v ns
  le : base ≤ B
theorem Bui.later {w w' : World} {B base : Nat} {bits : Int} {v : Value} {ns : List Nd} (h : Bui w B base bits v ns) (hb : Below w.heap.size w w') : Bui w' B base bits v ns :=
  ⟨(hb.block _ (Array.getElem?_eq_some_iff.1 h.box).1).trans h.box, h.own.later hb, h.le⟩
theorem OwnN.apart {w : World} {B base : Nat} {v : Value} {ns : List Nd} (h : OwnN w base v ns) {cs : Array Value} (hb : w.heap[B]? = some (.cells cs 94 (0, 0))) : v.ownBlock ≠ some B := by
  rcases h.2 with ⟨h1, -⟩ | ⟨g, cap, cur, h1, -, h3, -⟩
  · rw [h1]; simp [Value.ownBlock]
  · rw [h1]
    simp only [Value.ownBlock, ne_eq, Option.some.injEq]
    rintro rfl
    rw [h3] at hb
    simp at hb
/-- What a call does to memory: below the base nothing, and of what is neither a node's row nor a builder nothing at all. -/
structure Eff (base : Nat) (w w' : World) : Prop where
  bel : Below base w w'
  oth : ∀ (k : Nat) (cs : Array Value) (t : TypeId), t ≠ 104 → t ≠ 94 → w.heap[k]? = some (.cells cs t (0, 0)) → w'.heap[k]? = some (.cells cs t (0, 0))
theorem Eff.refl (base : Nat) (w : World) : Eff base w w := ⟨Below.refl _ _, fun _ _ _ _ _ h => h⟩
theorem Eff.trans {base : Nat} {w w' w'' : World} (h : Eff base w w') (h' : Eff base w' w'') : Eff base w w'' :=
  ⟨h.bel.trans h'.bel, fun k cs t h1 h2 h3 => h'.oth k cs t h1 h2 (h.oth k cs t h1 h2 h3)⟩
theorem Eff.below {base : Nat} {w w' : World} (h : Below w.heap.size w w') (hb : base ≤ w.heap.size) : Eff base w w' :=
  ⟨h.mono hb, fun k _ _ _ _ h3 => (h.block k (Array.getElem?_eq_some_iff.1 h3).1).trans h3⟩
theorem Eff.drew {base : Nat} {w w' : World} (h : Eff base w w') : Eff base w w'.drew := ⟨h.bel.drew, h.oth⟩
theorem Eff.grown {base : Nat} {w w' : World} {row : Option Nat} (hg : w.grownBy w' row) (hb : base ≤ w.heap.size)
    (hr : ∀ k, row = some k → base ≤ k ∧ ((∃ cur, w.heap[k]? = some (.cells cur 104 (0, 0))) ∨ ∃ cur, w.heap[k]? = some (.cells cur 94 (0, 0)))) : Eff base w w' := by
  refine ⟨(Below.refl base w).grown hg hb (fun k hk => (hr k hk).1), fun k cs t h1 h2 h3 => ?_⟩
  rw [hg.block k (Array.getElem?_eq_some_iff.1 h3).1 ?_]
  · exact h3
  · intro e
    rcases (hr k e.symm).2 with ⟨cur, h⟩ | ⟨cur, h⟩
    · rw [h3] at h; simp at h; exact h1 h.2
    · rw [h3] at h; simp at h; exact h2 h.2
theorem OwnN.block {w : World} {base : Nat} {v : Value} {ns : List Nd} (h : OwnN w base v ns) (k : Nat) (hk : v.ownBlock = some k) : base ≤ k ∧ ((∃ cur, w.heap[k]? = some (.cells cur 104 (0, 0))) ∨ ∃ cur, w.heap[k]? = some (.cells cur 94 (0, 0))) := by
  rcases h.2 with ⟨h1, -⟩ | ⟨g, cap, cur, h1, h2, h3, -⟩
  · rw [h1] at hk; simp [Value.ownBlock] at hk
  · rw [h1] at hk
    simp only [Value.ownBlock, Option.some.injEq] at hk
    subst hk
    exact ⟨h2, .inl ⟨cur, h3⟩⟩
/-- A cell of a node written. -/
theorem Bui.set {w : World} {B base g cap : Nat} {bits : Int} {ns : List Nd} (h : Bui w B base bits (.slice (some ⟨g, 0, none⟩) ns.length cap) ns) {i : Nat} {n n' : Nd} (hi : ns[i]? = some n) {j : Nat} (hj : j < 48) (u : Value) (hn : ndl n' = (ndl n).set j u) :
    Bui (w.setCell ⟨g, i * 48 + j, none⟩ u) B base bits (.slice (some ⟨g, 0, none⟩) (ns.set i n').length cap) (ns.set i n') ∧ Eff base w (w.setCell ⟨g, i * 48 + j, none⟩ u) := by
  obtain ⟨h1, h2⟩ := h.own.set hi hj u hn
  have hne := h.own.apart h.box
  simp only [Value.ownBlock, ne_eq, Option.some.injEq] at hne
  have hlt := World.ownsRow.lt h.own g rfl
  have hbl := (Array.getElem?_eq_some_iff.1 h.box).1
  have hle := h.le
  refine ⟨⟨?_, h1, h.le⟩, Eff.grown h2 (by omega) (fun k hk => h.own.block k hk)⟩
  rw [h2.block B hbl (by simp only [ne_eq, Option.some.injEq]; exact fun e => hne e.symm), h.box]
  simp [List.length_set]
/-- Two cells of a node written. -/
theorem Bui.set2 {w : World} {B base g cap : Nat} {bits : Int} {ns : List Nd} (h : Bui w B base bits (.slice (some ⟨g, 0, none⟩) ns.length cap) ns) {i : Nat} {n n' : Nd} (hi : ns[i]? = some n) {j j' : Nat} (hj : j < 48) (hj' : j' < 48) (u u' : Value) (hn : ndl n' = ((ndl n).set j u).set j' u') :
    Bui ((w.setCell ⟨g, i * 48 + j, none⟩ u).setCell ⟨g, i * 48 + j', none⟩ u') B base bits (.slice (some ⟨g, 0, none⟩) (ns.set i n').length cap) (ns.set i n') ∧ Eff base w ((w.setCell ⟨g, i * 48 + j, none⟩ u).setCell ⟨g, i * 48 + j', none⟩ u') := by
  obtain ⟨h1, h2⟩ := World.ownsRow.stored h.own (i * 48 + j) u
  obtain ⟨h3, h4⟩ := World.ownsRow.stored h1 (i * 48 + j') u'
  have hne := h.own.apart h.box
  simp only [Value.ownBlock, ne_eq, Option.some.injEq] at hne
  have hlt := World.ownsRow.lt h.own g rfl
  have hbl := (Array.getElem?_eq_some_iff.1 h.box).1
  have hle := h.le
  have hg := grown_trans h2 h4
  refine ⟨⟨?_, ?_, h.le⟩, Eff.grown hg (by omega) (fun k hk => h.own.block k hk)⟩
  · rw [hg.block B hbl (by simp only [ne_eq, Option.some.injEq]; exact fun e => hne e.symm), h.box]
    simp [List.length_set]
  · unfold OwnN
    rw [List.length_set, ← fn_set2 hi hj hj' u u' hn]
    exact h3
/-- The builder's slice written. -/
theorem Bui.keep {w : World} {B base : Nat} {bits : Int} {v v' : Value} {ns : List Nd} (hb : w.heap[B]? = some (.cells #[.int .i64 bits, v] 94 (0, 0))) (ho : OwnN w base v' ns) (hle : base ≤ B) :
    Bui (w.setCell ⟨B, 1, none⟩ v') B base bits v' ns ∧ Eff base w (w.setCell ⟨B, 1, none⟩ v') := by
  have hg : w.grownBy (w.setCell ⟨B, 1, none⟩ v') (some B) := ⟨rfl, rfl, rfl, by simp, fun k _ hk => heap_setCell_other w ⟨B, 1, none⟩ k v' (fun e => hk (by simp [e]))⟩
  have hbl := (Array.getElem?_eq_some_iff.1 hb).1
  refine ⟨⟨?_, World.ownsRow.kept ho hg (.inr (ho.apart hb)), hle⟩, Eff.grown hg (by omega) (fun k hk => by simp at hk; subst hk; exact ⟨hle, .inr ⟨_, hb⟩⟩)⟩
  rw [heap_setCell_same w B 1 _ _ v' hb]; rfl
end Go.Proofs.Ytggjcjijoihilaa
