/- A chip's box: loaded and stored as a whole; what copying keeps; how far it has come. -/
import Derived.Test.YtilgppijmkcomaaChipClone
import Derived.Laws.CopyOwn
import Derived.Deep.WholeRow
namespace Go.Proofs.Ytilgppijmkcomaa.Chip
open Go.RowKit Go.Sort Go.Shelf

def chipLoad (a : Addr) : Sem Value := loadVar 27 a
theorem loadVar_chip (a : Addr) : loadVar 27 a = chipLoad a := rfl
def chipStore (a : Addr) (v : Value) : Sem Unit := storeVar 27 a v
theorem storeVar_chip (a : Addr) (v : Value) : storeVar 27 a v = chipStore a v := rfl
theorem infoChip : (Try.prog.info? 27).map (·.size) = some 6 := by kernel_rfl
def zc : Array Value := #[.int .i64 0, .int .i64 0, .slice none 0 0, .int .i64 0, .bool false, .slice none 0 0]
theorem zc_is : zc = chipCells chp0 (.slice none 0 0) (.slice none 0 0) := rfl
theorem chipV_cells (c : Chp) (vb vf : Value) : chipV c vb vf = .agg (chipCells c vb vf) := rfl
/-- A box that holds a chip's value. -/
def Box (w : World) (B : Nat) (cs : Array Value) : Prop := w.heap[B]? = some (.cells cs 27 (0, 0))
theorem Box.lt {w : World} {B : Nat} {cs : Array Value} (h : Box w B cs) : B < w.heap.size := (Array.getElem?_eq_some_iff.1 h).1
theorem Box.later {w w' : World} {B : Nat} {cs : Array Value} (h : Box w B cs) (hb : Below w.heap.size w w') : Box w' B cs := (hb.block _ h.lt).trans h
theorem Box.cell {w : World} {B : Nat} {cs : Array Value} (h : Box w B cs) (j : Nat) : w.cell? ⟨B, j, none⟩ = cs[j]? := cell_of_row w B j cs _ (0, 0) h
theorem Box.frozen {w : World} {B : Nat} {cs : Array Value} (h : Box w B cs) (j : Nat) : w.frozen? ⟨B, j, none⟩ = false := frozen_of_row w B j cs _ h
theorem Box.new (w : World) (cs : Array Value) : Box (w.alloc (.cells cs 27)) w.heap.size cs := Go.heap_alloc_new w _
theorem Box.set {w : World} {B : Nat} {cs : Array Value} (h : Box w B cs) (j : Nat) (u : Value) : Box (w.setCell ⟨B, j, none⟩ u) B (cs.setIfInBounds j u) := heap_setCell_same w B j cs _ u h
theorem Box.set_other {w : World} {B : Nat} {cs : Array Value} (h : Box w B cs) {g j : Nat} (u : Value) (hne : B ≠ g) : Box (w.setCell ⟨g, j, none⟩ u) B cs := (heap_setCell_other w ⟨g, j, none⟩ B u hne).trans h
theorem Box.load {w : World} {B : Nat} {cs : Array Value} (h : Box w B cs) (h6 : cs.size = 6) : (chipLoad ⟨B, 0, none⟩).run Try.prog w = .ok (.agg cs) w := by
  have := run_load_cells (w := w) (a := ⟨B, 0, none⟩) (cs := cs.toList) Try.underlying27 rfl (by rw [Array.length_toList, h6]; exact infoChip) (fun j u hu => by
    rw [add_here, Nat.zero_add, h.cell]; simpa using hu)
  rw [Array.toArray_toList] at this
  exact this
def One6 (cs : Array Value) : Prop := cs.all (·.oneCell') = true
theorem one6 (c : Chp) {vb vf : Value} (h1 : vb.oneCell' = true) (h2 : vf.oneCell' = true) : One6 (chipCells c vb vf) := by
  unfold One6 chipCells
  rw [Array.all_eq_true_iff_forall_mem]
  intro x hx
  simp at hx
  rcases hx with rfl | rfl | rfl | rfl | rfl | rfl <;> first | rfl | assumption
theorem Box.store {w : World} {B : Nat} {cs ds : Array Value} (h : Box w B cs) (h6 : cs.size = 6) (h7 : ds.size = 6) (h1 : One6 ds) : (chipStore ⟨B, 0, none⟩ (.agg ds)).run Try.prog w = .ok () (w.setRow B ds) :=
  run_storeVar_row (P := Try.prog) w B 27 27 cs ds h (by rw [h7]; exact infoChip) (by rw [h6, h7]) h1
theorem store_new {ds : Array Value} (h7 : ds.size = 6) (h1 : One6 ds) (W : World) (Z : Array Value) (hZ : Z.size = 6) : (chipStore ⟨W.heap.size, 0, none⟩ (.agg ds)).run Try.prog (W.alloc (.cells Z 27)) = .ok () (W.alloc (.cells ds 27)) := by
  have h := Box.store (Box.new W Z) hZ h7 h1
  rw [World.setRow_alloc_new] at h
  exact h
theorem Box.row {w : World} {B : Nat} {cs : Array Value} (h : Box w B cs) (ds : Array Value) : Box (w.setRow B ds) B ds := setRow_heap _ _ _ _ _ _ h
theorem Box.row_other {w : World} {B g : Nat} {cs : Array Value} (h : Box w B cs) (ds : Array Value) (hne : B ≠ g) : Box (w.setRow g ds) B cs := (setRow_other _ _ _ _ hne).trans h
theorem own_setRow {w : World} {base : Nat} {e : TypeId} {size : Nat} {v : Value} {n : Nat} {cs : List Value} (h : w.ownsRow base e size v n cs) {g : Nat} (ds : Array Value) (hne : v.ownBlock ≠ some g) : (w.setRow g ds).ownsRow base e size v n cs :=
  World.ownsRow.kept h (row := some g) ⟨rfl, rfl, rfl, by simp, fun k _ hk => setRow_other w g k ds (fun e => hk (by simp [e]))⟩ (.inr hne)
theorem OwnK.setRow {w : World} {base : Nat} {vb : Value} {T : List (Value × List Value)} {bs : List Blk} (h : OwnK w base vb T bs) {g : Nat} (ds : Array Value) (hg : g < base) : OwnK (w.setRow g ds) base vb T bs := by
  have k : ∀ {e : TypeId} {size : Nat} {v : Value} {n : Nat} {cs : List Value}, w.ownsRow base e size v n cs → (w.setRow g ds).ownsRow base e size v n cs := fun h => own_setRow h ds fun he => by
    have := (World.ownsRow.lt h g he).1; omega
  exact ⟨k h.row, h.len, fun i p b hp hb => ⟨k (h.us i p b hp hb).1, f2_mono (fun _ _ h => k h) (h.us i p b hp hb).2⟩, h.sep⟩
theorem OwnK.setCell {w : World} {base : Nat} {vb : Value} {T : List (Value × List Value)} {bs : List Blk} (h : OwnK w base vb T bs) {g j : Nat} (u : Value) (hg : g < base) : OwnK (w.setCell ⟨g, j, none⟩ u) base vb T bs := by
  have k : ∀ {e : TypeId} {size : Nat} {v : Value} {n : Nat} {cs : List Value}, w.ownsRow base e size v n cs → (w.setCell ⟨g, j, none⟩ u).ownsRow base e size v n cs := fun h => ownsRow_setCell_below h hg u
  exact ⟨k h.row, h.len, fun i p b hp hb => ⟨k (h.us i p b hp hb).1, f2_mono (fun _ _ h => k h) (h.us i p b hp hb).2⟩, h.sep⟩
theorem OwnK.mono {w : World} {base base' : Nat} {vb : Value} {T : List (Value × List Value)} {bs : List Blk} (h : OwnK w base vb T bs) (hb : base' ≤ base) : OwnK w base' vb T bs :=
  ⟨own_mono h.row hb, h.len, fun i p b hp hbb => ⟨own_mono (h.us i p b hp hbb).1 hb, f2_mono (fun _ _ h => OwnB.mono h hb) (h.us i p b hp hbb).2⟩, h.sep⟩
theorem own_one {w : World} {base : Nat} {e : TypeId} {size : Nat} {v : Value} {n : Nat} {cs : List Value} (h : w.ownsRow base e size v n cs) : v.oneCell' = true := rdRow_one (own_rdRow h)

/-! ### Copying -/
/-- The two boxes while a chip is copied: B the chip's, B + 1 the result's. -/
structure Cp (w : World) (cs : Array Value) (W : World) : Prop where
  bel : Below w.heap.size w W
  box : Box W w.heap.size cs
  res : Box W (w.heap.size + 1) zc
theorem Cp.start (w : World) (cs : Array Value) : Cp w cs ((w.alloc (.cells cs 27)).alloc (.cells zc 27)) :=
  ⟨below2 _ _ _, by unfold Box; rw [Go.heap_alloc_old _ _ (by simp)]; exact Go.heap_alloc_new w _, by have := Go.heap_alloc_new (w.alloc (.cells cs 27)) (.cells zc 27); unfold Box; simpa using this⟩
theorem Cp.later {w : World} {cs : Array Value} {W W' : World} (h : Cp w cs W) (hb : Below W.heap.size W W') : Cp w cs W' :=
  ⟨h.bel.trans (hb.mono h.bel.size), h.box.later hb, h.res.later hb⟩
theorem Cp.size {w : World} {cs : Array Value} {W : World} (h : Cp w cs W) : w.heap.size + 2 ≤ W.heap.size := h.res.lt
theorem Cp.setc {w : World} {cs : Array Value} {W : World} (h : Cp w cs W) (j : Nat) (u : Value) : Cp w (cs.setIfInBounds j u) (W.setCell ⟨w.heap.size, j, none⟩ u) :=
  ⟨h.bel.setCell (Nat.le_refl _) u, h.box.set j u, h.res.set_other u (by omega)⟩
theorem Cp.seto {w : World} {cs : Array Value} {W : World} (h : Cp w cs W) {g : Nat} (j : Nat) (u : Value) (hg : w.heap.size + 2 ≤ g) : Cp w cs (W.setCell ⟨g, j, none⟩ u) :=
  ⟨h.bel.setCell (by show w.heap.size ≤ g; omega) u, h.box.set_other u (by omega), h.res.set_other u (by omega)⟩

/-- So many blocks have got pages of their own. -/
structure Part (w : World) (base : Nat) (vk : Value) (T : List (Value × List Value)) (xs : List Value) (bs : List Blk) : Prop where
  row : OwnX w base vk (T.map (·.1) ++ xs.drop T.length) bs
  us : ∀ (i : Nat) (p : Value × List Value) (b : Blk), T[i]? = some p → bs[i]? = some b → OwnU w base p.1 p.2 ∧ F2 (OwnB w base) p.2 b.pages
  sep : Sep T
theorem Part.start {w : World} {base : Nat} {vk : Value} {xs : List Value} {bs : List Blk} (h : OwnX w base vk xs bs) : Part w base vk [] xs bs :=
  ⟨by simpa using h, fun i p b hp => by simp at hp, fun i i' p p' k k' x y g hp => by simp at hp⟩
theorem Part.later {w w' : World} {base : Nat} {vk : Value} {T : List (Value × List Value)} {xs : List Value} {bs : List Blk} (h : Part w base vk T xs bs) (hb : Below w.heap.size w w') : Part w' base vk T xs bs :=
  ⟨own_later h.row hb, fun i p b hp hbb => ⟨own_later (h.us i p b hp hbb).1 hb, f2_mono (fun _ _ h => h.later hb) (h.us i p b hp hbb).2⟩, h.sep⟩
theorem Part.done {w : World} {base : Nat} {vk : Value} {T : List (Value × List Value)} {xs : List Value} {bs : List Blk} (h : Part w base vk T xs bs) (hx : xs.length = bs.length) (hT : T.length = bs.length) : OwnK w base vk T bs := by
  refine ⟨?_, hT, h.us, h.sep⟩
  have := h.row
  rw [hT, ← hx, List.drop_length, List.append_nil] at this
  exact this
theorem lt_own {w : World} {base : Nat} {e : TypeId} {size : Nat} {v : Value} {n : Nat} {cs : List Value} (h : w.ownsRow base e size v n cs) {g : Nat} (hg : v.ownBlock = some g) : base ≤ g ∧ g < w.heap.size := World.ownsRow.lt h g hg
theorem set_mid {α : Type} {us ys : List α} {k : Nat} (h : us.length = k) (hk : k < ys.length) (v : α) : (us ++ ys.drop k).set k v = us ++ [v] ++ ys.drop (k + 1) := by
  subst h
  rw [List.set_append_right _ _ (Nat.le_refl _), Nat.sub_self, List.drop_eq_getElem_cons hk, List.set_cons_zero]
  simp
/-- One page more of a block has its own bytes. -/
theorem inner_step {wo wi w' : World} {gp cap k : Nat} {us ys : List Value} {ps : List (List UInt8)} {p : List UInt8} {v : Value} (hlen : ys.length = ps.length)
    (hU : OwnU wi wo.heap.size (.slice (some ⟨gp, 0, none⟩) ps.length cap) (us ++ ys.drop k)) (hk : us.length = k) (hp : ps[k]? = some p) (hF : F2 (OwnB wi wo.heap.size) us (ps.take k)) (hS : Sep1 us) (hB : Below wo.heap.size wo wi)
    (hv : OwnB w' wi.heap.size v p) (hb : Below wi.heap.size wi w') :
    OwnU (w'.setCell ⟨gp, k, none⟩ v) wo.heap.size (.slice (some ⟨gp, 0, none⟩) ps.length cap) (us ++ [v] ++ ys.drop (k + 1)) ∧ F2 (OwnB (w'.setCell ⟨gp, k, none⟩ v) wo.heap.size) (us ++ [v]) (ps.take (k + 1)) ∧ Sep1 (us ++ [v]) ∧ Below wo.heap.size wo (w'.setCell ⟨gp, k, none⟩ v) := by
  have hkl := (List.getElem?_eq_some_iff.1 hp).1
  have hlt := lt_own hU (g := gp) rfl
  have hU' : OwnU w' wo.heap.size (.slice (some ⟨gp, 0, none⟩) ps.length cap) (us ++ ys.drop k) := own_later hU hb
  obtain ⟨cur, hcur⟩ := own_block hU' (g := gp) rfl
  have hg := grown_set w' gp k v
  have keep : ∀ {x : Value} {m : List UInt8}, OwnB w' wo.heap.size x m → OwnB (w'.setCell ⟨gp, k, none⟩ v) wo.heap.size x m := fun h => World.ownsRow.kept h hg (.inr (own_apart h hcur (by decide)))
  have hul : (us ++ ys.drop k).length = ps.length := by rw [List.length_append, List.length_drop]; omega
  refine ⟨?_, ?_, ?_, (hB.trans (hb.mono hB.size)).setCell hlt.1 _⟩
  · have hu2 : (us ++ [v] ++ ys.drop (k + 1)).length = ps.length := by simp; omega
    unfold OwnU at hU' ⊢
    rw [hul] at hU'
    rw [hu2]
    have := (World.ownsRow.stored hU' k v).1
    rw [set_mid hk (by omega)] at this
    exact this
  · have e : ps.take (k + 1) = ps.take k ++ [p] := by rw [List.take_add_one, hp]; rfl
    rw [e]
    exact f2_snoc (f2_mono (fun _ _ h => keep (h.later hb)) hF) (keep (hv.mono hB.size))
  · intro i i' x y g hx hy hxg hyg
    have old : ∀ {j : Nat} {z : Value}, us[j]? = some z → z.ownBlock = some g → g < wi.heap.size := fun h1 h2 => by
      obtain ⟨m, -, h3⟩ := f2_right hF h1
      exact (lt_own h3 h2).2
    rcases get_snoc hx with h1 | ⟨h1, rfl⟩
    · rcases get_snoc hy with h2 | ⟨h2, rfl⟩
      · exact hS i i' x y g h1 h2 hxg hyg
      · have a := old h1 hxg; have b := (lt_own hv hyg).1; omega
    · rcases get_snoc hy with h2 | ⟨h2, rfl⟩
      · have a := old h2 hyg; have b := (lt_own hv hxg).1; omega
      · omega
/-- One block more has pages of its own. -/
theorem outer_step {wo wi : World} {base gk cap i : Nat} {T : List (Value × List Value)} {xs us : List Value} {bs : List Blk} {b : Blk} {vp : Value} (hxs : xs.length = bs.length)
    (h : Part wo base (.slice (some ⟨gk, 0, none⟩) bs.length cap) T xs bs) (hi : T.length = i) (hb : bs[i]? = some b) (hbase : base ≤ wo.heap.size)
    (hU : OwnU wi wo.heap.size vp us) (hF : F2 (OwnB wi wo.heap.size) us b.pages) (hS : Sep1 us) (hB : Below wo.heap.size wo wi) :
    Part (wi.setCell ⟨gk, i * 4, none⟩ vp) base (.slice (some ⟨gk, 0, none⟩) bs.length cap) (T ++ [(vp, us)]) xs bs ∧ base ≤ gk := by
  have hil := (List.getElem?_eq_some_iff.1 hb).1
  have h' := h.later hB
  have hrow : OwnX wi base (.slice (some ⟨gk, 0, none⟩) bs.length cap) (T.map (·.1) ++ xs.drop T.length) bs := h'.row
  obtain ⟨cur, hcur⟩ := own_block hrow (g := gk) rfl
  have hg := grown_set wi gk (i * 4) vp
  have hTm : (T.map (·.1)).length = i := by simp [hi]
  refine ⟨⟨?_, fun j p c hp hc => ?_, ?_⟩, (lt_own hrow (g := gk) rfl).1⟩
  · obtain ⟨x, hx⟩ : ∃ x, (T.map (·.1) ++ xs.drop T.length)[i]? = some x := ⟨_, List.getElem?_eq_getElem (by rw [List.length_append, hTm, List.length_drop]; omega)⟩
    have hst := (World.ownsRow.stored hrow (i * 4 + 0) vp).1
    rw [bkAll_set (x' := vp) (b' := b) hx hb (by omega) vp rfl, set_same hb, hi, set_mid hTm (by omega)] at hst
    unfold OwnX
    rw [List.map_append, List.length_append, hi]
    exact hst
  · have keepU : ∀ {bb : Nat} {v : Value} {zs : List Value}, OwnU wi bb v zs → OwnU (wi.setCell ⟨gk, i * 4, none⟩ vp) bb v zs := fun h => World.ownsRow.kept h hg (.inr (own_apart h hcur (by decide)))
    have keepB : ∀ {bb : Nat} {x : Value} {m : List UInt8}, OwnB wi bb x m → OwnB (wi.setCell ⟨gk, i * 4, none⟩ vp) bb x m := fun h => World.ownsRow.kept h hg (.inr (own_apart h hcur (by decide)))
    rcases get_snoc hp with h1 | ⟨h1, rfl⟩
    · obtain ⟨a1, a2⟩ := h'.us j p c h1 hc
      exact ⟨keepU a1, f2_mono (fun _ _ h => keepB h) a2⟩
    · rw [h1, hi, hb] at hc
      cases hc
      exact ⟨own_mono (keepU hU) hbase, f2_mono (fun _ _ h => (keepB h).mono hbase) hF⟩
  · intro j j' p p' k k' x y g hp hp' hx hy hxg hyg
    have old : ∀ {j : Nat} {p : Value × List Value} {k : Nat} {z : Value}, T[j]? = some p → p.2[k]? = some z → z.ownBlock = some g → g < wo.heap.size := fun {j p k z} h1 h2 h3 => by
      have hj := (List.getElem?_eq_some_iff.1 h1).1
      obtain ⟨c, hc⟩ : ∃ c, bs[j]? = some c := ⟨_, List.getElem?_eq_getElem (by omega)⟩
      obtain ⟨-, a2⟩ := h.us j p c h1 hc
      obtain ⟨m, -, h4⟩ := f2_right a2 h2
      exact (lt_own h4 h3).2
    have new : ∀ {k : Nat} {z : Value}, us[k]? = some z → z.ownBlock = some g → wo.heap.size ≤ g := fun h1 h2 => by
      obtain ⟨m, -, h3⟩ := f2_right hF h1
      exact (lt_own h3 h2).1
    rcases get_snoc hp with h1 | ⟨h1, rfl⟩
    · rcases get_snoc hp' with h2 | ⟨h2, rfl⟩
      · exact h.sep j j' p p' k k' x y g h1 h2 hx hy hxg hyg
      · have a := old h1 hx hxg; have c := new hy hyg; omega
    · rcases get_snoc hp' with h2 | ⟨h2, rfl⟩
      · have a := old h2 hy hyg; have c := new hx hxg; omega
      · exact ⟨by omega, hS k k' x y g hx hy hxg hyg⟩
end Go.Proofs.Ytilgppijmkcomaa.Chip
