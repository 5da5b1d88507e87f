/- chip.Mark and chip.On: what they hand back. -/
import Derived.Test.YtilgppijmkcomaaChipRead
namespace Go.Proofs.Ytilgppijmkcomaa.Chip
open Go.RowKit Go.Sort Go.Shelf
attribute [local go_sem ↓] loadVar_chip storeVar_chip

/-- A chip that was copied: the two boxes of the call, the copy's box, its rows; d: what it is by now. -/
structure Md (w : World) (cs : Array Value) (B : Nat) (vb vf : Value) (T : List (Value × List Value)) (d : Chp) (W : World) : Prop where
  bel : Below w.heap.size w W
  arg : Box W w.heap.size cs
  res : Box W (w.heap.size + 1) zc
  box : Box W B (chipCells d vb vf)
  own : OwnK W (w.heap.size + 2) vb T d.blocks
  ownF : OwnF W (w.heap.size + 2) vf d.faults
  at2 : w.heap.size + 2 ≤ B
theorem Md.later {w W W' : World} {cs : Array Value} {B : Nat} {vb vf : Value} {T : List (Value × List Value)} {d : Chp} (h : Md w cs B vb vf T d W) (hb : Below W.heap.size W W') : Md w cs B vb vf T d W' :=
  ⟨h.bel.trans (hb.mono h.bel.size), h.arg.later hb, h.res.later hb, h.box.later hb, h.own.later hb, own_later h.ownF hb, h.at2⟩
theorem Md.start {w w1 : World} {cs : Array Value} {c : Chp} {vb vf : Value} {T : List (Value × List Value)} (h0 : Cp w cs w1) (hk : OwnK w1 (w.heap.size + 2) vb T c.blocks) (hf : OwnF w1 (w.heap.size + 2) vf c.faults) :
    Md w cs w1.heap.size vb vf T c (w1.alloc (.cells (chipCells c vb vf) 27)) := by
  have hb : Below w1.heap.size w1 (w1.alloc (.cells (chipCells c vb vf) 27)) := (Below.refl _ _).alloc (Nat.le_refl _) _
  have h1 := h0.later hb
  exact ⟨h1.bel, h1.box, h1.res, Box.new _ _, hk.later hb, own_later hf hb, h0.size⟩
theorem Md.one {w W : World} {cs : Array Value} {B : Nat} {vb vf : Value} {T : List (Value × List Value)} {d : Chp} (h : Md w cs B vb vf T d W) : One6 (chipCells d vb vf) := one6 d (own_one h.own.row) (own_one h.ownF)
/-- What is no part of a chip: a variable's box. -/
def Other (t : TypeId) : Prop := t ≠ 5 ∧ t ≠ 40 ∧ t ≠ 42 ∧ t ≠ 56
/-- Of what was there only boxes have turned. -/
def Oth (w W : World) : Prop := ∀ k, k < w.heap.size → W.heap[k]? = w.heap[k]? ∨ ∃ cur cur' t, Other t ∧ w.heap[k]? = some (.cells cur t (0, 0)) ∧ W.heap[k]? = some (.cells cur' t (0, 0))
theorem Oth.refl (w : World) : Oth w w := fun _ _ => .inl rfl
theorem Oth.below {w W : World} (h : Below w.heap.size w W) : Oth w W := fun k hk => .inl (h.block k hk)
theorem Oth.trans {a b c : World} (h : Oth a b) (k : Oth b c) : Oth a c := fun j hj => by
  have hs : a.heap[j]? = some a.heap[j] := Array.getElem?_eq_getElem hj
  rcases h j hj with h1 | ⟨cur, cur', t, h1, h2, h3⟩
  · have hjb : j < b.heap.size := (Array.getElem?_eq_some_iff.1 (h1.trans hs)).1
    rcases k j hjb with k1 | ⟨cu, cu', t, k1, k2, k3⟩
    · exact .inl (k1.trans h1)
    · exact .inr ⟨cu, cu', t, k1, h1 ▸ k2, k3⟩
  · have hjb : j < b.heap.size := (Array.getElem?_eq_some_iff.1 h3).1
    rcases k j hjb with k1 | ⟨cu, cu', t', k1, k2, k3⟩
    · exact .inr ⟨cur, cur', t, h1, h2, k1.trans h3⟩
    · rw [h3] at k2
      simp only [Option.some.injEq, Obj.cells.injEq] at k2
      obtain ⟨-, rfl, -⟩ := k2
      exact .inr ⟨cur, cu', t, h1, h2, k3⟩
theorem Oth.block {w W : World} (h : Oth w W) {g : Nat} {cur : Array Value} {t : TypeId} (hg : w.heap[g]? = some (.cells cur t (0, 0))) (ht : ¬ Other t) : W.heap[g]? = some (.cells cur t (0, 0)) := by
  rcases h g (Array.getElem?_eq_some_iff.1 hg).1 with h1 | ⟨cu, cu', t', h1, h2, -⟩
  · exact h1.trans hg
  · rw [hg] at h2
    simp only [Option.some.injEq, Obj.cells.injEq] at h2
    obtain ⟨-, rfl, -⟩ := h2
    exact absurd h1 ht
theorem own_oth {w W : World} {base : Nat} {e : TypeId} {size : Nat} {v : Value} {n : Nat} {cs : List Value} (h : w.ownsRow base e size v n cs) (ht : ¬ Other e) (ho : Oth w W) : W.ownsRow base e size v n cs := by
  refine ⟨h.1, ?_⟩
  rcases h.2 with h1 | ⟨g, cap, cur, h1, h2, h3, h4⟩
  · exact .inl h1
  · exact .inr ⟨g, cap, cur, h1, h2, ho.block h3 ht, h4⟩
theorem OwnK.oth {w W : World} {base : Nat} {vb : Value} {T : List (Value × List Value)} {bs : List Blk} (h : OwnK w base vb T bs) (ho : Oth w W) : OwnK W base vb T bs :=
  ⟨own_oth h.row (fun h => h.2.1 rfl) ho, h.len, fun i p b hp hb => ⟨own_oth (h.us i p b hp hb).1 (fun h => h.2.2.1 rfl) ho, f2_mono (fun _ _ h => own_oth h (fun h => h.1 rfl) ho) (h.us i p b hp hb).2⟩, h.sep⟩
/-- A chip's value that reads so, whatever becomes of boxes. -/
def RdN (w : World) (v : Value) (c : Chp) : Prop := ∀ W, Oth w W → RdC W v c
theorem RdN.rd {w : World} {v : Value} {c : Chp} (h : RdN w v c) : RdC w v c := h w (Oth.refl w)
theorem RdN.oth {w W : World} {v : Value} {c : Chp} (h : RdN w v c) (ho : Oth w W) : RdN W v c := fun V hV => h V (ho.trans hV)
theorem Md.fin {w W : World} {cs : Array Value} {B : Nat} {vb vf : Value} {T : List (Value × List Value)} {d : Chp} (h : Md w cs B vb vf T d W) :
    (chipStore ⟨w.heap.size + 1, 0, none⟩ (.agg (chipCells d vb vf))).run Try.prog W = .ok () (W.setRow (w.heap.size + 1) (chipCells d vb vf)) ∧ Box (W.setRow (w.heap.size + 1) (chipCells d vb vf)) (w.heap.size + 1) (chipCells d vb vf) ∧
      RdN (W.setRow (w.heap.size + 1) (chipCells d vb vf)) (chipV d vb vf) d ∧ Below w.heap.size w (W.setRow (w.heap.size + 1) (chipCells d vb vf)) := by
  refine ⟨h.res.store rfl rfl h.one, h.res.row _, fun V hV => ⟨vb, vf, rfl, ((h.own.setRow _ (by omega)).oth hV).rd, ?_⟩, below_setRow h.bel (by omega) _⟩
  exact own_rdRow (own_oth (own_setRow h.ownF (g := w.heap.size + 1) _ fun he => by have := (lt_own h.ownF he).1; omega) (fun h => h.2.2.2 rfl) hV)
/-- What a call hands back that makes a chip. -/
def ChipPost (w : World) (d : Chp) (er : Int) (e : Ending) (w' : World) : Prop := ∃ v', e = .returned (.tuple #[v', .int .i64 er]) ∧ RdN w' v' d ∧ Below w.heap.size w w'
theorem out2 {fn : Func} {r t : Nat} (hf : fn.results = #[ResultVar.cell r 27, ResultVar.tmp t]) {W : World} {b : Nat} {cs : Array Value} (h : Box W b cs) (h6 : cs.size = 6) (tmps : Array Value) {v : Value} (h2 : tmps.getD r undef = .pointer (some ⟨b, 0, none⟩)) (h3 : tmps.getD t undef = v) :
    (results fn tmps).run Try.prog W = .ok (.tuple #[.agg cs, v]) W := by
  have e1 : (loadVar 27 ⟨b, 0, none⟩).run Try.prog W = .ok (.agg cs) W := h.load h6
  unfold results
  rw [hf]
  simp only [Array.getD_eq_getD_getElem?] at h2 h3
  simp [h2, h3, asAddr, e1]
theorem Md.set {w W : World} {cs : Array Value} {B : Nat} {vb vf : Value} {T : List (Value × List Value)} {d : Chp} (h : Md w cs B vb vf T d W) {g j : Nat} {u : Value} {cur : Array Value} {t : TypeId} (hg : W.heap[g]? = some (.cells cur t (0, 0))) (ht : t ≠ 27) (ht2 : t ≠ 56) (hle : w.heap.size + 2 ≤ g) {bs : List Blk} (hk : OwnK (W.setCell ⟨g, j, none⟩ u) (w.heap.size + 2) vb T bs) :
    Md w cs B vb vf T { d with blocks := bs } (W.setCell ⟨g, j, none⟩ u) := by
  have hne : B ≠ g := fun e => by
    subst e
    have := h.box
    unfold Box at this
    rw [hg] at this
    simp at this
    exact ht this.2
  exact ⟨h.bel.setCell (by show w.heap.size ≤ g; omega) u, h.arg.set_other u (by omega), h.res.set_other u (by omega), h.box.set_other u hne, hk, World.ownsRow.kept h.ownF (grown_set _ _ _ _) (.inr (own_apart h.ownF hg ht2)), h.at2⟩
theorem Md.oper {w W W' : World} {cs : Array Value} {B : Nat} {vb vf : Value} {T : List (Value × List Value)} {d : Chp} (h : Md w cs B vb vf T d W) (hB : Box W' B (chipCells d.counted vb vf)) (hg : W.grownBy W' (some B)) : Md w cs B vb vf T d.counted W' := by
  have hs := h.bel.size
  have hsz := h.res.lt
  have hB2 := h.at2
  exact ⟨h.bel.grown hg hs (fun k hk => by cases hk; omega), (hg.block _ h.arg.lt (by simp; omega)).trans h.arg, (hg.block _ h.res.lt (by simp; omega)).trans h.res, hB, h.own.kept h.box hg, h.ownF.kept h.box hg, h.at2⟩
/-- A block's row, and a page's. -/
theorem OwnK.at_row {w : World} {base : Nat} {vb : Value} {T : List (Value × List Value)} {bs : List Blk} (h : OwnK w base vb T bs) {i : Nat} {b : Blk} (hi : bs[i]? = some b) : ∃ g cap x cur, vb = .slice (some ⟨g, 0, none⟩) bs.length cap ∧ base ≤ g ∧ w.heap[g]? = some (.cells cur 40 (0, 0)) ∧ (∀ j, w.frozen? ⟨g, j, none⟩ = false) ∧
    w.cell? ⟨g, i * 4, none⟩ = some x ∧ w.cell? ⟨g, i * 4 + 1, none⟩ = some (.int .i64 b.used) ∧ w.cell? ⟨g, i * 4 + 2, none⟩ = some (.int .i64 b.worn) ∧ w.cell? ⟨g, i * 4 + 3, none⟩ = some (.bool b.bad) ∧ (∃ p, T[i]? = some p ∧ p.1 = x) := by
  have hl := (List.getElem?_eq_some_iff.1 hi).1
  obtain ⟨g, cap, hv, -, -, hb, -⟩ := own_form h.row (by omega)
  obtain ⟨p, hp⟩ : ∃ p, T[i]? = some p := ⟨T[i]'(by rw [h.len]; exact hl), List.getElem?_eq_getElem _⟩
  have h1 : (T.map (·.1))[i]? = some p.1 := by rw [List.getElem?_map, hp]; rfl
  subst hv
  obtain ⟨cur, hcur⟩ := own_block h.row (g := g) rfl
  have hc : ∀ j, j < 4 → w.cell? ⟨g, i * 4 + j, none⟩ = (bkC p.1 b)[j]? := fun j hj => by rw [World.ownsRow.cellAt h.row (i * 4 + j) (by omega), bkAll_at h1 hi hj]
  exact ⟨g, cap, p.1, cur, rfl, hb, hcur, fun j => World.ownsRow.frozenAt h.row j, hc 0 (by omega), hc 1 (by omega), hc 2 (by omega), hc 3 (by omega), p, hp, rfl⟩
theorem OwnK.at_page {w : World} {base : Nat} {vb : Value} {T : List (Value × List Value)} {bs : List Blk} (h : OwnK w base vb T bs) {i k : Nat} {b : Blk} {p : Value × List Value} {l : List UInt8} (hi : bs[i]? = some b) (hp : T[i]? = some p) (hk : b.pages[k]? = some l) (hl : 0 < l.length) :
    ∃ gp cp g cap cur, p.1 = .slice (some ⟨gp, 0, none⟩) b.pages.length cp ∧ w.cell? ⟨gp, k, none⟩ = some (.slice (some ⟨g, 0, none⟩) l.length cap) ∧ p.2[k]? = some (.slice (some ⟨g, 0, none⟩) l.length cap) ∧ base ≤ g ∧ w.heap[g]? = some (.cells cur 5 (0, 0)) ∧ (∀ j, w.frozen? ⟨g, j, none⟩ = false) ∧ ∀ (j : Nat) y, l[j]? = some y → w.cell? ⟨g, j, none⟩ = some (byV y) := by
  obtain ⟨hU, hF⟩ := h.us i p b hp hi
  have hkl := (List.getElem?_eq_some_iff.1 hk).1
  obtain ⟨u, hu, hO⟩ := f2_left hF hk
  obtain ⟨gp, cp, hv, -, -, -, -⟩ := own_form hU (by rw [f2_len hF]; omega)
  obtain ⟨g, cap, hv2, -, -, hb, -⟩ := own_form hO hl
  subst hv2
  obtain ⟨cur, hcur⟩ := own_block hO (g := g) rfl
  refine ⟨gp, cp, g, cap, cur, by rw [hv, f2_len hF], ?_, hu, hb, hcur, fun j => World.ownsRow.frozenAt hO j, fun j y hy => ?_⟩
  · have h2 := hU
    unfold OwnU at h2
    rw [hv] at h2
    rw [World.ownsRow.cellAt h2 k (by rw [f2_len hF]; omega)]; exact hu
  · have hj := (List.getElem?_eq_some_iff.1 hy).1
    rw [World.ownsRow.cellAt hO j (by omega)]; exact cellsB_at hy
/-- Where a page's bytes are, by the layout. -/
theorem OwnK.cells {w : World} {base : Nat} {vb : Value} {T : List (Value × List Value)} {bs : List Blk} (h : OwnK w base vb T bs) {g n cap i k gp m cp gr q cr : Nat} {b : Blk} {us : List Value} {l : List UInt8} (hv : vb = .slice (some ⟨g, 0, none⟩) n cap) (hi : bs[i]? = some b) (hp : T[i]? = some (.slice (some ⟨gp, 0, none⟩) m cp, us))
    (hk : b.pages[k]? = some l) (hu : us[k]? = some (.slice (some ⟨gr, 0, none⟩) q cr)) (hl : 0 < l.length) : w.cell? ⟨g, i * 4, none⟩ = some (.slice (some ⟨gp, 0, none⟩) m cp) ∧ w.cell? ⟨gp, k, none⟩ = some (.slice (some ⟨gr, 0, none⟩) q cr) ∧ (∀ (j : Nat) y, l[j]? = some y → w.cell? ⟨gr, j, none⟩ = some (byV y)) ∧ (∀ j, w.frozen? ⟨gr, j, none⟩ = false) ∧
      (∃ cur, w.heap[gr]? = some (.cells cur 5 (0, 0))) ∧ base ≤ gr ∧ l.length = q := by
  obtain ⟨g', cap', x, cur, hv', -, -, -, c0, -, -, -, p, hp', hx⟩ := h.at_row hi
  rw [hv] at hv'
  simp only [Value.slice.injEq, Option.some.injEq, Addr.mk.injEq, and_true] at hv'
  obtain ⟨rfl, -⟩ := hv'
  rw [hp] at hp'
  cases hp'
  obtain ⟨gp', cp', gr', cr', cur', h1, h2, h3, h4, h5, h6, h7⟩ := h.at_page hi hp hk hl
  simp only [Value.slice.injEq, Option.some.injEq, Addr.mk.injEq, and_true] at h1
  obtain ⟨rfl, -⟩ := h1
  rw [hu] at h3
  simp only [Option.some.injEq, Value.slice.injEq, Addr.mk.injEq, and_true] at h3
  obtain ⟨rfl, h31, -⟩ := h3
  rw [← hx] at c0
  refine ⟨c0, ?_, h7, h6, ⟨cur', h5⟩, h4, h31.symm⟩
  obtain ⟨hU, hF⟩ := h.us i _ b hp hi
  have hkl := (List.getElem?_eq_some_iff.1 hk).1
  have hm : us.length = m := by
    have := (own_rdRow hU).len
    obtain ⟨a, c, e, -⟩ := this
    simp only [Value.slice.injEq] at e
    exact e.2.1.symm
  have h8 := hU
  unfold OwnU at h8
  rw [hm] at h8
  rw [World.ownsRow.cellAt h8 k (by have := f2_len hF; simp only at this; omega)]
  exact hu
theorem Md.setByte {w W : World} {cs : Array Value} {B : Nat} {vb vf : Value} {T : List (Value × List Value)} {d : Chp} (h : Md w cs B vb vf T d W) {i k j gr cr : Nat} {p : Value × List Value} {b : Blk} {l : List UInt8} (hp : T[i]? = some p) (hb : d.blocks[i]? = some b) (hk : b.pages[k]? = some l) (hu : p.2[k]? = some (.slice (some ⟨gr, 0, none⟩) l.length cr)) (hl : 0 < l.length) (y : UInt8) :
    Md w cs B vb vf T { d with blocks := d.blocks.set i (b.setPage k (l.set j y)) } (W.setCell ⟨gr, j, none⟩ (byV y)) := by
  obtain ⟨gp', cp', gr', cr', cur', -, -, h3, h4, h5, -⟩ := h.own.at_page hb hp hk hl
  rw [hu] at h3
  simp only [Option.some.injEq, Value.slice.injEq, Addr.mk.injEq, and_true, true_and] at h3
  obtain ⟨rfl, -⟩ := h3
  exact h.set h5 (by decide) (by decide) h4 (h.own.setByte hp hb hk hu y)
theorem Md.setNum {w W : World} {cs : Array Value} {B g n cap : Nat} {vb vf : Value} {T : List (Value × List Value)} {d : Chp} (h : Md w cs B vb vf T d W) (hv : vb = .slice (some ⟨g, 0, none⟩) n cap) {i : Nat} {b b' : Blk} (hb : d.blocks[i]? = some b) (hpg : b'.pages = b.pages) {j : Nat} (hj : j < 4) (u : Value) (hu : ∀ x, bkC x b' = (bkC x b).set j u) :
    Md w cs B vb vf T { d with blocks := d.blocks.set i b' } (W.setCell ⟨g, i * 4 + j, none⟩ u) := by
  obtain ⟨g', cap', x, cur, hv', hgb, hgc, -⟩ := h.own.at_row hb
  have e := hv.symm.trans hv'
  simp only [Value.slice.injEq, Option.some.injEq, Addr.mk.injEq, and_true] at e
  obtain ⟨rfl, -, rfl⟩ := e
  have hK3 := (hv' ▸ h.own : OwnK W (w.heap.size + 2) (.slice (some ⟨g, 0, none⟩) d.blocks.length cap) T d.blocks).setNum hb hpg hj u hu
  rw [← hv'] at hK3
  exact h.set hgc (by decide) (by decide) hgb hK3
theorem regB {W : World} {B : Nat} {cs : Array Value} (h : Box W B cs) (h6 : cs.size = 6) : ∀ (d : Nat) (os : Array Obj), (chipLoad ⟨B, 0, none⟩).run Try.prog (grow (redrawn W d) os) = .ok (.agg cs) (grow (redrawn W d) os) := fun d os => (h.later (below_regrown W d os)).load h6

set_option maxHeartbeats 4000000 in
set_option maxRecDepth 100000 in
theorem mark_any (c : Chp) (hs : Small c) (v : Value) (block : Int) (w : World) (hR : RdC w v c) :
    Calls Try.prog 14 #[v, .int .i64 block] w (ChipPost w (markC c block) (markE c block)) := by
  obtain ⟨va, vfa, hv, hK, hF⟩ := id hR
  subst hv
  have h0 := Cp.start w (chipCells c va vfa)
  have hR0 : RdC ((w.alloc (.cells (chipCells c va vfa) 27)).alloc (.cells zc 27)) (chipV c va vfa) c := hR.later (below2 _ _ _)
  have L0 := h0.box.load rfl
  have C0 := copied_any c hs (chipV c va vfa) _ hR0
  obtain ⟨W0, hW0⟩ : ∃ W0, W0 = (w.alloc (.cells (chipCells c va vfa) 27)).alloc (.cells zc 27) := ⟨_, rfl⟩
  have HW0 := Lib.hid hW0
  have hz0 : W0.heap.size = w.heap.size + 2 := by rw [hW0]; simp
  rw [← hW0] at h0 hR0 C0
  have HC0 := Lib.hid C0
  have H0 := Lib.hid h0
  have HR0 := Lib.hid hR0
  have HZ0 := Lib.hid hz0
  have HSM := Lib.hid hs
  obtain ⟨z, hz⟩ : ∃ z, z = askedN c.off (hasBlockB c block) := ⟨_, rfl⟩
  have HER : Hid (markE c block = z) := by show markE c block = z; rw [hz]; rfl
  have HZ := Lib.hid hz
  have HCH0 : Hid (markC c block = if z ≠ 0 then c else c.setBlk block.toNat { blkAt c block.toNat with bad := true }) := by show _ = _; rw [hz]; rfl
  rw [HER.out]
  obtain ⟨X, hX⟩ : ∃ X, X = markC c block := ⟨_, rfl⟩
  rw [← hX] at HCH0 ⊢
  clear hX hz
  unfold chipCells zc at HW0 L0
  unfold CopyPost at HC0
  clear hK hF hR hR0 h0 C0 hW0 hz0 hs
  unfold chipV at HC0 ⊢
  go_enter Try.func14, Try.ntmps14
  go_wp2_with fail
  rw [← HW0.out]
  refine HC0.out.mono ?_
  rintro e w1 ⟨vb, vf, T, rfl, hok, hof, hb⟩
  have hmd := Md.start (H0.out.later hb) (by rw [← HZ0.out]; exact hok) (by rw [← HZ0.out]; exact hof)
  have st := store_new (ds := chipCells c vb vf) rfl (one6 c (own_one hok.row) (own_one hof)) w1 zc rfl
  obtain ⟨B, hBs⟩ : ∃ B, B = w1.heap.size := ⟨_, rfl⟩
  rw [← hBs] at hmd st
  obtain ⟨W, hW⟩ : ∃ W, W = w1.alloc (.cells (chipCells c vb vf) 27) := ⟨_, rfl⟩
  rw [← hW] at hmd st
  have HM := Lib.hid hmd
  have HBS := Lib.hid hBs
  have HRW : Hid (RdC W (chipV c va vfa) c) := HR0.out.later (hb.trans (by rw [hW]; exact (Below.refl _ _).alloc hb.size _))
  unfold chipCells zc at st
  clear L0 hok hof hb hmd hW
  rw [hBs] at st
  clear hBs
  go_wp2
  clear st
  have C1 := fun (d : Nat) (os : Array Obj) => Calls.regrown_of (hasBlock_any c (chipV c va vfa) block (grow (redrawn W d) os) (HRW.out.later (below_regrown W d os)))
  have C2 := fun (d : Nat) (os : Array Obj) => Calls.regrown_of (asked_any c va vfa (hasBlockB c block) (grow (redrawn W d) os))
  have L := regB HM.out.arg rfl
  rw [← HZ.out] at C2
  unfold chipV at C1 C2
  unfold chipCells at L
  refine wp_region_quiet_below (by kernel_rfl) (by kernel_rfl) ?_
  repeat (go_big_quiet_step (first | exact C1 _ _ | exact C2 _ _))
  refine wpQuiet_nil fun w2 hw2 => ?_
  have hb2 : Below W.heap.size W w2 := by
    obtain ⟨p, rfl⟩ := hw2
    exact below_regrown W p.d p.os
  clear hw2 L C1 C2
  have HM2 := Lib.hid (HM.out.later hb2)
  rw [← HBS.out]
  rcases asked_cases c.off (hasBlockB c block) with ⟨h0, hmay, hoff⟩ | h0
  · rw [← HZ.out] at h0
    subst h0
    obtain ⟨hright, hb0, hbl⟩ := hasBlockB_iff.1 hmay
    obtain ⟨i, rfl, hil, hit⟩ := nat_of hb0 hbl
    have hbi := blkAt_get hil
    obtain ⟨g, cap, x, cur, hvb, hgb, hgc, hgf, -, -, -, c3, -⟩ := HM2.out.own.at_row hbi
    have q1 : w2.cell? ⟨B, 2, none⟩ = some vb := by rw [HM2.out.box.cell]; rfl
    have hK3 := (hvb ▸ HM2.out.own : OwnK w2 (w.heap.size + 2) (.slice (some ⟨g, 0, none⟩) c.blocks.length cap) T c.blocks).setNum hbi (b' := { blkAt c i with bad := true }) rfl (j := 3) (by omega) (.bool true) (fun x => rfl)
    rw [← hvb] at hK3
    have f3 := hgf (i * 4 + 3)
    have hM3 := HM2.out.set (u := .bool true) (j := i * 4 + 3) hgc (by decide) (by decide) hgb hK3
    clear hK3
    obtain ⟨st1, st2⟩ := hM3.fin
    have ld1 := hM3.box.load rfl
    have HFIN := Lib.hid st2
    have HCH : Hid (X = c.setBlk i { blkAt c i with bad := true }) := by show _ = _; rw [HCH0.out, if_neg (by simp)]; rfl
    obtain ⟨n, hn⟩ : ∃ n, n = c.blocks.length := ⟨_, rfl⟩
    rw [← hn] at hvb hil
    have hilI : (i : Int) < n := by omega
    have hi0 : (0 : Int) ≤ i := by omega
    have HVB := Lib.hid hvb
    rw [hvb] at q1
    unfold chipCells at st1 ld1
    dsimp only at st1 ld1
    clear st2 hM3 hmay hoff hright hbi hn hgf hvb hb2 HM2 hgc hgb
    go_wp2
    refine bodyPost_ret (v := .tuple #[.agg (chipCells (c.setBlk i { blkAt c i with bad := true }) vb vf), .int .i64 0]) (out2 rfl HFIN.out.1 rfl _ rfl rfl) rfl ?_
    exact ⟨_, rfl, by rw [HCH.out]; exact HFIN.out.2.1, HFIN.out.2.2⟩
  · rw [← HZ.out] at h0
    have q : (z != 0) = true := by simp [h0]
    have HCH : Hid (X = c) := by show _ = _; rw [HCH0.out, if_pos h0]
    obtain ⟨st1, st2⟩ := HM2.out.fin
    have ld1 := HM2.out.box.load rfl
    have HFIN := Lib.hid st2
    unfold chipCells at st1 ld1
    clear st2 h0 hb2 HM2
    go_wp2
    refine bodyPost_ret (v := .tuple #[.agg (chipCells c vb vf), .int .i64 z]) (out2 rfl HFIN.out.1 rfl _ rfl rfl) rfl ?_
    exact ⟨_, rfl, by rw [HCH.out]; exact HFIN.out.2.1, HFIN.out.2.2⟩

theorem Md.setOn {w W : World} {cs : Array Value} {B : Nat} {vb vf vg : Value} {T : List (Value × List Value)} {d : Chp} {fs : List Flt} (h : Md w cs B vb vf T d W) (hf : OwnF W (w.heap.size + 2) vg fs) :
    Md w cs B vb vg T { d with off := false, faults := fs } ((W.setCell ⟨B, 4, none⟩ (.bool false)).setCell ⟨B, 5, none⟩ vg) := by
  have hg := grown_tr (grown_set W B 4 (.bool false)) (grown_set (W.setCell ⟨B, 4, none⟩ (.bool false)) B 5 vg)
  have hs := h.bel.size
  have hB2 := h.at2
  exact ⟨h.bel.grown hg hs (fun k hk => by cases hk; omega), (hg.block _ h.arg.lt (by simp; omega)).trans h.arg, (hg.block _ h.res.lt (by simp; omega)).trans h.res, (h.box.set 4 (.bool false)).set 5 vg, h.own.kept h.box hg, hf.kept h.box hg, h.at2⟩

set_option maxHeartbeats 4000000 in
set_option maxRecDepth 100000 in
theorem on_any (c : Chp) (hs : Small c) (fs : List Flt) (v u : Value) (w : World) (hR : RdC w v c) (hU : RdF w u fs) :
    Calls Try.prog 7 #[v, u] w (ChipPost w (onC c fs) (onE c fs)) := by
  obtain ⟨va, vfa, hv, hK, hF⟩ := id hR
  subst hv
  have h0 := Cp.start w (chipCells c va vfa)
  have hR0 : RdC ((w.alloc (.cells (chipCells c va vfa) 27)).alloc (.cells zc 27)) (chipV c va vfa) c := hR.later (below2 _ _ _)
  have L0 := h0.box.load rfl
  have C0 := copied_any c hs (chipV c va vfa) _ hR0
  obtain ⟨W0, hW0⟩ : ∃ W0, W0 = (w.alloc (.cells (chipCells c va vfa) 27)).alloc (.cells zc 27) := ⟨_, rfl⟩
  have HW0 := Lib.hid hW0
  have hz0 : W0.heap.size = w.heap.size + 2 := by rw [hW0]; simp
  rw [← hW0] at h0 hR0 C0
  have HC0 := Lib.hid C0
  have H0 := Lib.hid h0
  have HR0 := Lib.hid hR0
  have HZ0 := Lib.hid hz0
  have HSM := Lib.hid hs
  have HU := Lib.hid hU
  obtain ⟨au, cu, hu, -, -⟩ := RdRow.len hU
  have HE : Hid (onE c fs = if onB c fs = true then 0 else 1) := rfl
  have HCH0 : Hid (onC c fs = if onB c fs = true then { c with off := false, faults := fs } else c) := rfl
  have HOB : Hid (onB c fs = (rightB c && decide ((fs.length : Int) ≤ 64))) := rfl
  obtain ⟨X, hX⟩ : ∃ X, X = onC c fs := ⟨_, rfl⟩
  obtain ⟨er, her⟩ : ∃ er, er = onE c fs := ⟨_, rfl⟩
  rw [← hX] at HCH0 ⊢
  rw [← her] at HE ⊢
  have C1 : Hid (∀ W, RdC W (chipV c va vfa) c → Calls Try.prog 12 #[chipV c va vfa] W fun e w' => e = .returned (.bool (rightB c)) ∧ Below W.heap.size W w') := fun W h => right_any c _ W h
  obtain ⟨n, hn⟩ : ∃ n, n = fs.length := ⟨_, rfl⟩
  have HN := Lib.hid hn
  rw [← hn] at HOB hu
  unfold chipV at C1
  subst hu
  clear hX her hU hn
  unfold chipCells zc at HW0 L0
  unfold CopyPost at HC0
  clear hK hF hR hR0 h0 C0 hW0 hz0 hs
  unfold chipV at HC0 ⊢
  go_enter Try.func7, Try.ntmps7
  go_wp2_with fail
  rw [← HW0.out]
  refine HC0.out.mono ?_
  rintro e w1 ⟨vb, vf, T, rfl, hok, hof, hb⟩
  have hmd := Md.start (H0.out.later hb) (by rw [← HZ0.out]; exact hok) (by rw [← HZ0.out]; exact hof)
  have st := store_new (ds := chipCells c vb vf) rfl (one6 c (own_one hok.row) (own_one hof)) w1 zc rfl
  obtain ⟨B, hBs⟩ : ∃ B, B = w1.heap.size := ⟨_, rfl⟩
  rw [← hBs] at hmd st
  obtain ⟨W, hW⟩ : ∃ W, W = w1.alloc (.cells (chipCells c vb vf) 27) := ⟨_, rfl⟩
  rw [← hW] at hmd st
  have HM := Lib.hid hmd
  have HBS := Lib.hid hBs
  have HRW : Hid (RdC W (chipV c va vfa) c) := HR0.out.later (hb.trans (by rw [hW]; exact (Below.refl _ _).alloc hb.size _))
  unfold chipCells zc at st
  clear L0 hok hof hb hmd hW
  rw [hBs] at st
  clear hBs
  have L := HM.out.arg.load rfl
  unfold chipCells at L
  by_cases hob : onB c fs = true
  · have HE1 : Hid (er = 0) := by show _ = _; rw [HE.out, if_pos hob]
    have HCH : Hid (X = { c with off := false, faults := fs }) := by show _ = _; rw [HCH0.out, if_pos hob]
    rw [HOB.out, Bool.and_eq_true, decide_eq_true_eq] at hob
    obtain ⟨hr, h64⟩ := hob
    rw [hr] at C1
    clear hr
    go_wp2_with (go_at_call 12; (refine (C1.out W HRW.out).mono ?_); rintro e w2 ⟨rfl, hb2⟩; clear st L; have HM2 := Lib.hid (HM.out.later hb2); have C4 := Lib.hid (cloneF_any fs.length (flAll fs) (flAll_length _) (flAll_ones _) (by have := HN.out; omega) _ w2 (HU.out.later (HM2.out.bel))); rw [← HN.out] at C4; unfold RowPost at C4; clear hb2)
    refine C4.out.mono ?_
    rintro e w3 ⟨v3, rfl, ho3, hb3⟩
    obtain ⟨a3, c3, hv3, -, -⟩ := RdRow.len (own_rdRow ho3)
    subst hv3
    have hm3 := HM2.out.later hb3
    have hof : OwnF w3 (w.heap.size + 2) (.slice a3 n c3) fs := by unfold OwnF; rw [← HN.out]; exact own_mono ho3 (Nat.le_trans (Nat.succ_le_of_lt HM2.out.res.lt) (Nat.le_refl _))
    have hm4 := hm3.setOn hof
    rw [← HBS.out]
    have q1 : w3.cell? ⟨B, 4, none⟩ = some (.bool c.off) := by rw [hm3.box.cell]; rfl
    have q2 := hm3.box.frozen 4
    have q3 : (w3.setCell ⟨B, 4, none⟩ (.bool false)).cell? ⟨B, 5, none⟩ = some vf := by rw [(hm3.box.set 4 (.bool false)).cell]; rfl
    have q4 := (hm3.box.set 4 (.bool false)).frozen 5
    obtain ⟨st1, st2⟩ := hm4.fin
    have ld1 := hm4.box.load rfl
    have HFIN := Lib.hid st2
    unfold chipCells at st1 ld1
    dsimp only at st1 ld1
    clear st2 hm3 hof hm4 ho3 hb3
    go_wp2
    refine bodyPost_ret (v := .tuple #[.agg (chipCells { c with off := false, faults := fs } vb (.slice a3 n c3)), .int .i64 0]) (out2 rfl HFIN.out.1 rfl _ rfl rfl) rfl ?_
    exact ⟨_, by rw [HE1.out], by rw [HCH.out]; exact HFIN.out.2.1, HFIN.out.2.2⟩
  · have HE1 : Hid (er = 1) := by show _ = _; rw [HE.out, if_neg hob]
    have HCH : Hid (X = c) := by show _ = _; rw [HCH0.out, if_neg hob]
    have FIN : ∀ w2, Below W.heap.size W w2 → (chipStore ⟨w.heap.size + 1, 0, none⟩ (.agg (chipCells c vb vf))).run Try.prog w2 = .ok () (w2.setRow (w.heap.size + 1) (chipCells c vb vf)) ∧ (chipLoad ⟨B, 0, none⟩).run Try.prog w2 = .ok (.agg (chipCells c vb vf)) w2 ∧ Hid (Box (w2.setRow (w.heap.size + 1) (chipCells c vb vf)) (w.heap.size + 1) (chipCells c vb vf) ∧ RdN (w2.setRow (w.heap.size + 1) (chipCells c vb vf)) (chipV c vb vf) c ∧ Below w.heap.size w (w2.setRow (w.heap.size + 1) (chipCells c vb vf))) := fun w2 hb => by
      have h := HM.out.later hb
      exact ⟨h.fin.1, h.box.load rfl, h.fin.2⟩
    have HFI := Lib.hid FIN
    clear FIN
    cases hr : rightB c with
    | false =>
      rw [hr] at C1
      clear hr hob
      go_wp2_with (go_at_call 12; (refine (C1.out W HRW.out).mono ?_); rintro e w2 ⟨rfl, hb2⟩; clear st L; obtain ⟨st1, ld1, HFIN⟩ := HFI.out w2 hb2; unfold chipCells at st1 ld1; rw [HBS.out] at ld1; clear hb2)
      refine bodyPost_ret (v := .tuple #[.agg (chipCells c vb vf), .int .i64 1]) (out2 rfl HFIN.out.1 rfl _ rfl rfl) rfl ?_
      exact ⟨_, by rw [HE1.out], by rw [HCH.out]; exact HFIN.out.2.1, HFIN.out.2.2⟩
    | true =>
      have h64 : ¬ (n : Int) ≤ 64 := fun h => hob (by rw [HOB.out, hr, decide_eq_true h]; rfl)
      rw [hr] at C1
      clear hr hob
      go_wp2_with (go_at_call 12; (refine (C1.out W HRW.out).mono ?_); rintro e w2 ⟨rfl, hb2⟩; clear st L; obtain ⟨st1, ld1, HFIN⟩ := HFI.out w2 hb2; unfold chipCells at st1 ld1; rw [HBS.out] at ld1; clear hb2)
      refine bodyPost_ret (v := .tuple #[.agg (chipCells c vb vf), .int .i64 1]) (out2 rfl HFIN.out.1 rfl _ rfl rfl) rfl ?_
      exact ⟨_, by rw [HE1.out], by rw [HCH.out]; exact HFIN.out.2.1, HFIN.out.2.2⟩
end Go.Proofs.Ytilgppijmkcomaa.Chip
