/- chip.operate: an operation is counted, and what strikes it is told. -/
import Derived.Test.YtilgppijmkcomaaChipCopy
namespace Go.Proofs.Ytilgppijmkcomaa.Chip
open Go.RowKit Go.Sort Go.Shelf

set_option maxHeartbeats 1000000 in
theorem operate1_any (f : Flt) (ops : Int) (B : Nat) (w : World) (hc : w.cell? ⟨B, 0, none⟩ = some (.int .i64 ops)) :
    Calls Try.prog 34 #[fltV f, .pointer (some ⟨B, 0, none⟩)] w fun e w' => e = .returned (.bool (decide (f.op = ops))) ∧ Below w.heap.size w w' := by
  have hlt := World.block_lt_of_cell? _ _ hc
  simp only at hlt
  obtain ⟨op, fail, cut, mask⟩ := f
  unfold fltV
  by_cases h : op = ops
  · subst h
    go_enter Try.func34, Try.ntmps34
    go_wp2
    go_ret
    exact ⟨by simp, (Below.refl _ _).alloc (Nat.le_refl _) _⟩
  · go_enter Try.func34, Try.ntmps34
    go_wp2
    go_ret
    exact ⟨by simp [h], (Below.refl _ _).alloc (Nat.le_refl _) _⟩

theorem hit_idx (ops : Int) (fs : List Flt) : (idxOf (fun f => decide (f.op = ops)) fs = -1 ∧ hitOf ops fs = none) ∨ ∃ (i : Nat) (f : Flt), idxOf (fun f => decide (f.op = ops)) fs = (i : Int) ∧ i < fs.length ∧ fs[i]? = some f ∧ hitOf ops fs = some f := by
  unfold idxOf hitOf
  cases h : fs.findIdx? (fun f => decide (f.op = ops)) with
  | none =>
    refine .inl ⟨rfl, ?_⟩
    rw [List.findIdx?_eq_none_iff] at h
    rw [List.find?_eq_none]
    intro x hx; rw [h x hx]; decide
  | some i =>
    rw [List.findIdx?_eq_some_iff_getElem] at h
    obtain ⟨hi, h1, h2⟩ := h
    refine .inr ⟨i, fs[i], rfl, hi, List.getElem?_eq_getElem hi, ?_⟩
    rw [List.find?_eq_some_iff_getElem]
    exact ⟨h1, i, hi, rfl, fun j hj => by simpa using h2 j hj⟩

def OperPost (c : Chp) (vb vf : Value) (B : Nat) (w : World) (e : Ending) (w' : World) : Prop :=
  e = .returned (.tuple #[.int .u8 ((maskOf (strikes c)).toNat : Int), .int .i64 (errOf (strikes c))]) ∧ Box w' B (chipCells c.counted vb vf) ∧ w.grownBy w' (some B)
theorem grown_tr {a b c : World} {row : Option Nat} (h : a.grownBy b row) (k : b.grownBy c row) : a.grownBy c row :=
  ⟨k.os.trans h.os, k.tape.trans h.tape, k.output.trans h.output, Nat.le_trans h.size k.size, fun i hi hne => (k.block i (Nat.lt_of_lt_of_le hi h.size) hne).trans (h.block i hi hne)⟩
theorem grown_bel {a b : World} (h : Below a.heap.size a b) (row : Option Nat) : a.grownBy b row := ⟨h.os, h.tape, h.output, h.size, fun i hi _ => h.block i hi⟩

theorem OwnK.kept {w w' : World} {base B : Nat} {vb : Value} {T : List (Value × List Value)} {bs : List Blk} {cs : Array Value} (h : OwnK w base vb T bs) (hB : Box w B cs) (hg : w.grownBy w' (some B)) : OwnK w' base vb T bs :=
  ⟨World.ownsRow.kept h.row hg (.inr (own_apart h.row hB (by decide))), h.len, fun i p b hp hb =>
    ⟨World.ownsRow.kept (h.us i p b hp hb).1 hg (.inr (own_apart (h.us i p b hp hb).1 hB (by decide))), f2_mono (fun _ _ h => World.ownsRow.kept h hg (.inr (own_apart h hB (by decide)))) (h.us i p b hp hb).2⟩, h.sep⟩
theorem OwnF.kept {w w' : World} {base B : Nat} {vf : Value} {fs : List Flt} {cs : Array Value} (h : OwnF w base vf fs) (hB : Box w B cs) (hg : w.grownBy w' (some B)) : OwnF w' base vf fs :=
  World.ownsRow.kept h hg (.inr (own_apart h hB (by decide)))
theorem OwnF.form {w : World} {base : Nat} {vf : Value} {fs : List Flt} (h : OwnF w base vf fs) {i : Nat} {f : Flt} (hi : fs[i]? = some f) : ∃ g cap, vf = .slice (some ⟨g, 0, none⟩) fs.length cap ∧ ∀ j, j < 4 → w.cell? ⟨g, i * 4 + j, none⟩ = (flC f)[j]? := by
  have hl := (List.getElem?_eq_some_iff.1 hi).1
  obtain ⟨g, cap, hv, -, -, -, -⟩ := own_form h (by omega)
  refine ⟨g, cap, hv, fun j hj => ?_⟩
  subst hv
  rw [World.ownsRow.cellAt h (i * 4 + j) (by omega), flAll_at hi hj]

set_option maxHeartbeats 4000000 in
set_option maxRecDepth 100000 in
theorem operate_any (c : Chp) (vb vf : Value) (B base : Nat) (w : World) (hB : Box w B (chipCells c vb vf)) (hF : OwnF w base vf c.faults) (h0 : 0 ≤ c.ops) (h1 : c.ops < top) :
    Calls Try.prog 22 #[.pointer (some ⟨B, 0, none⟩)] w (OperPost c vb vf B w) := by
  have hlt := hB.lt
  have q1 := hB.frozen 3
  have q2 : w.cell? ⟨B, 3, none⟩ = some (.int .i64 c.ops) := by rw [hB.cell]; rfl
  have q3 : w.cell? ⟨B, 5, none⟩ = some vf := by rw [hB.cell]; rfl
  unfold top at h1
  have g1 := grown_set w B 3 (.int .i64 (c.ops + 1))
  have g2 := grown_tr g1 (World.grownBy_alloc (w.setCell ⟨B, 3, none⟩ (.int .i64 (c.ops + 1))) (.cells #[.int .i64 c.ops] 3) (some B))
  have hB1 : Box ((w.setCell ⟨B, 3, none⟩ (.int .i64 (c.ops + 1))).alloc (.cells #[.int .i64 c.ops] 3)) B (chipCells { c with ops := c.ops + 1 } vb vf) :=
    Box.later (hB.set 3 (.int .i64 (c.ops + 1))) ((Below.refl _ _).alloc (Nat.le_refl _) _)
  have hF1 := hF.kept hB g2
  have hn1 : ((w.setCell ⟨B, 3, none⟩ (.int .i64 (c.ops + 1))).alloc (.cells #[.int .i64 c.ops] 3)).cell? ⟨w.heap.size, 0, none⟩ = some (.int .i64 c.ops) := World.cell?_alloc_at _ _ _ _ (by simp)
  have C := idxF_any c.faults vf 34 #[.pointer (some ⟨w.heap.size, 0, none⟩)] (fun f => decide (f.op = c.ops)) _ hF1.rd (enters_of Try.func34 (by kernel_rfl) rfl)
    (fun i r W hr hb => operate1_any r c.ops w.heap.size W (keep_cell hn1 hb))
  obtain ⟨W1, hW1⟩ : ∃ W1, W1 = (w.setCell ⟨B, 3, none⟩ (.int .i64 (c.ops + 1))).alloc (.cells #[.int .i64 c.ops] 3) := ⟨_, rfl⟩
  have HW1 := Lib.hid hW1
  rw [← hW1] at g2 hB1 hF1 C
  have HC := Lib.hid C
  have HG := Lib.hid g2
  have HB1 := Lib.hid hB1
  have HF1 := Lib.hid hF1
  unfold OperPost
  unfold IdxPost at HC
  clear g1 g2 hB1 hF1 hn1 C hW1 hF hB
  rcases hit_idx c.ops c.faults with ⟨hi, hh⟩ | ⟨i, f, hi, hil, hif, hh⟩
  · rw [hi] at HC
    have HH : Hid (strikes c = none) := hh
    clear hi hh
    go_enter Try.func22, Try.ntmps22
    go_wp2_with fail
    rw [← HW1.out]
    refine HC.out.mono ?_
    rintro e w2 ⟨rfl, hb⟩
    have HB2 := Lib.hid (HB1.out.later hb)
    have HG2 := Lib.hid (grown_tr HG.out (grown_bel hb _))
    clear hb q1 q2 q3
    go_wp2
    go_ret2
    refine ⟨by rw [HH.out]; rfl, ?_, HG2.out⟩
    have := HB2.out
    unfold Chp.counted
    rw [HH.out]
    simpa [chipCells, cutOf] using this
  · rw [hi] at HC
    have HH : Hid (strikes c = some f) := hh
    obtain ⟨gf, cf, hvf, -⟩ := HF1.out.form hif
    have HIF := Lib.hid hif
    obtain ⟨m, hm⟩ : ∃ m, m = c.faults.length := ⟨_, rfl⟩
    have HM := Lib.hid hm
    rw [← hm] at hvf hil
    subst hvf
    have hilI : (i : Int) < m := by omega
    have hi0 : (0 : Int) ≤ i := by omega
    clear hi hh hif hm
    obtain ⟨op, fail, cut, mask⟩ := f
    have HCELL : Hid (∀ w2, Below W1.heap.size W1 w2 → w2.cell? ⟨gf, i * 4 + 1, none⟩ = some (.bool fail) ∧ w2.cell? ⟨gf, i * 4 + 2, none⟩ = some (.bool cut) ∧ w2.cell? ⟨gf, i * 4 + 3, none⟩ = some (.int .u8 (mask.toNat : Int))) := fun w2 hb => by
      obtain ⟨g', c', hv', hc⟩ := OwnF.form (own_later HF1.out hb : OwnF w2 base _ c.faults) HIF.out
      simp only [Value.slice.injEq, Option.some.injEq, Addr.mk.injEq, and_true] at hv'
      obtain ⟨rfl, -⟩ := hv'
      exact ⟨hc 1 (by omega), hc 2 (by omega), hc 3 (by omega)⟩
    have hne : gf ≠ B := fun e => own_apart HF1.out HB1.out (by decide) (by rw [e]; rfl)
    cases cut with
    | true =>
      go_enter Try.func22, Try.ntmps22
      go_wp2_with fail
      rw [← HW1.out]
      refine HC.out.mono ?_
      rintro e w2 ⟨rfl, hb⟩
      have hB2 := HB1.out.later hb
      have HG2 := Lib.hid (grown_tr HG.out (grown_bel hb _))
      obtain ⟨k1, k2, k3⟩ := HCELL.out w2 hb
      have t1 : w2.cell? ⟨B, 4, none⟩ = some (.bool c.off) := by rw [hB2.cell]; rfl
      have t2 := hB2.frozen 4
      have t3 : w2.cell? ⟨B, 5, none⟩ = some (.slice (some ⟨gf, 0, none⟩) m cf) := by rw [hB2.cell]; rfl
      have t4 : (w2.setCell ⟨B, 4, none⟩ (.bool true)).cell? ⟨B, 5, none⟩ = some (.slice (some ⟨gf, 0, none⟩) m cf) := by rw [(hB2.set 4 (.bool true)).cell]; rfl
      have t5 : (w2.setCell ⟨B, 4, none⟩ (.bool true)).cell? ⟨gf, i * 4 + 3, none⟩ = some (.int .u8 (mask.toNat : Int)) := by
        rw [World.cell?_of_block (w := w2) (heap_setCell_other w2 ⟨B, 4, none⟩ gf _ hne)]; exact k3
      have HB3 := Lib.hid (hB2.set 4 (.bool true))
      have HG3 := Lib.hid (grown_tr HG2.out (grown_set w2 B 4 (.bool true)))
      clear hb q1 q2 q3 hB2
      go_wp2
      go_ret2
      refine ⟨by rw [HH.out]; rfl, ?_, HG3.out⟩
      have := HB3.out
      unfold Chp.counted
      rw [HH.out]
      simpa [chipCells, cutOf] using this
    | false =>
      cases fail with
      | true =>
        go_enter Try.func22, Try.ntmps22
        go_wp2_with fail
        rw [← HW1.out]
        refine HC.out.mono ?_
        rintro e w2 ⟨rfl, hb⟩
        have hB2 := HB1.out.later hb
        have HG2 := Lib.hid (grown_tr HG.out (grown_bel hb _))
        obtain ⟨k1, k2, k3⟩ := HCELL.out w2 hb
        have t3 : w2.cell? ⟨B, 5, none⟩ = some (.slice (some ⟨gf, 0, none⟩) m cf) := by rw [hB2.cell]; rfl
        have HB3 := Lib.hid hB2
        clear hb q1 q2 q3 hB2
        go_wp2
        go_ret2
        refine ⟨by rw [HH.out]; rfl, ?_, HG2.out⟩
        have := HB3.out
        unfold Chp.counted
        rw [HH.out]
        simpa [chipCells, cutOf] using this
      | false =>
        go_enter Try.func22, Try.ntmps22
        go_wp2_with fail
        rw [← HW1.out]
        refine HC.out.mono ?_
        rintro e w2 ⟨rfl, hb⟩
        have hB2 := HB1.out.later hb
        have HG2 := Lib.hid (grown_tr HG.out (grown_bel hb _))
        obtain ⟨k1, k2, k3⟩ := HCELL.out w2 hb
        have t3 : w2.cell? ⟨B, 5, none⟩ = some (.slice (some ⟨gf, 0, none⟩) m cf) := by rw [hB2.cell]; rfl
        have HB3 := Lib.hid hB2
        clear hb q1 q2 q3 hB2
        go_wp2
        go_ret2
        refine ⟨by rw [HH.out]; rfl, ?_, HG2.out⟩
        have := HB3.out
        unfold Chp.counted
        rw [HH.out]
        simpa [chipCells, cutOf] using this
end Go.Proofs.Ytilgppijmkcomaa.Chip
