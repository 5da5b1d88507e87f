/- The fixed answer of layer 6's statements: true. -/
import Derived.Test.YtilgppijmkcomaaChipShort
namespace Go.Proofs.Ytilgppijmkcomaa.Chip
open Go.RowKit Go.Sort Go.Shelf
attribute [local go_sem ↓] loadVar_chip storeVar_chip text_bytes eq_text

theorem rdC_form {w : World} {v : Value} {c : Chp} (h : RdC w v c) : ∃ vb vf, v = .agg (chipCells c vb vf) ∧ One6 (chipCells c vb vf) ∧ RdK w vb c.blocks ∧ RdF w vf c.faults := by
  obtain ⟨vb, vf, rfl, h1, h2⟩ := h
  obtain ⟨xs, -, h3⟩ := id h1
  exact ⟨vb, vf, rfl, one6 c (rdRow_one h3) (rdRow_one h2), h1, h2⟩
theorem other_chip : Other 27 := ⟨by decide, by decide, by decide, by decide⟩
/-- A variable's box that is made for a chip. -/
theorem box_make {w : World} {v : Value} {c : Chp} (h : RdN w v c) : ∃ A W, v = .agg A ∧ (chipStore ⟨w.heap.size, 0, none⟩ (.agg A)).run Try.prog (w.alloc (.cells zc 27)) = .ok () W ∧ Box W w.heap.size A ∧ RdN W (.agg A) c ∧ Below w.heap.size w W ∧ A.size = 6 := by
  obtain ⟨vb, vf, rfl, h1, -⟩ := rdC_form h.rd
  have hb : Below w.heap.size w (w.alloc (.cells (chipCells c vb vf) 27)) := (Below.refl _ _).alloc (Nat.le_refl _) _
  exact ⟨chipCells c vb vf, _, rfl, store_new rfl h1 w zc rfl, Box.new _ _, h.oth (Oth.below hb), hb, rfl⟩
/-- A variable's box that a chip is put into. -/
theorem box_put {w : World} {v : Value} {c : Chp} {B : Nat} {A0 : Array Value} (h : RdN w v c) (hB : Box w B A0) (h6 : A0.size = 6) : ∃ A W, v = .agg A ∧ (chipStore ⟨B, 0, none⟩ (.agg A)).run Try.prog w = .ok () W ∧ Box W B A ∧ RdN W (.agg A) c ∧ Oth w W ∧ w.grownBy W (some B) ∧ A.size = 6 := by
  obtain ⟨vb, vf, rfl, h1, -⟩ := rdC_form h.rd
  have hg : w.grownBy (w.setRow B (chipCells c vb vf)) (some B) := ⟨rfl, rfl, rfl, by simp, fun k _ hk => setRow_other w B k _ (fun e => hk (by simp [e]))⟩
  have ho : Oth w (w.setRow B (chipCells c vb vf)) := fun k hk => by
    by_cases e : k = B
    · subst e
      exact .inr ⟨A0, _, _, other_chip, hB, hB.row _⟩
    · exact .inl (hg.block k hk (by simp [e]))
  exact ⟨chipCells c vb vf, _, rfl, hB.store h6 rfl h1, hB.row _, h.oth ho, ho, hg, rfl⟩
theorem below_put {base B : Nat} {w0 w W : World} (h : Below base w0 w) (hb : base ≤ w.heap.size) (hB : base ≤ B) (hg : w.grownBy W (some B)) : Below base w0 W := h.grown hg hb (fun k hk => by cases hk; exact hB)
theorem Box.grown {w W : World} {B B' : Nat} {A : Array Value} (h : Box w B A) (hg : w.grownBy W (some B')) (hne : B ≠ B') : Box W B A := (hg.block _ h.lt (by simp [hne])).trans h
def aw0 : Chp := newChp 1 2 2
def aw1 : Chp := progC aw0 0 0 [1, 2]
def aw2 : Chp := eraseC aw1 0
theorem aw_small : Small aw0 ∧ Small aw1 ∧ Small aw2 := by
  refine ⟨⟨by decide, by decide, ?_⟩, ⟨by decide, by decide, ?_⟩, ⟨by decide, by decide, ?_⟩⟩ <;> decide
theorem aw_facts : progE aw0 0 0 [1, 2] = 0 ∧ progE aw1 0 0 [1, 2] = 9 ∧ readE aw1 0 0 = 0 ∧ readB aw1 0 0 = [1, 2] ∧ eraseE aw1 0 = 0 ∧ readE aw2 0 0 = 0 ∧ readB aw2 0 0 = [255, 255] ∧ rightB aw2 = true ∧ (∃ b, aw2.blocks[0]? = some b ∧ b.worn = 1) := by
  refine ⟨by decide, by decide, by decide, by decide, by decide, by decide, by decide, by decide, _, rfl, by decide⟩
theorem te12 (W : World) : (textEq (.string (bs [1, 2])) (.string ⟨#[1, 2]⟩)).run Try.prog W = .ok (.bool true) W := by
  have := run_textEq [1, 2] [1, 2] W
  rw [decide_eq_true rfl] at this; exact this
theorem teff (W : World) : (textEq (.string (bs [255, 255])) (.string ⟨#[255, 255]⟩)).run Try.prog W = .ok (.bool true) W := by
  have := run_textEq [255, 255] [255, 255] W
  rw [decide_eq_true rfl] at this; exact this
theorem lit2_rd (W : World) : RdB (W.alloc (.cells #[.int .u8 1, .int .u8 2] 5)) (.slice (some ⟨W.heap.size, 0, none⟩) 2 2) [1, 2] :=
  ⟨some ⟨W.heap.size, 0, none⟩, 2, rfl, Nat.le_refl _, by decide, (fun h => by cases h), fun ad ha j u hu => by
    cases ha
    rw [add_here, Nat.zero_add, World.cell?_alloc_at _ _ _ _ rfl]
    simpa [cellsB, byV] using hu⟩

set_option maxHeartbeats 4000000 in
set_option maxRecDepth 100000 in
theorem awake_any (w : World) : Calls Try.prog 5 #[] w fun e w' => e = .returned (.bool true) ∧ Below w.heap.size w w' := by
  obtain ⟨S0, S1, S2⟩ := aw_small
  obtain ⟨f1, f2, f3, f4, f5, f6, f7, f8, b, f9, f10⟩ := aw_facts
  have HN : Hid (∀ W, Calls Try.prog 6 #[.int .i64 1, .int .i64 2, .int .i64 2] W (ChipPost W aw0 0)) := fun W => new_any 1 2 2 W
  have HP0 : Hid (∀ W v u, RdC W v aw0 → RdB W u [1, 2] → Calls Try.prog 8 #[v, .int .i64 0, .int .i64 0, u] W (ChipPost W aw1 0)) := fun W v u h1 h2 => by
    have := program_any aw0 S0 [1, 2] v u 0 0 W h1 h2
    rw [f1] at this; exact this
  have HP1 : Hid (∀ W v u, RdC W v aw1 → RdB W u [1, 2] → Calls Try.prog 8 #[v, .int .i64 0, .int .i64 0, u] W fun e w' => ∃ c, ChipPost W c 9 e w') := fun W v u h1 h2 => by
    have := program_any aw1 S1 [1, 2] v u 0 0 W h1 h2
    rw [f2] at this
    exact this.mono fun e w' h => ⟨_, h⟩
  have HR1 : Hid (∀ W v, RdC W v aw1 → Calls Try.prog 11 #[v, .int .i64 0, .int .i64 0] W fun e w' => ∃ v', e = .returned (.tuple #[v', .int .i64 0]) ∧ OwnB w' W.heap.size v' [1, 2] ∧ Below W.heap.size W w') := fun W v h => by
    have := read_any aw1 S1 v 0 0 W h
    unfold ReadPost at this
    rw [f3, f4] at this; exact this
  have HE1 : Hid (∀ W v, RdC W v aw1 → Calls Try.prog 9 #[v, .int .i64 0] W (ChipPost W aw2 0)) := fun W v h => by
    have := erase_any aw1 S1 v 0 W h
    rw [f5] at this; exact this
  have HR2 : Hid (∀ W v, RdC W v aw2 → Calls Try.prog 11 #[v, .int .i64 0, .int .i64 0] W fun e w' => ∃ v', e = .returned (.tuple #[v', .int .i64 0]) ∧ OwnB w' W.heap.size v' [255, 255] ∧ Below W.heap.size W w') := fun W v h => by
    have := read_any aw2 S2 v 0 0 W h
    unfold ReadPost at this
    rw [f6, f7] at this; exact this
  have HRT : Hid (∀ W v, RdC W v aw2 → Calls Try.prog 12 #[v] W fun e w' => e = .returned (.bool true) ∧ Below W.heap.size W w') := fun W v h => by
    have := right_any aw2 v W h
    rw [f8] at this; exact this
  have HF9 := Lib.hid f9
  have HF10 := Lib.hid f10
  unfold ChipPost at HN HP0 HP1 HE1
  generalize aw0 = k0 at *
  generalize aw1 = k1 at *
  generalize aw2 = k2 at *
  clear S0 S1 S2 f1 f2 f3 f4 f5 f6 f7 f8 f9 f10
  have T12 := Lib.hid te12
  have TFF := Lib.hid teff
  go_enter Try.func5, Try.ntmps5
  go_wp2_with fail
  refine (HN.out w).mono ?_
  rintro e w1 ⟨v1, rfl, hr1, hb1⟩
  obtain ⟨A1, W1, hv1, st1, hx1, hn1, ha1, hs1⟩ := box_make hr1
  subst hv1
  have ld1 := hx1.load hs1
  have B1 : Hid (Below w.heap.size w W1) := hb1.trans (ha1.mono hb1.size)
  have X1 := Lib.hid hx1
  have N1 := Lib.hid hn1
  have S1 := Lib.hid hs1
  have Z1 : Hid (w.heap.size ≤ w1.heap.size) := hb1.size
  unfold zc at st1
  clear hr1 hb1 hx1 hn1 ha1 hs1
  go_wp2_with fail
  clear st1 ld1
  have hal : Below W1.heap.size W1 (W1.alloc (.cells #[.int .u8 1, .int .u8 2] 5)) := (Below.refl _ _).alloc (Nat.le_refl _) _
  refine (HP0.out _ _ _ (N1.out.rd.later hal) (lit2_rd W1)).mono ?_
  rintro e w2 ⟨v2, rfl, hr2, hb2⟩
  have hb2' : Below W1.heap.size W1 w2 := hal.trans (hb2.mono hal.size)
  obtain ⟨A2, W2, hv2, st2, hx2, hn2, -, hg2, hs2⟩ := box_put hr2 (X1.out.later hb2') S1.out
  subst hv2
  have ld2 := hx2.load hs2
  have B2a : Below w.heap.size w w2 := B1.out.trans (hb2'.mono B1.out.size)
  have B2 : Hid (Below w.heap.size w W2) := below_put B2a B2a.size Z1.out hg2
  have X2 := Lib.hid hx2
  have N2 := Lib.hid hn2
  have S2 := Lib.hid hs2
  clear hal hr2 hb2 hb2' hx2 hn2 hg2 hs2 B2a
  go_wp2_with fail
  clear st2 ld2
  have hal : Below W2.heap.size W2 (W2.alloc (.cells #[.int .u8 1, .int .u8 2] 5)) := (Below.refl _ _).alloc (Nat.le_refl _) _
  refine (HP1.out _ _ _ (N2.out.rd.later hal) (lit2_rd W2)).mono ?_
  rintro e w3 ⟨c3, v3, rfl, hr3, hb3⟩
  have hb3' : Below W2.heap.size W2 w3 := hal.trans (hb3.mono hal.size)
  obtain ⟨A3, W3, hv3, st3, -, -, ha3, -⟩ := box_make hr3
  subst hv3
  have hb3w : Below W2.heap.size W2 W3 := hb3'.trans (ha3.mono hb3'.size)
  have X3 := Lib.hid (X2.out.later hb3w)
  have N3 := Lib.hid (N2.out.oth (Oth.below hb3w))
  have B3 : Hid (Below w.heap.size w W3) := B2.out.trans (hb3w.mono B2.out.size)
  have ld3 := X3.out.load S2.out
  unfold zc at st3
  clear hal hr3 hb3 hb3' hb3w ha3
  go_wp2_with fail
  clear st3 ld3
  refine (HR1.out _ _ N3.out.rd).mono ?_
  rintro e w4 ⟨v4, rfl, ho4, hb4⟩
  have X4 := Lib.hid (X3.out.later hb4)
  have N4 := Lib.hid (N3.out.oth (Oth.below hb4))
  have B4 : Hid (Below w.heap.size w w4) := B3.out.trans (hb4.mono B3.out.size)
  have O4 := Lib.hid ho4
  have ld4 := X4.out.load S2.out
  clear ho4 hb4
  go_wp2_with fail
  clear ld4
  refine (HE1.out _ _ N4.out.rd).mono ?_
  rintro e w5 ⟨v5, rfl, hr5, hb5⟩
  obtain ⟨A5, W5, hv5, st5, hx5, hn5, ha5, hs5⟩ := box_make hr5
  subst hv5
  have hb5w : Below w4.heap.size w4 W5 := hb5.trans (ha5.mono hb5.size)
  have X5 := Lib.hid hx5
  have N5 := Lib.hid hn5
  have S5 := Lib.hid hs5
  have B5 : Hid (Below w.heap.size w W5) := B4.out.trans (hb5w.mono B4.out.size)
  have O5 := Lib.hid (O4.out.later hb5w)
  have ld5 := hx5.load hs5
  unfold zc at st5
  clear hr5 hb5 ha5 hb5w hx5 hn5 hs5
  go_wp2_with fail
  clear st5 ld5
  refine (HR2.out _ _ N5.out.rd).mono ?_
  rintro e w6 ⟨v6, rfl, ho6, hb6⟩
  have X6 := Lib.hid (X5.out.later hb6)
  have N6 := Lib.hid (N5.out.oth (Oth.below hb6))
  have B6 : Hid (Below w.heap.size w w6) := B5.out.trans (hb6.mono B5.out.size)
  have O6 := Lib.hid (O5.out.later hb6)
  have P6 := Lib.hid ho6
  clear ho6 hb6
  obtain ⟨vb, vf, hA5, -, hK6, -⟩ := rdC_form N6.out.rd
  obtain ⟨bb, bo, cb, x, hvb, -, -, -, -, cw, -⟩ := at_blk hK6 HF9.out
  simp only [Value.agg.injEq] at hA5
  have q2 : w6.cell? ⟨w5.heap.size, 2, none⟩ = some vb := by rw [X6.out.cell, hA5]; rfl
  have hlen : 0 < k2.blocks.length := (List.getElem?_eq_some_iff.1 HF9.out).1
  obtain ⟨n, hn⟩ : ∃ n, n = k2.blocks.length := ⟨_, rfl⟩
  rw [← hn] at hvb hlen
  have hlenI : (0 : Int) < n := by omega
  rw [HF10.out] at cw
  rw [Nat.zero_mul, Nat.add_zero] at cw
  subst hvb
  have ld6 := X6.out.load S5.out
  have t1 := run_text O6.out.rd
  have t2 := run_text P6.out.rd
  have t3 := T12.out w6
  have t4 := TFF.out w6
  clear hK6 hn hA5
  go_wp2_with fail
  refine (HRT.out _ _ N6.out.rd).mono ?_
  rintro e w7 ⟨rfl, hb7⟩
  clear t1 t2 t3 t4 ld6 q2 cw
  go_wp2
  go_ret
  exact ⟨rfl, B6.out.trans (hb7.mono B6.out.size)⟩
end Go.Proofs.Ytilgppijmkcomaa.Chip
