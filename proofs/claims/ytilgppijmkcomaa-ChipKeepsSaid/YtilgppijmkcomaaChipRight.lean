/- chip.fits, Right, hasBlock, hasPage: what each hands back. -/
import Derived.Test.YtilgppijmkcomaaChipIdx
namespace Go.Proofs.Ytilgppijmkcomaa.Chip
open Go.RowKit Go.Sort Go.Shelf

theorem bcell {W w1 : World} (hb : Below W.heap.size W w1) : (∀ b o, b < W.heap.size → w1.cell? ⟨b, o, none⟩ = W.cell? ⟨b, o, none⟩) ∧ (∀ b o, b < W.heap.size → w1.frozen? ⟨b, o, none⟩ = W.frozen? ⟨b, o, none⟩) :=
  ⟨fun b o h => hb.cell (p := ⟨b, o, none⟩) h, fun b o h => hb.frozen (p := ⟨b, o, none⟩) h⟩
theorem keep_cell {w w' : World} {p : Addr} {v : Value} (h : w.cell? p = some v) (hb : Below w.heap.size w w') : w'.cell? p = some v := by
  rw [hb.cell (World.block_lt_of_cell? _ _ h)]; exact h

set_option maxHeartbeats 1000000 in
theorem fits1_any (p : List UInt8) (x : Value) (size : Int) (B : Nat) (w : World) (hx : RdB w x p) (hc : w.cell? ⟨B, 0, none⟩ = some (.int .i64 size)) :
    Calls Try.prog 37 #[x, .pointer (some ⟨B, 0, none⟩)] w fun e w' => e = .returned (.bool (longB size p)) ∧ w = w' := by
  obtain ⟨a, cap, hv, -, -⟩ := hx.len
  obtain ⟨n, hn⟩ : ∃ n, n = p.length := ⟨_, rfl⟩
  unfold longB
  rw [← hn] at hv ⊢
  subst hv
  clear hx hn
  by_cases h : (n : Int) = size
  · subst h
    go_enter Try.func37, Try.ntmps37
    go_wp2
    go_ret
    exact ⟨by simp, rfl⟩
  · go_enter Try.func37, Try.ntmps37
    go_wp2
    go_ret
    exact ⟨by simp [h], rfl⟩

theorem below2 (w : World) (o o' : Obj) : Below w.heap.size w ((w.alloc o).alloc o') := ((Below.refl _ _).alloc (Nat.le_refl _) o).alloc (by simp) o'

set_option maxHeartbeats 1000000 in
theorem fits_any (b : Blk) (x : Value) (pages size : Int) (w : World) (hR : RdP w x b.pages) :
    Calls Try.prog 28 #[blkV x b, .int .i64 pages, .int .i64 size] w fun e w' => e = .returned (.bool (fitsB b pages size)) ∧ Below w.heap.size w w' := by
  obtain ⟨ps, used, worn, bad⟩ := b
  have C := hasP_any ps x 37 #[.pointer (some ⟨w.heap.size + 1, 0, none⟩)] (longB size) ((w.alloc (.cells #[x, .int .i64 used, .int .i64 worn, .bool bad] 40)).alloc (.cells #[.int .i64 size] 3))
    (hR.later (below2 _ _ _)) (enters_of Try.func37 (by kernel_rfl) rfl) (fun i r y W hr hy hB => by
      refine (fits1_any r y size _ W hy (keep_cell (World.cell?_alloc_at _ _ _ _ (by simp)) hB)).mono ?_
      rintro e w' ⟨rfl, rfl⟩
      exact ⟨rfl, Below.refl _ _⟩)
  have C1 := within_any used 0 pages
  have C2 := within_any worn 0 top
  obtain ⟨a, cap, hv, -, -⟩ : ∃ a cap, x = .slice a ps.length cap ∧ ps.length ≤ cap ∧ cap ≤ maxLen := by obtain ⟨xs, -, h2⟩ := hR; exact h2.len
  have HF : Hid (fitsB ⟨ps, used, worn, bad⟩ pages size = (decide ((ps.length : Int) = pages) && withinB used 0 pages && withinB worn 0 top && !ps.any (longB size))) := rfl
  rw [HF.out]
  clear hR
  have HB := below2 w (.cells #[x, .int .i64 used, .int .i64 worn, .bool bad] 40) (.cells #[.int .i64 size] 3)
  obtain ⟨z, hz⟩ : ∃ z, z = ps.any (longB size) := ⟨_, rfl⟩
  rw [← hz] at C ⊢
  obtain ⟨n, hn⟩ : ∃ n, n = ps.length := ⟨_, rfl⟩
  rw [← hn] at hv ⊢
  subst hv
  unfold blkV
  dsimp only
  clear hn hz HF
  have HC := Lib.hid C
  clear C
  unfold top at C2
  by_cases h : (n : Int) = pages
  · subst h
    rw [decide_eq_true rfl, Bool.true_and]
    cases h1 : withinB used 0 n with
    | false =>
      rw [h1] at C1
      have D1 := Lib.hid C1
      clear C1 C2 h1
      go_enter Try.func28, Try.ntmps28
      go_wp2_with (go_at_call 25; with_reducible refine (D1.out _).mono ?_; rintro e w' ⟨rfl, rfl⟩)
      go_ret
      exact ⟨rfl, HB⟩
    | true =>
      rw [h1] at C1
      have D1 := Lib.hid C1
      clear C1 h1
      unfold top
      cases h2 : withinB worn 0 1099511627776 with
      | false =>
        rw [h2] at C2
        have D2 := Lib.hid C2
        clear C2 h2
        go_enter Try.func28, Try.ntmps28
        go_wp2_with (go_at_call 25; (first | (with_reducible refine (D1.out _).mono ?_) | (with_reducible refine (D2.out _).mono ?_)); rintro e w' ⟨rfl, rfl⟩)
        go_ret
        exact ⟨rfl, HB⟩
      | true =>
        rw [h2] at C2
        have D2 := Lib.hid C2
        clear C2 h2
        go_enter Try.func28, Try.ntmps28
        go_wp2_with (first | (go_at_call 25; (first | (with_reducible refine (D1.out _).mono ?_) | (with_reducible refine (D2.out _).mono ?_)); rintro e w' ⟨rfl, rfl⟩) | (go_at_call 36; refine HC.out.mono ?_; rintro e w' ⟨rfl, hb⟩))
        go_ret
        exact ⟨rfl, HB.trans (hb.mono (by simp; omega))⟩
  · have hd : decide ((n : Int) = pages) = false := decide_eq_false h
    rw [hd, Bool.false_and, Bool.false_and, Bool.false_and]
    clear C1 C2 hd
    go_enter Try.func28, Try.ntmps28
    go_wp2
    go_ret
    exact ⟨rfl, HB⟩

set_option maxHeartbeats 1000000 in
theorem right1_any (b : Blk) (x : Value) (pages size : Int) (B : Nat) (w : World) (hR : RdP w x b.pages) (h0 : w.cell? ⟨B, 0, none⟩ = some (.int .i64 pages)) (h1 : w.cell? ⟨B, 1, none⟩ = some (.int .i64 size)) :
    Calls Try.prog 27 #[blkV x b, .pointer (some ⟨B, 0, none⟩)] w fun e w' => e = .returned (.bool (unfitB pages size b)) ∧ Below w.heap.size w w' := by
  have C := fits_any b x pages size (w.alloc (.cells #[x, .int .i64 b.used, .int .i64 b.worn, .bool b.bad] 40)) (hR.later ((Below.refl _ _).alloc (Nat.le_refl _) _))
  have HC := Lib.hid C
  have HB := (Below.refl w.heap.size w).alloc (Nat.le_refl _) (.cells #[x, .int .i64 b.used, .int .i64 b.worn, .bool b.bad] 40)
  have hlt := World.block_lt_of_cell? _ _ h0
  simp only at hlt
  unfold unfitB
  unfold blkV at HC ⊢
  clear C hR
  go_enter Try.func27, Try.ntmps27
  go_wp2_with (go_at_call 28; refine HC.out.mono ?_; rintro e w' ⟨rfl, hb⟩)
  go_ret
  exact ⟨rfl, HB.trans (hb.mono (by simp))⟩

def chipCells (c : Chp) (vb vf : Value) : Array Value := #[.int .i64 c.pages, .int .i64 c.size, vb, .int .i64 c.ops, .bool c.off, vf]

set_option maxHeartbeats 1000000 in
theorem right_any (c : Chp) (v : Value) (w : World) (hR : RdC w v c) :
    Calls Try.prog 12 #[v] w fun e w' => e = .returned (.bool (rightB c)) ∧ Below w.heap.size w w' := by
  obtain ⟨vb, vf, rfl, hK, hF⟩ := hR
  have HB := (Below.refl w.heap.size w).alloc (Nat.le_refl _) (.cells (chipCells c vb vf) 27)
  have C := hasK_any c.blocks vb 27 #[.pointer (some ⟨w.heap.size, 0, none⟩)] (unfitB c.pages c.size) (w.alloc (.cells (chipCells c vb vf) 27)) (hK.later HB)
    (enters_of Try.func27 (by kernel_rfl) rfl) (fun i r y W hr hy hB =>
      right1_any r y c.pages c.size _ W hy (keep_cell (World.cell?_alloc_at _ _ _ _ (by simp)) hB) (keep_cell (World.cell?_alloc_at _ _ _ _ (by simp)) hB))
  have C1 := shaped_any c.blocks.length c.pages c.size
  have C2 := within_any c.ops 0 top
  obtain ⟨a, cap, hvb, -, -⟩ : ∃ a cap, vb = .slice a c.blocks.length cap ∧ c.blocks.length ≤ cap ∧ cap ≤ maxLen := by obtain ⟨xs, -, h2⟩ := hK; exact h2.len
  obtain ⟨a', cap', hvf, -, -⟩ := RdRow.len hF
  have HR : Hid (rightB c = (shapedB c.blocks.length c.pages c.size && withinB c.ops 0 top && decide ((c.faults.length : Int) ≤ 64) && !c.blocks.any (unfitB c.pages c.size))) := rfl
  rw [HR.out]
  clear hK hF HR
  unfold chipCells at C HB
  unfold chipV
  obtain ⟨pages, size, blocks, ops, off, faults⟩ := c
  dsimp only at C C1 C2 HB hvb hvf ⊢
  obtain ⟨z, hz⟩ : ∃ z, z = blocks.any (unfitB pages size) := ⟨_, rfl⟩
  rw [← hz] at C ⊢
  obtain ⟨n, hn⟩ : ∃ n, n = blocks.length := ⟨_, rfl⟩
  obtain ⟨m, hm⟩ : ∃ m, m = faults.length := ⟨_, rfl⟩
  rw [← hn] at hvb C1 ⊢
  rw [← hm] at hvf ⊢
  subst hvb
  subst hvf
  clear hn hm hz
  have HC := Lib.hid C
  clear C
  unfold top at C2 ⊢
  cases h1 : shapedB n pages size with
  | false =>
    rw [h1] at C1
    have D1 := Lib.hid C1
    clear C1 C2 h1
    go_enter Try.func12, Try.ntmps12
    go_wp2_with (go_at_call 16; with_reducible refine (D1.out _).mono ?_; rintro e w' ⟨rfl, rfl⟩)
    go_ret
    exact ⟨rfl, HB⟩
  | true =>
    rw [h1] at C1
    have D1 := Lib.hid C1
    clear C1 h1
    cases h2 : withinB ops 0 1099511627776 with
    | false =>
      rw [h2] at C2
      have D2 := Lib.hid C2
      clear C2 h2
      go_enter Try.func12, Try.ntmps12
      go_wp2_with (first | (go_at_call 16; with_reducible refine (D1.out _).mono ?_; rintro e w' ⟨rfl, rfl⟩) | (go_at_call 25; with_reducible refine (D2.out _).mono ?_; rintro e w' ⟨rfl, rfl⟩))
      go_ret
      exact ⟨rfl, HB⟩
    | true =>
      rw [h2] at C2
      have D2 := Lib.hid C2
      clear C2 h2
      by_cases h3 : (m : Int) ≤ 64
      · rw [decide_eq_true h3]
        go_enter Try.func12, Try.ntmps12
        go_wp2_with (first | (go_at_call 16; with_reducible refine (D1.out _).mono ?_; rintro e w' ⟨rfl, rfl⟩) | (go_at_call 25; with_reducible refine (D2.out _).mono ?_; rintro e w' ⟨rfl, rfl⟩) | (go_at_call 26; refine HC.out.mono ?_; rintro e w' ⟨rfl, hb⟩))
        go_ret
        exact ⟨rfl, HB.trans (hb.mono (by simp))⟩
      · rw [decide_eq_false h3]
        go_enter Try.func12, Try.ntmps12
        go_wp2_with (first | (go_at_call 16; with_reducible refine (D1.out _).mono ?_; rintro e w' ⟨rfl, rfl⟩) | (go_at_call 25; with_reducible refine (D2.out _).mono ?_; rintro e w' ⟨rfl, rfl⟩))
        go_ret
        exact ⟨rfl, HB⟩

theorem chip_alloc {w : World} {v : Value} {c : Chp} {vb vf : Value} (h : RdC w v c) (hv : v = chipV c vb vf) (o : Obj) : RdC (w.alloc o) (chipV c vb vf) c := by
  rw [← hv]; exact h.later ((Below.refl _ _).alloc (Nat.le_refl _) _)
set_option maxHeartbeats 1000000 in
theorem hasBlock_any (c : Chp) (v : Value) (block : Int) (w : World) (hR : RdC w v c) :
    Calls Try.prog 23 #[v, .int .i64 block] w fun e w' => e = .returned (.bool (hasBlockB c block)) ∧ Below w.heap.size w w' := by
  obtain ⟨vb, vf, hv, hK, hF⟩ := id hR
  have HB := (Below.refl w.heap.size w).alloc (Nat.le_refl _) (.cells (chipCells c vb vf) 27)
  have C := right_any c (chipV c vb vf) (w.alloc (.cells (chipCells c vb vf) 27)) (chip_alloc hR hv _)
  have C2 := within_any block 0 ((c.blocks.length : Int) - 1)
  obtain ⟨a, cap, hvb, -, -⟩ : ∃ a cap, vb = .slice a c.blocks.length cap ∧ c.blocks.length ≤ cap ∧ cap ≤ maxLen := by obtain ⟨xs, -, h2⟩ := hK; exact h2.len
  have HR : Hid (hasBlockB c block = (rightB c && withinB block 0 ((c.blocks.length : Int) - 1))) := rfl
  rw [HR.out]
  subst hv
  clear hK hF HR hR
  cases h1 : rightB c with
  | false =>
    rw [h1] at C
    have HC := Lib.hid C
    clear C C2 h1 hvb
    unfold chipCells chipV at HC
    unfold chipV
    go_enter Try.func23, Try.ntmps23
    go_wp2_with (go_at_call 12; refine HC.out.mono ?_; rintro e w' ⟨rfl, hb⟩)
    go_ret
    exact ⟨rfl, HB.trans (hb.mono (by simp))⟩
  | true =>
    rw [h1] at C
    have HC := Lib.hid C
    obtain ⟨⟨g1, g2⟩, -⟩ := rightB_iff.1 h1
    have hsz : w.heap.size < (w.alloc (.cells (chipCells c vb vf) 27)).heap.size := by simp
    have hcb : ∀ W, Below (w.alloc (.cells (chipCells c vb vf) 27)).heap.size (w.alloc (.cells (chipCells c vb vf) 27)) W → W.cell? ⟨w.heap.size, 2, none⟩ = some vb := fun W hb => by
      rw [hb.cell (p := ⟨w.heap.size, 2, none⟩) hsz]; exact World.cell?_alloc_at _ _ _ _ rfl
    have HCB := Lib.hid hcb
    clear C h1 hcb
    unfold chipCells chipV at HC
    unfold chipV
    obtain ⟨n, hn⟩ : ∃ n, n = c.blocks.length := ⟨_, rfl⟩
    rw [← hn] at hvb C2 g1 g2 ⊢
    subst hvb
    clear hn
    have D2 := Lib.hid C2
    clear C2
    go_enter Try.func23, Try.ntmps23
    go_wp2_with (first | (go_at_call 12; refine HC.out.mono ?_; rintro e w' ⟨rfl, hb⟩; have hcell := HCB.out _ hb) | (go_at_call 25; with_reducible refine (D2.out _).mono ?_; rintro e w' ⟨rfl, rfl⟩))
    go_ret
    exact ⟨rfl, HB.trans (hb.mono (by simp))⟩

set_option maxHeartbeats 1000000 in
theorem hasPage_any (c : Chp) (v : Value) (block page : Int) (w : World) (hR : RdC w v c) :
    Calls Try.prog 21 #[v, .int .i64 block, .int .i64 page] w fun e w' => e = .returned (.bool (hasPageB c block page)) ∧ Below w.heap.size w w' := by
  obtain ⟨vb, vf, hv, hK, hF⟩ := id hR
  have HB := (Below.refl w.heap.size w).alloc (Nat.le_refl _) (.cells (chipCells c vb vf) 27)
  have C := hasBlock_any c (chipV c vb vf) block (w.alloc (.cells (chipCells c vb vf) 27)) (chip_alloc hR hv _)
  have C2 := within_any page 0 (c.pages - 1)
  have HR : Hid (hasPageB c block page = (hasBlockB c block && withinB page 0 (c.pages - 1))) := rfl
  rw [HR.out]
  subst hv
  clear hK hF HR hR
  cases h1 : hasBlockB c block with
  | false =>
    rw [h1] at C
    have HC := Lib.hid C
    clear C C2 h1
    unfold chipCells chipV at HC
    unfold chipV
    go_enter Try.func21, Try.ntmps21
    go_wp2_with (go_at_call 23; refine HC.out.mono ?_; rintro e w' ⟨rfl, hb⟩)
    go_ret
    exact ⟨rfl, HB.trans (hb.mono (by simp))⟩
  | true =>
    rw [h1] at C
    have HC := Lib.hid C
    obtain ⟨-, ⟨g1, g2⟩, -⟩ := rightB_iff.1 (hasBlockB_iff.1 h1).1
    have hsz : w.heap.size < (w.alloc (.cells (chipCells c vb vf) 27)).heap.size := by simp
    have hcb : ∀ W, Below (w.alloc (.cells (chipCells c vb vf) 27)).heap.size (w.alloc (.cells (chipCells c vb vf) 27)) W → W.cell? ⟨w.heap.size, 0, none⟩ = some (.int .i64 c.pages) := fun W hb => by
      rw [hb.cell (p := ⟨w.heap.size, 0, none⟩) hsz]; exact World.cell?_alloc_at _ _ _ _ rfl
    have HCB := Lib.hid hcb
    have D2 := Lib.hid C2
    clear C h1 hcb C2
    unfold chipCells chipV at HC
    unfold chipV
    go_enter Try.func21, Try.ntmps21
    go_wp2_with (first | (go_at_call 23; refine HC.out.mono ?_; rintro e w' ⟨rfl, hb⟩; have hcell := HCB.out _ hb) | (go_at_call 25; with_reducible refine (D2.out _).mono ?_; rintro e w' ⟨rfl, rfl⟩))
    go_ret
    exact ⟨rfl, HB.trans (hb.mono (by simp))⟩
end Go.Proofs.Ytilgppijmkcomaa.Chip
