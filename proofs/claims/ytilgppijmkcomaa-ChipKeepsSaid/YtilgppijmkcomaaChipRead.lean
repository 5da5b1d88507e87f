/- chip.Read: what it hands back. -/
import Derived.Test.YtilgppijmkcomaaChipOper
namespace Go.Proofs.Ytilgppijmkcomaa.Chip
open Go.RowKit Go.Sort Go.Shelf
attribute [local go_sem ↓] loadVar_chip storeVar_chip

/-- Where a block's cells are. -/
theorem at_blk {w : World} {vb : Value} {bs : List Blk} (hK : RdK w vb bs) {i : Nat} {b : Blk} (hi : bs[i]? = some b) : ∃ bb bo cb x, vb = .slice (some ⟨bb, bo, none⟩) bs.length cb ∧ RdP w x b.pages ∧ (blkLoad ⟨bb, bo + i * 4, none⟩).run Try.prog w = .ok (blkV x b) w ∧
    w.cell? ⟨bb, bo + i * 4, none⟩ = some x ∧ w.cell? ⟨bb, bo + i * 4 + 1, none⟩ = some (.int .i64 b.used) ∧ w.cell? ⟨bb, bo + i * 4 + 2, none⟩ = some (.int .i64 b.worn) ∧ w.cell? ⟨bb, bo + i * 4 + 3, none⟩ = some (.bool b.bad) := by
  obtain ⟨xs, hf, hrow⟩ := hK
  obtain ⟨x, hx, hp⟩ := f2_left hf hi
  have hl := (List.getElem?_eq_some_iff.1 hi).1
  obtain ⟨r0, hr0⟩ : ∃ r, bs[0]? = some r := ⟨bs[0], List.getElem?_eq_getElem (by omega)⟩
  obtain ⟨x0, hx0, -⟩ := f2_left hf hr0
  obtain ⟨bb, bo, cb, hv, -, -, hc⟩ := RdRow.form hrow (x := x0) (by omega) (by have := bkAll_at hx0 hr0 (j := 0) (by omega); simpa [bkC] using this)
  refine ⟨bb, bo, cb, x, hv, hp, run_blkLoad hc hx hi, ?_, ?_, ?_, ?_⟩
  · exact hc (i * 4) x (by have := bkAll_at hx hi (j := 0) (by omega); simpa [bkC] using this)
  · rw [Nat.add_assoc]; exact hc (i * 4 + 1) _ (by rw [bkAll_at hx hi (by omega)]; rfl)
  · rw [Nat.add_assoc]; exact hc (i * 4 + 2) _ (by rw [bkAll_at hx hi (by omega)]; rfl)
  · rw [Nat.add_assoc]; exact hc (i * 4 + 3) _ (by rw [bkAll_at hx hi (by omega)]; rfl)
/-- Where a page's value is. -/
theorem at_pg {w : World} {x : Value} {ps : List (List UInt8)} (hP : RdP w x ps) {k : Nat} {p : List UInt8} (hk : ps[k]? = some p) : ∃ bp po cp y, x = .slice (some ⟨bp, po, none⟩) ps.length cp ∧ w.cell? ⟨bp, po + k, none⟩ = some y ∧ RdB w y p := by
  obtain ⟨us, hf, hrow⟩ := hP
  obtain ⟨y, hy, hp⟩ := f2_left hf hk
  have hl := (List.getElem?_eq_some_iff.1 hk).1
  obtain ⟨r0, hr0⟩ : ∃ r, ps[0]? = some r := ⟨ps[0], List.getElem?_eq_getElem (by omega)⟩
  obtain ⟨x0, hx0, -⟩ := f2_left hf hr0
  obtain ⟨bb, bo, cb, hv, -, -, hc⟩ := RdRow.form hrow (x := x0) (by omega) hx0
  exact ⟨bb, bo, cb, y, hv, hc k y hy, hp⟩
theorem asked_cases (off may : Bool) : (askedN off may = 0 ∧ may = true ∧ off = false) ∨ (askedN off may ≠ 0) := by
  cases may <;> cases off <;> simp [askedN]
theorem nat_of {n : Int} {m : Nat} (h0 : 0 ≤ n) (h1 : n < m) : ∃ i : Nat, n = i ∧ i < m ∧ n.toNat = i := ⟨n.toNat, by omega, by omega, rfl⟩
/-- A page that is there. -/
theorem page_there {c : Chp} {block page : Int} (h : hasPageB c block page = true) : ∃ (i k : Nat) (b : Blk) (p : List UInt8), block = i ∧ page = k ∧ i < c.blocks.length ∧ k < b.pages.length ∧ c.blocks[i]? = some b ∧ b.pages[k]? = some p ∧ blkAt c block.toNat = b ∧ pageAt b page.toNat = p ∧ fitsB b c.pages c.size = true ∧ rightB c = true := by
  obtain ⟨h1, ⟨h2, h3⟩, h4, h5⟩ := hasPageB_iff.1 h
  obtain ⟨i, hi, hil, hit⟩ := nat_of h2 h3
  have hb := blkAt_get hil
  have hf := (rightB_iff.1 h1).2.2.2.2.2 _ (List.mem_of_getElem? hb)
  obtain ⟨g1, -, -, g4⟩ := fitsB_iff.1 hf
  obtain ⟨k, hk, hkl, hkt⟩ := nat_of h4 (show page < (blkAt c i).pages.length by omega)
  exact ⟨i, k, _, _, hi, hk, hil, hkl, hb, pageAt_get hkl, by rw [hit], by rw [hkt], hf, h1⟩
def ReadPost (w : World) (c : Chp) (block page : Int) (e : Ending) (w' : World) : Prop := ∃ v', e = .returned (.tuple #[v', .int .i64 (readE c block page)]) ∧ OwnB w' w.heap.size v' (readB c block page) ∧ Below w.heap.size w w'

set_option maxHeartbeats 2000000 in
set_option maxRecDepth 100000 in
theorem read_any (c : Chp) (hs : Small c) (v : Value) (block page : Int) (w : World) (hR : RdC w v c) :
    Calls Try.prog 11 #[v, .int .i64 block, .int .i64 page] w (ReadPost w c block page) := by
  obtain ⟨vb, vf, hv, hK, hF⟩ := id hR
  subst hv
  have HB0 : Hid (Below w.heap.size w (w.alloc (.cells (chipCells c vb vf) 27))) := (Below.refl _ _).alloc (Nat.le_refl _) _
  have hBx := Box.new w (chipCells c vb vf)
  have hRW : RdC (w.alloc (.cells (chipCells c vb vf) 27)) (chipV c vb vf) c := hR.later HB0.out
  have hKW := hK.later HB0.out
  have hsz : (w.alloc (.cells (chipCells c vb vf) 27)).heap.size = w.heap.size + 1 := by simp
  have hRE : Hid (readE c block page = askedN c.off (hasPageB c block page)) := rfl
  have hRB : Hid (readB c block page = if askedN c.off (hasPageB c block page) ≠ 0 then [] else pageAt (blkAt c block.toNat) page.toNat) := rfl
  obtain ⟨z, hz⟩ : ∃ z, z = askedN c.off (hasPageB c block page) := ⟨_, rfl⟩
  unfold ReadPost
  rw [hRE.out, hRB.out, ← hz]
  obtain ⟨W, hW⟩ : ∃ W, W = w.alloc (.cells (chipCells c vb vf) 27) := ⟨_, rfl⟩
  have HW := Lib.hid hW
  rw [← hW] at hBx hRW hKW HB0 hsz
  unfold chipCells at HW
  have L : ∀ (d : Nat) (os : Array Obj), (chipLoad ⟨w.heap.size, 0, none⟩).run Try.prog (grow (redrawn W d) os) = .ok (chipV c vb vf) (grow (redrawn W d) os) := fun d os => (hBx.later (below_regrown W d os)).load rfl
  have C1 := fun (d : Nat) (os : Array Obj) => Calls.regrown_of (hasPage_any c (chipV c vb vf) block page (grow (redrawn W d) os) (hRW.later (below_regrown W d os)))
  have C2 := fun (d : Nat) (os : Array Obj) => Calls.regrown_of (asked_any c vb vf (hasPageB c block page) (grow (redrawn W d) os))
  have q1 : W.cell? ⟨w.heap.size, 2, none⟩ = some vb := by rw [hBx.cell]; rfl
  have HQ := Lib.hid q1
  have HKW := Lib.hid hKW
  have HZ := Lib.hid hsz
  rw [← hz] at C2
  have HZ2 := Lib.hid hz
  have HC1 : Hid (∀ d os, _) := C1
  have HC2 : Hid (∀ d os, _) := C2
  have HL : Hid (∀ d os, _) := L
  clear hRW hBx hKW hK hF hW q1 hR C1 C2 L hsz hz
  unfold chipV at *
  go_enter Try.func11, Try.ntmps11
  go_wp2
  rw [← HW.out]
  have L := HL.out
  have C1 := HC1.out
  have C2 := HC2.out
  refine wp_region_quiet_below (by kernel_rfl) (by kernel_rfl) ?_
  repeat (go_big_quiet_step (first | exact C1 _ _ | exact C2 _ _))
  refine wpQuiet_nil fun w1 hw1 => ?_
  have hb1 : Below W.heap.size W w1 := by
    obtain ⟨p, rfl⟩ := hw1
    exact below_regrown W p.d p.os
  clear hw1 L C1 C2
  rcases asked_cases c.off (hasPageB c block page) with ⟨h0, hmay, hoff⟩ | h0
  · rw [← HZ2.out] at h0
    subst h0
    obtain ⟨i, k, b, p, rfl, rfl, hil, hkl, hb, hp, e1, e2, hfit, hright⟩ := page_there hmay
    obtain ⟨bb, bo, cb, x, hvb, hx, -, cx, -, -, -⟩ := at_blk (HKW.out.later hb1) hb
    obtain ⟨bp, po, cp, y, hvx, cy, hy⟩ := at_pg hx hp
    obtain ⟨ay, cy', hvy, -, -⟩ := hy.len
    have hpl : p.length ≤ 65536 := (hs.2.2 b (List.mem_of_getElem? hb)).2 p (List.mem_of_getElem? hp)
    have HC := Lib.hid (cloneY_any p.length (cellsB p) (by rw [cellsB_length, Nat.mul_one]) (fun u hu => cellsB_one p u hu) hpl y w1 hy)
    unfold RowPost at HC
    have q1 := keep_cell HQ.out hb1
    have HB1 : Hid (Below w.heap.size w w1) := HB0.out.trans (hb1.mono (by have := HZ.out; omega))
    obtain ⟨n, hn⟩ : ∃ n, n = c.blocks.length := ⟨_, rfl⟩
    obtain ⟨m, hm⟩ : ∃ m, m = b.pages.length := ⟨_, rfl⟩
    rw [← hn] at hvb hil
    rw [← hm] at hvx hkl
    have hilI : (i : Int) < n := by omega
    have hklI : (k : Int) < m := by omega
    have hi0 : (0 : Int) ≤ i := by omega
    have hk0 : (0 : Int) ≤ k := by omega
    subst hvb hvx hvy
    have E1 := Lib.hid e1
    have E2 := Lib.hid e2
    clear hmay hoff hb hp e1 e2 hfit hright hx hy hn hm hb1
    go_wp2_with (go_at_call 24; refine HC.out.mono ?_; rintro e w2 ⟨v2, rfl, ho, hb2⟩)
    go_ret2
    refine ⟨_, rfl, ?_, HB1.out.trans (hb2.mono HB1.out.size)⟩
    show OwnB w2 w.heap.size v2 (pageAt (blkAt c i) k)
    rw [show blkAt c i = b from E1.out, show pageAt b k = p from E2.out]
    exact own_mono ho HB1.out.size
  · rw [← HZ2.out] at h0
    have q : (z != 0) = true := by simp [h0]
    have H0 := Lib.hid h0
    have HB1 : Hid (Below w.heap.size w w1) := HB0.out.trans (hb1.mono (by have := HZ.out; omega))
    clear h0 hb1
    go_wp2
    go_ret2
    refine ⟨_, rfl, ?_, HB1.out⟩
    exact OwnB.nil _ _
end Go.Proofs.Ytilgppijmkcomaa.Chip
