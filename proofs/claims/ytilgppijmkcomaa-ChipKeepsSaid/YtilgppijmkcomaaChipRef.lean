/- The document's Blocks and Same of what reads alike: true. -/
import Derived.Test.YtilgppijmkcomaaChipNew
import Derived.BigQuiet
namespace Go.Proofs.Ytilgppijmkcomaa.Chip
open Go.RowKit Go.Sort Go.Shelf

theorem flt_self (f : Flt) (w : World) : (Op.equalIn 10000 56 (fltV f) (fltV f)).run Try.prog w = .ok true w := by
  have hs : Try.prog.stoodInHeld 56 = false := by kernel_rfl
  have hf : Try.prog.underlying 56 = some (.struct (Try.prog.fieldsOf 56)) := by unfold Program.fieldsOf; rw [Try.underlying56]
  unfold fltV
  rw [run_equalIn_struct w 9999 56 _ _ hf hs]
  unfold Program.fieldsOf
  rw [Try.underlying56]
  simp [Op.eqFields, part, isAgg, run_underlying Try.underlying3, run_underlying Try.underlying4, run_underlying Try.underlying5, Sem.run_bind, run_equalIn_int w 9998 3 .i64 .i64 _ _ Try.underlying3, run_equalIn_int w 9998 5 .u8 .u8 _ _ Try.underlying5, run_equalIn_bool w 9998 4 _ _ Try.underlying4]
def fltNeq (x y : Value) : Sem Value := binOp .neq 56 x y
theorem binOp_fltNeq (x y : Value) : binOp .neq 56 x y = fltNeq x y := rfl
theorem run_fltNeq (f : Flt) (w : World) : (fltNeq (fltV f) (fltV f)).run Try.prog w = .ok (.bool false) w := by
  unfold fltNeq
  have h := flt_self f w
  unfold fltV at h ⊢
  rw [run_neq_struct, h]; rfl
attribute [local go_sem ↓] text_bytes ne_text loadVar_blk loadVar_flt binOp_fltNeq
theorem RdP.len {w : World} {x : Value} {ps : List (List UInt8)} (h : RdP w x ps) : ∃ a cap, x = .slice a ps.length cap ∧ ps.length ≤ cap ∧ cap ≤ maxLen := by obtain ⟨xs, -, h2⟩ := h; exact h2.len
theorem RdK.len {w : World} {x : Value} {bs : List Blk} (h : RdK w x bs) : ∃ a cap, x = .slice a bs.length cap ∧ bs.length ≤ cap ∧ cap ≤ maxLen := by obtain ⟨xs, -, h2⟩ := h; exact h2.len
def blkCs (x : Value) (b : Blk) : Array Value := #[x, .int .i64 b.used, .int .i64 b.worn, .bool b.bad]
set_option maxHeartbeats 2000000 in
set_option maxRecDepth 100000 in
theorem blocks_yes (b : Blk) (x y : Value) (w : World) (hx : RdP w x b.pages) (hy : RdP w y b.pages) (hm16 : b.pages.length ≤ 65536) :
    Calls Try.prog 15 #[blkV x b, blkV y b] w fun e w' => e = .returned (.bool true) ∧ Below w.heap.size w w' := by
  obtain ⟨a, cap, hxv, -, -⟩ := hx.len
  obtain ⟨a', cap', hyv, -, -⟩ := hy.len
  have hb : Below w.heap.size w ((w.alloc (.cells (blkCs x b) 40)).alloc (.cells (blkCs y b) 40)) := below2 _ _ _
  obtain ⟨W, hW⟩ : ∃ W, W = (w.alloc (.cells (blkCs x b) 40)).alloc (.cells (blkCs y b) 40) := ⟨_, rfl⟩
  have c1 : W.cell? ⟨w.heap.size, 0, none⟩ = some x := by rw [hW, World.cell?_alloc_past _ _ _ (by simp)]; exact World.cell?_alloc_at _ _ _ _ rfl
  have c2 : W.cell? ⟨w.heap.size + 1, 0, none⟩ = some y := by rw [hW]; exact World.cell?_alloc_at _ _ _ _ (by simp)
  have hz : W.heap.size = w.heap.size + 2 := by rw [hW]; simp
  rw [← hW] at hb
  have HW := Lib.hid hW
  have HC1 : Hid (∀ V, Below W.heap.size W V → V.cell? ⟨w.heap.size, 0, none⟩ = some x) := fun V h => keep_cell c1 h
  have HC2 : Hid (∀ V, Below W.heap.size W V → V.cell? ⟨w.heap.size + 1, 0, none⟩ = some y) := fun V h => keep_cell c2 h
  have HX := Lib.hid (hx.later hb)
  have HY := Lib.hid (hy.later hb)
  have HB := Lib.hid hb
  have HZ := Lib.hid hz
  obtain ⟨m, hm⟩ : ∃ m, m = b.pages.length := ⟨_, rfl⟩
  rw [← hm] at hxv hyv hm16
  have HM := Lib.hid hm
  have hmI : (m : Int) ≤ 65536 := by omega
  subst hxv
  subst hyv
  unfold blkCs at HW
  unfold blkV
  clear hx hy hb hW hm c1 c2 hz
  go_enter Try.func15, Try.ntmps15
  go_wp2
  rw [← HW.out]
  go_loopw [5] (fun t wr => ∃ i : Nat, i ≤ m ∧ t = .int .i64 i ∧ Hid (Below W.heap.size W wr)) (fun t _ => m - (intOf t).toNat)
  case atStart => exact ⟨0, Nat.zero_le _, rfl, Below.refl _ _⟩
  case round =>
    obtain ⟨i, hi, rfl, HBR⟩ := hrel
    have c1 := HC1.out wr HBR.out
    have c2 := HC2.out wr HBR.out
    by_cases hlt : i < m
    · have hltI : (i : Int) < m := by omega
      have hi0 : (0 : Int) ≤ i := by omega
      obtain ⟨p, hp⟩ : ∃ p, b.pages[i]? = some p := ⟨b.pages[i]'(by rw [← HM.out]; exact hlt), List.getElem?_eq_getElem _⟩
      obtain ⟨bp, po, cp, u, hxa, cu, hu⟩ := at_pg (HX.out.later HBR.out) hp
      obtain ⟨bq, qo, cq, v, hya, cv, hv⟩ := at_pg (HY.out.later HBR.out) hp
      rw [← HM.out] at hxa hya
      simp only [Value.slice.injEq, true_and] at hxa hya
      obtain ⟨rfl, rfl⟩ := hxa
      obtain ⟨rfl, rfl⟩ := hya
      have k1 := fun (d : Nat) (os : Array Obj) => cell_regrown c1 d os
      have k2 := fun (d : Nat) (os : Array Obj) => cell_regrown c2 d os
      have k3 := fun (d : Nat) (os : Array Obj) => cell_regrown cu d os
      have k4 := fun (d : Nat) (os : Array Obj) => cell_regrown cv d os
      have t1 := fun (d : Nat) (os : Array Obj) => run_text (hu.later (below_regrown wr d os))
      have t2 := fun (d : Nat) (os : Array Obj) => run_text (hv.later (below_regrown wr d os))
      have t3 : ∀ V : World, (textNe (.string (bs p)) (.string (bs p))).run Try.prog V = .ok (.bool false) V := fun V => by
        have := run_textNe p p V
        rw [decide_eq_true rfl] at this; exact this
      clear hp hu hv cu cv
      go_wp2
      refine wp_region_quiet_below (by kernel_rfl) (by kernel_rfl) ?_
      repeat (go_big_quiet_step (fail))
      refine wpQuiet_nil fun w2 hw2 => ?_
      have hb2 : Below wr.heap.size wr w2 := by
        obtain ⟨p, rfl⟩ := hw2
        exact below_regrown wr p.d p.os
      have HB2 : Hid (Below W.heap.size W w2) := HBR.out.trans (hb2.mono HBR.out.size)
      clear hw2 k1 k2 k3 k4 t1 t2 t3 c1 c2 hb2
      go_wp2
      go_roundw
      case rel => exact ⟨i + 1, by omega, by go_num, HB2⟩
      case measure => simp [intOf]; omega
    · obtain rfl : i = m := by omega
      go_wp2
      go_ret
      exact ⟨rfl, HB.out.trans (HBR.out.mono HB.out.size)⟩

/-- A block that is there is loaded later, too. -/
theorem blk_keep {w V : World} {bs : List Blk} {n bb bo cb i : Nat} {x : Value} {b : Blk} (hK : RdK w (.slice (some ⟨bb, bo, none⟩) n cb) bs) (hi : bs[i]? = some b) (hc : w.cell? ⟨bb, bo + i * 4, none⟩ = some x) (hb : Below w.heap.size w V) : (blkLoad ⟨bb, bo + i * 4, none⟩).run Try.prog V = .ok (blkV x b) V := by
  obtain ⟨b1, o1, c1, x1, e, -, l1, cx, -⟩ := at_blk (hK.later hb) hi
  simp only [Value.slice.injEq, Option.some.injEq, Addr.mk.injEq, and_true] at e
  obtain ⟨⟨rfl, rfl⟩, -⟩ := e
  rw [keep_cell hc hb] at cx
  cases cx
  exact l1
theorem at_flt {w : World} {v : Value} {fs : List Flt} (h : RdF w v fs) {i : Nat} {f : Flt} (hi : fs[i]? = some f) : ∃ bf off cf, v = .slice (some ⟨bf, off, none⟩) fs.length cf ∧ (fltLoad ⟨bf, off + i * 4, none⟩).run Try.prog w = .ok (fltV f) w := by
  have hl := (List.getElem?_eq_some_iff.1 hi).1
  obtain ⟨r0, hr0⟩ : ∃ r, fs[0]? = some r := ⟨fs[0], List.getElem?_eq_getElem (by omega)⟩
  obtain ⟨b, o, cap, hv, -, -, hcs⟩ := RdRow.form h (x := .int .i64 r0.op) (by omega) (by have := flAll_at hr0 (j := 0) (by omega); simpa [flC] using this)
  exact ⟨b, o, cap, hv, run_fltLoad hcs hi⟩
set_option maxHeartbeats 4000000 in
set_option maxRecDepth 100000 in
theorem same_yes (c : Chp) (hs : Small c) (v u : Value) (w : World) (hv : RdC w v c) (hu : RdC w u c) :
    Calls Try.prog 10 #[v, u] w fun e w' => e = .returned (.bool true) ∧ Below w.heap.size w w' := by
  obtain ⟨xb, xf, rfl, hxK, hxF⟩ := hv
  obtain ⟨yb, yf, rfl, hyK, hyF⟩ := hu
  obtain ⟨a, cap, hxb, -, -⟩ := hxK.len
  obtain ⟨a', cap', hyb, -, -⟩ := hyK.len
  obtain ⟨f, fcap, hxf, -, -⟩ := RdRow.len hxF
  obtain ⟨f', fcap', hyf, -, -⟩ := RdRow.len hyF
  have hb : Below w.heap.size w ((w.alloc (.cells (chipCells c xb xf) 27)).alloc (.cells (chipCells c yb yf) 27)) := below2 _ _ _
  obtain ⟨W, hW⟩ : ∃ W, W = (w.alloc (.cells (chipCells c xb xf) 27)).alloc (.cells (chipCells c yb yf) 27) := ⟨_, rfl⟩
  have b1 : Box W w.heap.size (chipCells c xb xf) := by rw [hW]; exact (Box.new _ _).later ((Below.refl _ _).alloc (Nat.le_refl _) _)
  have b2 : Box W (w.heap.size + 1) (chipCells c yb yf) := by
    have := Box.new (w.alloc (.cells (chipCells c xb xf) 27)) (chipCells c yb yf)
    rw [hW]; simpa using this
  have hz : W.heap.size = w.heap.size + 2 := by rw [hW]; simp
  rw [← hW] at hb
  have HW := Lib.hid hW
  have HC : Hid (∀ V, Below W.heap.size W V → V.cell? ⟨w.heap.size, 5, none⟩ = some xf ∧ V.cell? ⟨w.heap.size, 2, none⟩ = some xb ∧ V.cell? ⟨w.heap.size + 1, 5, none⟩ = some yf ∧ V.cell? ⟨w.heap.size + 1, 2, none⟩ = some yb) := fun V h =>
    ⟨by rw [(b1.later h).cell]; rfl, by rw [(b1.later h).cell]; rfl, by rw [(b2.later h).cell]; rfl, by rw [(b2.later h).cell]; rfl⟩
  have HXK := Lib.hid (hxK.later hb)
  have HYK := Lib.hid (hyK.later hb)
  have HXF := Lib.hid (hxF.later hb)
  have HYF := Lib.hid (hyF.later hb)
  have HB := Lib.hid hb
  have HZ := Lib.hid hz
  have HSM := Lib.hid hs
  obtain ⟨n, hn⟩ : ∃ n, n = c.blocks.length := ⟨_, rfl⟩
  obtain ⟨q, hq⟩ : ∃ q, q = c.faults.length := ⟨_, rfl⟩
  rw [← hn] at hxb hyb
  rw [← hq] at hxf hyf
  have HN := Lib.hid hn
  have HQ := Lib.hid hq
  have hnI : (n : Int) ≤ 65536 := by have := hs.1; omega
  have hqI : (q : Int) ≤ 65536 := by have := hs.2.1; omega
  subst hxb hyb hxf hyf
  unfold chipCells at HW
  unfold chipV
  clear hxK hyK hxF hyF hb hW b1 b2 hz hs hn hq
  go_enter Try.func10, Try.ntmps10
  go_wp2
  rw [← HW.out]
  go_loopw [5] (fun t wr => ∃ i : Nat, i ≤ q ∧ t = .int .i64 i ∧ Hid (Below W.heap.size W wr)) (fun t _ => q - (intOf t).toNat)
  case atStart => exact ⟨0, Nat.zero_le _, rfl, Below.refl _ _⟩
  case round =>
    obtain ⟨i, hi, rfl, HBR⟩ := hrel
    obtain ⟨wo, hwo⟩ : ∃ wo, wo = wr := ⟨_, rfl⟩
    subst hwo
    obtain ⟨c1, c2, c3, c4⟩ := HC.out wo HBR.out
    by_cases hlt : i < q
    · have hltI : (i : Int) < q := by omega
      have hi0 : (0 : Int) ≤ i := by omega
      obtain ⟨p, hp⟩ : ∃ p, c.faults[i]? = some p := ⟨c.faults[i]'(by rw [← HQ.out]; exact hlt), List.getElem?_eq_getElem _⟩
      obtain ⟨bp, po, cp, hxa, -⟩ := at_flt (HXF.out.later HBR.out) hp
      obtain ⟨bq, qo, cq, hya, -⟩ := at_flt (HYF.out.later HBR.out) hp
      rw [← HQ.out] at hxa hya
      simp only [Value.slice.injEq, true_and] at hxa hya
      obtain ⟨rfl, rfl⟩ := hxa
      obtain ⟨rfl, rfl⟩ := hya
      have k1 := fun (d : Nat) (os : Array Obj) => cell_regrown c1 d os
      have k2 := fun (d : Nat) (os : Array Obj) => cell_regrown c3 d os
      have t1 : ∀ (d : Nat) (os : Array Obj), (fltLoad ⟨bp, po + i * 4, none⟩).run Try.prog (grow (redrawn wo d) os) = .ok (fltV p) (grow (redrawn wo d) os) := fun d os => by
        obtain ⟨b1, o1, c1, e1, e2⟩ := at_flt (HXF.out.later (HBR.out.trans ((below_regrown wo d os).mono HBR.out.size))) hp
        simp only [Value.slice.injEq, Option.some.injEq, Addr.mk.injEq, and_true] at e1
        obtain ⟨⟨rfl, rfl⟩, -⟩ := e1
        exact e2
      have t2 : ∀ (d : Nat) (os : Array Obj), (fltLoad ⟨bq, qo + i * 4, none⟩).run Try.prog (grow (redrawn wo d) os) = .ok (fltV p) (grow (redrawn wo d) os) := fun d os => by
        obtain ⟨b1, o1, c1, e1, e2⟩ := at_flt (HYF.out.later (HBR.out.trans ((below_regrown wo d os).mono HBR.out.size))) hp
        simp only [Value.slice.injEq, Option.some.injEq, Addr.mk.injEq, and_true] at e1
        obtain ⟨⟨rfl, rfl⟩, -⟩ := e1
        exact e2
      have t3 := run_fltNeq p
      unfold fltV at t1 t2 t3
      clear hp
      go_wp2
      refine wp_region_quiet_below (by kernel_rfl) (by kernel_rfl) ?_
      repeat (go_big_quiet_step (fail))
      refine wpQuiet_nil fun w2 hw2 => ?_
      have hb2 : Below wo.heap.size wo w2 := by
        obtain ⟨p, rfl⟩ := hw2
        exact below_regrown wo p.d p.os
      have HB2 : Hid (Below W.heap.size W w2) := HBR.out.trans (hb2.mono HBR.out.size)
      clear hw2 k1 k2 t1 t2 t3 c1 c2 c3 c4 hb2
      go_wp2
      go_roundw
      case rel => exact ⟨i + 1, by omega, by go_num, HB2⟩
      case measure => simp [intOf]; omega
    · obtain rfl : i = q := by omega
      go_wp2
      clear c1 c2 c3 c4
      go_loopw [6] (fun t wr => ∃ j : Nat, j ≤ n ∧ t = .int .i64 j ∧ Hid (Below W.heap.size W wr)) (fun t _ => n - (intOf t).toNat)
      case atStart => exact ⟨0, Nat.zero_le _, rfl, HBR⟩
      case round =>
        obtain ⟨j, hj, rfl, HBI⟩ := hrel
        obtain ⟨c1, c2, c3, c4⟩ := HC.out wr HBI.out
        by_cases hlt2 : j < n
        · have hlt2I : (j : Int) < n := by omega
          have hj0 : (0 : Int) ≤ j := by omega
          obtain ⟨b, hb⟩ : ∃ b, c.blocks[j]? = some b := ⟨c.blocks[j]'(by rw [← HN.out]; exact hlt2), List.getElem?_eq_getElem _⟩
          have hbl := (HSM.out.2.2 b (List.mem_of_getElem? hb)).1
          obtain ⟨bx, ox, cx, x, hxa, hxp, -, lx, -⟩ := at_blk (HXK.out.later HBI.out) hb
          obtain ⟨bY, oy, cy, y, hya, hyp, -, ly, -⟩ := at_blk (HYK.out.later HBI.out) hb
          rw [← HN.out] at hxa hya
          simp only [Value.slice.injEq, true_and] at hxa hya
          obtain ⟨rfl, rfl⟩ := hxa
          obtain ⟨rfl, rfl⟩ := hya
          have k1 := fun (d : Nat) (os : Array Obj) => cell_regrown c2 d os
          have k2 := fun (d : Nat) (os : Array Obj) => cell_regrown c4 d os
          have t1 : ∀ (d : Nat) (os : Array Obj), (blkLoad ⟨bx, ox + j * 4, none⟩).run Try.prog (grow (redrawn wr d) os) = .ok (blkV x b) (grow (redrawn wr d) os) := fun d os => blk_keep (HXK.out.later HBI.out) hb lx (below_regrown wr d os)
          have t2 : ∀ (d : Nat) (os : Array Obj), (blkLoad ⟨bY, oy + j * 4, none⟩).run Try.prog (grow (redrawn wr d) os) = .ok (blkV y b) (grow (redrawn wr d) os) := fun d os => blk_keep (HYK.out.later HBI.out) hb ly (below_regrown wr d os)
          have C := fun (d : Nat) (os : Array Obj) => Calls.regrown_of (blocks_yes b x y (grow (redrawn wr d) os) (hxp.later (below_regrown wr d os)) (hyp.later (below_regrown wr d os)) hbl)
          unfold blkV at t1 t2 C
          clear hb hxp hyp lx ly hbl
          go_wp2
          refine wp_region_quiet_below (by kernel_rfl) (by kernel_rfl) ?_
          repeat (go_big_quiet_step (exact C _ _))
          refine wpQuiet_nil fun w2 hw2 => ?_
          have hb2 : Below wr.heap.size wr w2 := by
            obtain ⟨p, rfl⟩ := hw2
            exact below_regrown wr p.d p.os
          have HB2 : Hid (Below W.heap.size W w2) := HBI.out.trans (hb2.mono HBI.out.size)
          clear hw2 k1 k2 t1 t2 C c1 c2 c3 c4 hb2
          go_wp2
          go_roundw
          case rel => exact ⟨j + 1, by omega, by go_num, HB2⟩
          case measure => simp [intOf]; omega
        · obtain rfl : j = n := by omega
          go_wp2
          go_ret
          exact ⟨rfl, HB.out.trans (HBI.out.mono HB.out.size)⟩
end Go.Proofs.Ytilgppijmkcomaa.Chip
