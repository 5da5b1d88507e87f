/- chip.Erase: what it hands back. -/
import Derived.Test.YtilgppijmkcomaaChipProg
namespace Go.Proofs.Ytilgppijmkcomaa.Chip
open Go.RowKit Go.Sort Go.Shelf
attribute [local go_sem ↓] loadVar_chip storeVar_chip

theorem or_val2 (y mk : UInt8) : bits .or .u8 (y.toNat : Int) (mk.toNat : Int) = (((y ||| mk).toNat : Nat) : Int) := by
  rw [u8_or_nat y.toNat mk.toNat y.toNat_lt mk.toNat_lt, UInt8.toNat_or]
/-- A block of which so many pages are erased. -/
def wiped (b : Blk) (mk : UInt8) (q : Nat) : Blk := { b with pages := (b.pages.take q).map (eraseBytes mk) ++ b.pages.drop q }
def wiped2 (b : Blk) (mk : UInt8) (q : Nat) (l : List UInt8) (j : Nat) : Blk := (wiped b mk q).setPage q ((eraseBytes mk l).take j ++ l.drop j)
theorem wiped_at {b : Blk} {mk : UInt8} {q : Nat} {l : List UInt8} (h : b.pages[q]? = some l) : (wiped b mk q).pages[q]? = some l := by
  have hq := (List.getElem?_eq_some_iff.1 h).1
  show ((b.pages.take q).map (eraseBytes mk) ++ b.pages.drop q)[q]? = _
  rw [List.getElem?_append_right (by simp; omega), List.getElem?_drop, List.length_map, List.length_take, Nat.min_eq_left (by omega), Nat.sub_self, Nat.add_zero]
  exact h
theorem wiped_len (b : Blk) (mk : UInt8) (q : Nat) : (wiped b mk q).pages.length = b.pages.length := by
  show ((b.pages.take q).map (eraseBytes mk) ++ b.pages.drop q).length = _
  rw [List.length_append, List.length_map, List.length_take, List.length_drop]; omega
theorem wiped2_at {b : Blk} {mk : UInt8} {q : Nat} {l : List UInt8} (h : b.pages[q]? = some l) (j : Nat) : (wiped2 b mk q l j).pages[q]? = some ((eraseBytes mk l).take j ++ l.drop j) := by
  have hq := (List.getElem?_eq_some_iff.1 h).1
  have h2 := wiped_len b mk q
  show ((wiped b mk q).pages.set q _)[q]? = _
  rw [List.getElem?_set, if_pos rfl, if_pos (by omega)]
theorem wiped2_zero {b : Blk} {mk : UInt8} {q : Nat} {l : List UInt8} (h : b.pages[q]? = some l) : wiped2 b mk q l 0 = wiped b mk q := by
  unfold wiped2 Blk.setPage
  rw [List.take_zero, List.drop_zero, List.nil_append, set_same (wiped_at h)]
theorem wiped2_done {b : Blk} {mk : UInt8} {q n : Nat} {l : List UInt8} (h : b.pages[q]? = some l) (hn : l.length = n) : wiped2 b mk q l n = wiped b mk (q + 1) := by
  have hq := (List.getElem?_eq_some_iff.1 h).1
  unfold wiped2 Blk.setPage
  rw [List.take_of_length_le (by unfold eraseBytes; rw [List.length_map, hn]; exact Nat.le_refl _), List.drop_of_length_le (by omega), List.append_nil]
  unfold wiped
  simp only
  rw [set_mid (by rw [List.length_map, List.length_take]; omega) hq, List.take_add_one, h, Option.toList_some, List.map_append]
  rfl
theorem wiped_all (b : Blk) (mk : UInt8) {m : Nat} (h : b.pages.length = m) : wiped b mk m = { b with pages := b.pages.map (eraseBytes mk) } := by
  unfold wiped
  rw [List.take_of_length_le (by omega), List.drop_of_length_le (by omega), List.append_nil]
theorem wiped2_next {b : Blk} {mk : UInt8} {q j : Nat} {l : List UInt8} {y : UInt8} (hy : ((eraseBytes mk l).take j ++ l.drop j)[j]? = some y) (hj : j < l.length) : (wiped2 b mk q l j).setPage q (((eraseBytes mk l).take j ++ l.drop j).set j (y ||| mk)) = wiped2 b mk q l (j + 1) := by
  have hlen : ((eraseBytes mk l).take j).length = j := by unfold eraseBytes; rw [List.length_take, List.length_map]; omega
  have hyl : l[j]? = some y := by
    rw [List.getElem?_append_right (by omega), hlen, Nat.sub_self, List.getElem?_drop, Nat.add_zero] at hy; exact hy
  rw [set_mid hlen hj]
  unfold wiped2 Blk.setPage
  simp only
  rw [List.set_set]
  have : (eraseBytes mk l).take (j + 1) = (eraseBytes mk l).take j ++ [y ||| mk] := by
    rw [List.take_add_one]; unfold eraseBytes; rw [List.getElem?_map, hyl]; rfl
  rw [this]

set_option maxHeartbeats 8000000 in
set_option maxRecDepth 100000 in
theorem erase_any (c : Chp) (hs : Small c) (v : Value) (block : Int) (w : World) (hR : RdC w v c) :
    Calls Try.prog 9 #[v, .int .i64 block] w (ChipPost w (eraseC c block) (eraseE c block)) := by
  obtain ⟨va, vfa, hv, hK, hF⟩ := id hR
  subst hv
  have h0 := Cp.start w (chipCells c va vfa)
  have hR0 : RdC ((w.alloc (.cells (chipCells c va vfa) 27)).alloc (.cells zc 27)) (chipV c va vfa) c := hR.later (below2 _ _ _)
  have L0 := h0.box.load rfl
  have C0 := copied_any c hs (chipV c va vfa) _ hR0
  obtain ⟨W0, hW0⟩ : ∃ W0, W0 = (w.alloc (.cells (chipCells c va vfa) 27)).alloc (.cells zc 27) := ⟨_, rfl⟩
  have HW0 := Lib.hid hW0
  have hz0 : W0.heap.size = w.heap.size + 2 := by rw [hW0]; simp
  rw [← hW0] at h0 hR0 C0
  have HC0 := Lib.hid C0
  have H0 := Lib.hid h0
  have HR0 := Lib.hid hR0
  have HZ0 := Lib.hid hz0
  have HSM := Lib.hid hs
  obtain ⟨z, hz⟩ : ∃ z, z = askedN c.off (mayErase c block) := ⟨_, rfl⟩
  have HZ := Lib.hid hz
  have HCHB : Hid (z ≠ 0 → eraseC c block = c) := fun h => by unfold eraseC; rw [if_pos (by rw [← hz]; exact h)]
  have HERB : Hid (z ≠ 0 → eraseE c block = z) := fun h => by unfold eraseE; rw [if_pos (by rw [← hz]; exact h), hz]
  have HWORN : Hid (z = 0 ∧ (blkAt c block.toNat).bad = true → eraseC c block = c ∧ eraseE c block = 9) := fun ⟨h, h2⟩ => by
    unfold eraseC eraseE
    rw [← hz, if_neg (by simp [h]), if_pos h2, if_neg (by simp [h]), if_pos h2]
    exact ⟨rfl, rfl⟩
  have HDONE : Hid (z = 0 ∧ (blkAt c block.toNat).bad = false → eraseC c block = c.counted.setBlk block.toNat (eraseBlk (blkAt c block.toNat) c.pages (errOf (strikes c)) (maskOf (strikes c))) ∧ eraseE c block = errOf (strikes c)) := fun ⟨h, h2⟩ => by
    unfold eraseC eraseE
    rw [← hz, if_neg (by simp [h]), if_neg (by simp [h2]), if_neg (by simp [h]), if_neg (by simp [h2])]
    exact ⟨rfl, rfl⟩
  have HMP : Hid (mayErase c block = (hasBlockB c block && decide (c.ops < top) && decide ((blkAt c block.toNat).worn < top))) := rfl
  obtain ⟨X, hX⟩ : ∃ X, X = eraseC c block := ⟨_, rfl⟩
  obtain ⟨er, her⟩ : ∃ er, er = eraseE c block := ⟨_, rfl⟩
  rw [← hX] at HCHB HWORN HDONE ⊢
  rw [← her] at HERB HWORN HDONE ⊢
  clear hX her hz
  unfold chipCells zc at HW0 L0
  unfold CopyPost at HC0
  clear hK hF hR hR0 h0 C0 hW0 hz0 hs
  unfold chipV at HC0 ⊢
  go_enter Try.func9, Try.ntmps9
  go_wp2_with fail
  rw [← HW0.out]
  refine HC0.out.mono ?_
  rintro e w1 ⟨vb, vf, T, rfl, hok, hof, hb⟩
  have hmd := Md.start (H0.out.later hb) (by rw [← HZ0.out]; exact hok) (by rw [← HZ0.out]; exact hof)
  have st := store_new (ds := chipCells c vb vf) rfl (one6 c (own_one hok.row) (own_one hof)) w1 zc rfl
  obtain ⟨B, hBs⟩ : ∃ B, B = w1.heap.size := ⟨_, rfl⟩
  rw [← hBs] at hmd st
  obtain ⟨W, hW⟩ : ∃ W, W = w1.alloc (.cells (chipCells c vb vf) 27) := ⟨_, rfl⟩
  rw [← hW] at hmd st
  have HM := Lib.hid hmd
  have HBS := Lib.hid hBs
  have HRW : Hid (RdC W (chipV c va vfa) c) := HR0.out.later (hb.trans (by rw [hW]; exact (Below.refl _ _).alloc hb.size _))
  unfold chipCells zc at st
  clear L0 hok hof hb hmd hW
  rw [hBs] at st
  clear hBs
  go_wp2
  clear st
  have hzn : Hid (∀ b, mayErase c block = b → z = askedN c.off b) := fun b h => by rw [HZ.out, h]
  cases hp : hasBlockB c block with
  | false =>
    have hmay : mayErase c block = false := by rw [HMP.out, hp]; rfl
    obtain rfl : z = 1 := hzn.out _ hmay
    have hz1 : (1 : Int) = askedN c.off false := rfl
    clear hmay
    have L := regB HM.out.arg rfl
    unfold chipCells at L
    have k3 := fun (d : Nat) (os : Array Obj) => cell_regrown (show W.cell? ⟨w.heap.size, 3, none⟩ = some (.int .i64 c.ops) by rw [HM.out.arg.cell]; rfl) d os
    have k2 := fun (d : Nat) (os : Array Obj) => cell_regrown (show W.cell? ⟨w.heap.size, 2, none⟩ = some (va) by rw [HM.out.arg.cell]; rfl) d os
    have C1 := fun (d : Nat) (os : Array Obj) => Calls.regrown_of (hasBlock_any c (chipV c va vfa) block (grow (redrawn W d) os) (HRW.out.later (below_regrown W d os)))
    have C2 := fun (d : Nat) (os : Array Obj) => Calls.regrown_of (asked_any c va vfa false (grow (redrawn W d) os))
    rw [hp] at C1
    rw [show askedN c.off false = 1 from hz1.symm] at C2
    clear hp
    unfold chipV at C1 C2
    refine wp_region_quiet_below (by kernel_rfl) (by kernel_rfl) ?_
    repeat (go_big_quiet_step (first | exact C1 _ _ | exact C2 _ _))
    refine wpQuiet_nil fun w2 hw2 => ?_
    have hb2 : Below W.heap.size W w2 := by
      obtain ⟨p, rfl⟩ := hw2
      exact below_regrown W p.d p.os
    clear hw2 L C1 C2 k3 k2
    have HCH : Hid (X = c) := by show _ = _; exact HCHB.out (by decide)
    have HER : Hid (er = 1) := by show _ = _; exact HERB.out (by decide)
    have hm2 := HM.out.later hb2
    obtain ⟨st1, st2⟩ := hm2.fin
    have ld1 := hm2.box.load rfl
    have HFIN := Lib.hid st2
    unfold chipCells at st1 ld1
    rw [← HBS.out]
    clear st2 hm2 hb2
    go_wp2
    refine bodyPost_ret (v := .tuple #[.agg (chipCells c vb vf), .int .i64 1]) (out2 rfl HFIN.out.1 rfl _ rfl rfl) rfl ?_
    exact ⟨_, by rw [HER.out], by rw [HCH.out]; exact HFIN.out.2.1, HFIN.out.2.2⟩
  | true =>
    obtain ⟨hright, hb0, hbl⟩ := hasBlockB_iff.1 hp
    obtain ⟨i, rfl, hil, hit⟩ := nat_of hb0 hbl
    have hbi := blkAt_get hil
    obtain ⟨b, hbb⟩ : ∃ b, b = blkAt c i := ⟨_, rfl⟩
    rw [← hbb] at hbi
    have E1 : Hid (blkAt c i = b) := hbb.symm
    have HRI := Lib.hid hright
    have HB := Lib.hid hbi
    have HFIT := Lib.hid ((rightB_iff.1 hright).2.2.2.2.2 b (List.mem_of_getElem? hbi))
    obtain ⟨bb, bo, cb, xx, hva, -, -, -, -, hwc, -⟩ : ∃ bb bo cb x, va = .slice (some ⟨bb, bo, none⟩) c.blocks.length cb ∧ True ∧ True ∧ True ∧ True ∧ W.cell? ⟨bb, bo + i * 4 + 2, none⟩ = some (.int .i64 b.worn) ∧ x = va := by
      obtain ⟨va', vf', e, hk, -⟩ := HRW.out
      simp only [chipV, Value.agg.injEq, Array.mk.injEq, List.cons.injEq, and_true, true_and] at e
      obtain ⟨rfl, -⟩ := e
      obtain ⟨bb, bo, cb, x, h1, -, -, -, -, h2, -⟩ := at_blk hk hbi
      exact ⟨bb, bo, cb, va, h1, trivial, trivial, trivial, trivial, h2, rfl⟩
    have HWC := Lib.hid hwc
    obtain ⟨N, hN⟩ : ∃ N, N = c.blocks.length := ⟨_, rfl⟩
    have HNN := Lib.hid hN
    rw [← hN] at hva hil
    have hilI : (i : Int) < N := by omega
    have hi0 : (0 : Int) ≤ i := by omega
    subst hva
    clear hright hb0 hbl hit hbi hbb hwc hN
    by_cases ho : c.ops < top
    · by_cases hwn : b.worn < top
      · have hmay : mayErase c (i : Int) = true := by rw [HMP.out, hp, decide_eq_true ho, show blkAt c (i : Int).toNat = b from E1.out, decide_eq_true hwn]; rfl
        have HZ1 : Hid (z = askedN c.off true) := hzn.out _ hmay
        have HHO := Lib.hid ho
        have HHW := Lib.hid hwn
        unfold top at ho hwn
        clear hmay
        have L := regB HM.out.arg rfl
        unfold chipCells at L
        have k3 := fun (d : Nat) (os : Array Obj) => cell_regrown (show W.cell? ⟨w.heap.size, 3, none⟩ = some (.int .i64 c.ops) by rw [HM.out.arg.cell]; rfl) d os
        have k2 := fun (d : Nat) (os : Array Obj) => cell_regrown (show W.cell? ⟨w.heap.size, 2, none⟩ = some (.slice (some ⟨bb, bo, none⟩) N cb) by rw [HM.out.arg.cell]; rfl) d os
        have C1 := fun (d : Nat) (os : Array Obj) => Calls.regrown_of (hasBlock_any c (chipV c (.slice (some ⟨bb, bo, none⟩) N cb) vfa) (i : Int) (grow (redrawn W d) os) (HRW.out.later (below_regrown W d os)))
        have C2 := fun (d : Nat) (os : Array Obj) => Calls.regrown_of (asked_any c (.slice (some ⟨bb, bo, none⟩) N cb) vfa true (grow (redrawn W d) os))
        rw [hp] at C1
        rw [← HZ1.out] at C2
        clear hp
        unfold chipV at C1 C2
        have k9 := fun (d : Nat) (os : Array Obj) => cell_regrown HWC.out d os
        refine wp_region_quiet_below (by kernel_rfl) (by kernel_rfl) ?_
        repeat (go_big_quiet_step (first | exact C1 _ _ | exact C2 _ _))
        refine wpQuiet_nil fun w2 hw2 => ?_
        have hb2 : Below W.heap.size W w2 := by
          obtain ⟨p, rfl⟩ := hw2
          exact below_regrown W p.d p.os
        clear hw2 L C1 C2 k9 k3 k2
        cases hoff : c.off with
        | true =>
          obtain rfl : z = 7 := by rw [HZ1.out, hoff]; rfl
          clear hoff
          have HCH : Hid (X = c) := by show _ = _; exact HCHB.out (by decide)
          have HER : Hid (er = 7) := by show _ = _; exact HERB.out (by decide)
          have hm2 := HM.out.later hb2
          obtain ⟨st1, st2⟩ := hm2.fin
          have ld1 := hm2.box.load rfl
          have HFIN := Lib.hid st2
          unfold chipCells at st1 ld1
          rw [← HBS.out]
          clear st2 hm2 hb2
          go_wp2
          refine bodyPost_ret (v := .tuple #[.agg (chipCells c vb vf), .int .i64 7]) (out2 rfl HFIN.out.1 rfl _ rfl rfl) rfl ?_
          exact ⟨_, by rw [HER.out], by rw [HCH.out]; exact HFIN.out.2.1, HFIN.out.2.2⟩
        | false =>
          have hz0 : z = 0 := by rw [HZ1.out, hoff]; rfl
          clear hoff
          subst hz0
          have HM2 := Lib.hid (HM.out.later hb2)
          rw [← HBS.out]
          have q1 : w2.cell? ⟨B, 2, none⟩ = some vb := by rw [HM2.out.box.cell]; rfl
          obtain ⟨g, cap, x, cur, hvb, hgb, hgc, hgf, c0, cu1, cw, cbad, pT, hpT, hpx⟩ := HM2.out.own.at_row HB.out
          rw [← HNN.out] at hvb
          have HVB := Lib.hid hvb
          rw [hvb] at q1
          have HPT := Lib.hid hpT
          have HPX := Lib.hid hpx
          clear hvb hpT hpx hgc hb2 hgb hgf
          cases hbad : b.bad with
          | true =>
            have HW : Hid ((0 : Int) = 0 ∧ (blkAt c (i : Int).toNat).bad = true) := ⟨rfl, by rw [show blkAt c (i : Int).toNat = b from E1.out]; exact hbad⟩
            rw [hbad] at cbad
            clear hbad cu1 cw c0
            have HCH : Hid (X = c) := by show _ = _; exact (HWORN.out (by have := HW.out.2; first | exact ⟨rfl, this⟩ | exact ⟨trivial, this⟩)).1
            have HER : Hid (er = 9) := by show _ = _; exact (HWORN.out (by have := HW.out.2; first | exact ⟨rfl, this⟩ | exact ⟨trivial, this⟩)).2
            obtain ⟨st1, st2⟩ := HM2.out.fin
            have ld1 := HM2.out.box.load rfl
            have HFIN := Lib.hid st2
            unfold chipCells at st1 ld1
            clear st2
            go_wp2
            refine bodyPost_ret (v := .tuple #[.agg (chipCells c vb vf), .int .i64 9]) (out2 rfl HFIN.out.1 rfl _ rfl rfl) rfl ?_
            exact ⟨_, by rw [HER.out], by rw [HCH.out]; exact HFIN.out.2.1, HFIN.out.2.2⟩
          | false =>
            rw [hbad] at cbad
            have HBAD := Lib.hid hbad
            clear hbad cw c0 cu1
            have hops := (rightB_iff.1 HRI.out).2.2.2.1
            have C8 := operate_any c vb vf B (w.heap.size + 2) w2 HM2.out.box HM2.out.ownF hops.1 HHO.out
            have HC8 := Lib.hid C8
            unfold OperPost at HC8
            clear C8 hops
            obtain ⟨h1, h2, h3, h4⟩ := fitsB_iff.1 HFIT.out
            have h5 := (rightB_iff.1 HRI.out).2.1
            have h6 := (rightB_iff.1 HRI.out).2.2.1
            obtain ⟨m, hm⟩ : ∃ m, m = b.pages.length := ⟨_, rfl⟩
            obtain ⟨n, hn⟩ : ∃ n : Nat, c.size = (n : Int) := ⟨c.size.toNat, by omega⟩
            have HMM := Lib.hid hm
            have HPG : Hid (c.pages = (m : Int)) := by show _ = _; rw [hm]; exact h1.symm
            have HSZ := Lib.hid hn
            have HLS : Hid (∀ l ∈ b.pages, l.length = n) := fun l hl => by have := h4 l hl; omega
            have hm16 : (m : Int) ≤ 16 := by have := HPG.out; omega
            have hn256 : (n : Int) ≤ 256 := by omega
            have hnpos : 0 < n := by omega
            have hwn0 : (0 : Int) ≤ b.worn := h3.1
            obtain ⟨px, us⟩ := pT
            obtain ⟨gp, cp, hpx2⟩ : ∃ gp cp, px = .slice (some ⟨gp, 0, none⟩) m cp := by
              obtain ⟨a, -⟩ := HM2.out.own.us i _ b HPT.out HB.out
              obtain ⟨-, hF⟩ := HM2.out.own.us i _ b HPT.out HB.out
              have hul := f2_len hF
              simp only at a hul
              obtain ⟨gp, cp, e, -⟩ := own_form a (by rw [hul]; have := HPG.out; omega)
              exact ⟨gp, cp, by rw [e, hul, ← HMM.out]⟩
            subst hpx2
            obtain ⟨mk, hmk⟩ : ∃ mk, mk = maskOf (strikes c) := ⟨_, rfl⟩
            obtain ⟨e0, he0⟩ : ∃ e0, e0 = errOf (strikes c) := ⟨_, rfl⟩
            have HMK := Lib.hid hmk
            have HE0 := Lib.hid he0
            rw [← hmk, ← he0] at HC8
            clear h1 h2 h3 h4 h5 h6 hm hn hmk he0 ho hwn
            go_wp2_with fail
            refine HC8.out.mono ?_
            rintro e w3 ⟨rfl, hbx, hgr⟩
            have hm3 := HM2.out.oper hbx hgr
            have HM3 := Lib.hid hm3
            have q4 : w3.cell? ⟨B, 0, none⟩ = some (.int .i64 (m : Int)) := by rw [hm3.box.cell]; show some (Value.int .i64 c.pages) = _; rw [HPG.out]
            clear hbx hgr hm3 q1 cbad
            go_wp2
            clear q4
            go_loopw [11, 12, 53, 57, 58] (fun _ _ t _ _ wr => ∃ q : Nat, q ≤ m ∧ t = .int .i64 q ∧ Hid (Md w (chipCells c (.slice (some ⟨bb, bo, none⟩) N cb) vfa) B vb vf T { c.counted with blocks := c.blocks.set i (wiped b mk q) } wr)) (fun _ _ t _ _ _ => m - (intOf t).toNat)
            case atStart =>
              refine ⟨0, Nat.zero_le _, rfl, ?_⟩
              have : c.blocks.set i (wiped b mk 0) = c.counted.blocks := by
                show c.blocks.set i { b with pages := (b.pages.take 0).map (eraseBytes mk) ++ b.pages.drop 0 } = c.blocks
                rw [List.take_zero, List.drop_zero, List.map_nil, List.nil_append, set_same HB.out]
              rw [this]
              exact HM3.out
            case round =>
              obtain ⟨q, hq, rfl, HD⟩ := hrel
              obtain ⟨wo, hwo⟩ : ∃ wo, wo = wr := ⟨_, rfl⟩
              subst hwo
              have hil2 : i < c.blocks.length := by have := HNN.out; omega
              have HIL := Lib.hid hil2
              clear hil2
              by_cases hlt : q < m
              · have hltI : (q : Int) < m := by omega
                have hq0 : (0 : Int) ≤ q := by omega
                obtain ⟨l, hl⟩ : ∃ l, b.pages[q]? = some l := ⟨b.pages[q]'(by rw [← HMM.out]; exact hlt), List.getElem?_eq_getElem _⟩
                have hln := HLS.out l (List.mem_of_getElem? hl)
                have HL := Lib.hid hl
                have HLN := Lib.hid hln
                have q5 : wo.cell? ⟨B, 1, none⟩ = some (.int .i64 (n : Int)) := by rw [HD.out.box.cell]; show some (Value.int .i64 c.size) = _; rw [HSZ.out]
                have hbq : (c.blocks.set i (wiped b mk q))[i]? = some (wiped b mk q) := by rw [List.getElem?_set, if_pos rfl, if_pos HIL.out]
                obtain ⟨gp', cp', gr, cr, cur', a1, a2, a3, -⟩ := HD.out.own.at_page hbq HPT.out (wiped_at hl) (by rw [hln]; exact hnpos)
                simp only at a3
                rw [hln] at a3
                have HUS := Lib.hid a3
                clear hl hln hbq a1 a2 a3
                go_wp2
                clear q5
                go_loopw [12, 58] (fun _ t wr => ∃ j : Nat, j ≤ n ∧ t = .int .i64 j ∧ Hid (Md w (chipCells c (.slice (some ⟨bb, bo, none⟩) N cb) vfa) B vb vf T { c.counted with blocks := c.blocks.set i (wiped2 b mk q l j) } wr)) (fun _ t _ => n - (intOf t).toNat)
                case atStart =>
                  refine ⟨0, Nat.zero_le _, rfl, ?_⟩
                  rw [wiped2_zero HL.out]
                  exact HD
                case round =>
                  obtain ⟨j, hj, rfl, HDD⟩ := hrel
                  obtain ⟨wi, hwi⟩ : ∃ wi, wi = wr := ⟨_, rfl⟩
                  subst hwi
                  by_cases hlt2 : j < n
                  · have hlt2I : (j : Int) < n := by omega
                    have hj0 : (0 : Int) ≤ j := by omega
                    have hbj : (c.blocks.set i (wiped2 b mk q l j))[i]? = some (wiped2 b mk q l j) := by rw [List.getElem?_set, if_pos rfl, if_pos HIL.out]
                    have hkj := wiped2_at (mk := mk) HL.out j
                    have hlj : ((eraseBytes mk l).take j ++ l.drop j).length = n := by
                      unfold eraseBytes
                      rw [List.length_append, List.length_take, List.length_map, List.length_drop, HLN.out]; omega
                    obtain ⟨y, hy⟩ : ∃ y, ((eraseBytes mk l).take j ++ l.drop j)[j]? = some y := ⟨_, List.getElem?_eq_getElem (by omega)⟩
                    obtain ⟨c1, c2, c3, c4, -⟩ := HDD.out.own.cells HVB.out hbj HPT.out hkj HUS.out (by omega)
                    have c5 : wi.cell? ⟨gr, j, none⟩ = some (.int .u8 (y.toNat : Int)) := c3 j y hy
                    have c6 := c4 j
                    have hstep := HDD.out.setByte (j := j) HPT.out hbj hkj (by rw [hlj]; exact HUS.out) (by omega) (y ||| mk)
                    rw [wiped2_next hy (by rw [HLN.out]; exact hlt2)] at hstep
                    dsimp only at hstep
                    rw [List.set_set] at hstep
                    obtain ⟨yn, hyn⟩ : ∃ yn : Nat, yn = (y ||| mk).toNat := ⟨_, rfl⟩
                    have hor : bits .or .u8 (y.toNat : Int) (mk.toNat : Int) = (yn : Int) := by rw [or_val2, hyn]
                    have HNXT : Hid (Md w (chipCells c (.slice (some ⟨bb, bo, none⟩) N cb) vfa) B vb vf T { c.counted with blocks := c.blocks.set i (wiped2 b mk q l (j + 1)) } (wi.setCell ⟨gr, j, none⟩ (.int .u8 (yn : Int)))) := by rw [hyn]; exact hstep
                    clear hbj hkj hlj hy hstep c3 c4 hyn
                    go_wp2
                    go_roundw
                    case rel => exact ⟨j + 1, by omega, by go_num, HNXT⟩
                    case measure => simp [intOf]; omega
                  · obtain rfl : j = n := by omega
                    have HNX : Hid (Md w (chipCells c (.slice (some ⟨bb, bo, none⟩) N cb) vfa) B vb vf T { c.counted with blocks := c.blocks.set i (wiped b mk (q + 1)) } wi) := by
                      have := HDD.out
                      rw [wiped2_done HL.out HLN.out] at this
                      exact this
                    go_wp2
                    go_roundw
                    case rel => exact ⟨q + 1, by omega, by go_num, HNX⟩
                    case measure => simp [intOf]; omega
              · obtain rfl : q = m := by omega
                have hat : (c.blocks.set i (wiped b mk q))[i]? = some (wiped b mk q) := by rw [List.getElem?_set, if_pos rfl, if_pos HIL.out]
                obtain ⟨g1, cap1, x1, cur1, hv1, -, -, hf1, -, tu1, tw1, -⟩ := HD.out.own.at_row (hat)
                have hq1 := HVB.out.symm.trans hv1
                simp only [Value.slice.injEq, Option.some.injEq, Addr.mk.injEq, and_true] at hq1
                obtain ⟨rfl, -, -⟩ := hq1
                clear hv1
                have t1 : wo.cell? ⟨g, i * 4 + 1, none⟩ = some (.int .i64 b.used) := tu1
                have f1 := hf1 (i * 4 + 1)
                have hm7 := HD.out.setNum HVB.out hat (b' := { wiped b mk q with used := 0 }) rfl (j := 1) (by omega) (.int .i64 0) (fun x => rfl)
                have hat7 : ((c.blocks.set i (wiped b mk q)).set i { wiped b mk q with used := 0 })[i]? = some { wiped b mk q with used := 0 } := by rw [List.set_set, List.getElem?_set, if_pos rfl, if_pos HIL.out]
                obtain ⟨g2, cap2, x2, cur2, hv2, -, -, hf2, -, tu2, tw2, -⟩ := hm7.own.at_row (hat7)
                have hq2 := HVB.out.symm.trans hv2
                simp only [Value.slice.injEq, Option.some.injEq, Addr.mk.injEq, and_true] at hq2
                obtain ⟨rfl, -, -⟩ := hq2
                clear hv2
                have t2 : (wo.setCell ⟨g, i * 4 + 1, none⟩ (.int .i64 0)).cell? ⟨g, i * 4 + 2, none⟩ = some (.int .i64 b.worn) := tw2
                have f2 := hf2 (i * 4 + 2)
                have hwI : b.worn < 1099511627776 := HHW.out
                by_cases hez : e0 = 0
                · have hm9 := hm7.setNum HVB.out hat7 (b' := { wiped b mk q with used := 0, worn := b.worn + 1 }) rfl (j := 2) (by omega) (.int .i64 (b.worn + 1)) (fun x => rfl)
                  obtain ⟨st1, st2⟩ := hm9.fin
                  have ld1 := hm9.box.load rfl
                  have HFIN := Lib.hid st2
                  have hw : (0 : Int) = 0 ∧ (blkAt c (i : Int).toNat).bad = false := ⟨rfl, by rw [show blkAt c (i : Int).toNat = b from E1.out]; exact HBAD.out⟩
                  have HER : Hid (er = e0) := by show _ = _; rw [(HDONE.out (by have := hw.2; first | exact ⟨rfl, this⟩ | exact ⟨trivial, this⟩)).2, HE0.out]
                  have HD1 : Hid (X = { c.counted with blocks := ((c.blocks.set i (wiped b mk q)).set i { wiped b mk q with used := 0 }).set i { wiped b mk q with used := 0, worn := b.worn + 1 } }) := by
                    show _ = _
                    rw [(HDONE.out (by have := hw.2; first | exact ⟨rfl, this⟩ | exact ⟨trivial, this⟩)).1]
                    show c.counted.setBlk i (eraseBlk (blkAt c i) c.pages (errOf (strikes c)) (maskOf (strikes c))) = _
                    rw [show blkAt c i = b from E1.out, ← HE0.out, ← HMK.out, wiped_all b mk HMM.out.symm]
                    simp only [List.set_set]
                    unfold eraseBlk Chp.setBlk
                    rw [if_pos hez]
                    rfl
                  unfold chipCells at st1 ld1
                  dsimp only at st1 ld1
                  clear hw st2 hm9 hm7 hat hat7 HD
                  clear hf1 hf2 tu1 tw1 tu2 tw2
                  subst hez
                  go_wp2
                  refine bodyPost_ret (v := .tuple #[.agg (chipCells { c.counted with blocks := ((c.blocks.set i (wiped b mk q)).set i { wiped b mk q with used := 0 }).set i { wiped b mk q with used := 0, worn := b.worn + 1 } } vb vf), .int .i64 0]) (out2 rfl HFIN.out.1 rfl _ rfl rfl) rfl ?_
                  exact ⟨_, by rw [HER.out], by rw [HD1.out]; exact HFIN.out.2.1, HFIN.out.2.2⟩
                · have hezq : (e0 != 0) = true := by simpa using hez
                  have q5 : (wo.setCell ⟨g, i * 4 + 1, none⟩ (.int .i64 0)).cell? ⟨B, 0, none⟩ = some (.int .i64 (q : Int)) := by rw [hm7.box.cell]; show some (Value.int .i64 c.pages) = _; rw [HPG.out]
                  have t4 : (wo.setCell ⟨g, i * 4 + 1, none⟩ (.int .i64 0)).cell? ⟨g, i * 4 + 1, none⟩ = some (.int .i64 0) := tu2
                  have f4 := hf2 (i * 4 + 1)
                  have hm8 := hm7.setNum HVB.out hat7 (b' := { wiped b mk q with used := (q : Int) }) rfl (j := 1) (by omega) (.int .i64 (q : Int)) (fun x => rfl)
                  have hat8 : (((c.blocks.set i (wiped b mk q)).set i { wiped b mk q with used := 0 }).set i { wiped b mk q with used := (q : Int) })[i]? = some { wiped b mk q with used := (q : Int) } := by rw [List.set_set, List.set_set, List.getElem?_set, if_pos rfl, if_pos HIL.out]
                  obtain ⟨g3, cap3, x3, cur3, hv3, -, -, hf3, -, tu3, tw3, -⟩ := hm8.own.at_row (hat8)
                  have hq3 := HVB.out.symm.trans hv3
                  simp only [Value.slice.injEq, Option.some.injEq, Addr.mk.injEq, and_true] at hq3
                  obtain ⟨rfl, -, -⟩ := hq3
                  clear hv3
                  have t5 : ((wo.setCell ⟨g, i * 4 + 1, none⟩ (.int .i64 0)).setCell ⟨g, i * 4 + 1, none⟩ (.int .i64 (q : Int))).cell? ⟨g, i * 4 + 2, none⟩ = some (.int .i64 b.worn) := tw3
                  have f5 := hf3 (i * 4 + 2)
                  have hm9 := hm8.setNum HVB.out hat8 (b' := { wiped b mk q with used := (q : Int), worn := b.worn + 1 }) rfl (j := 2) (by omega) (.int .i64 (b.worn + 1)) (fun x => rfl)
                  obtain ⟨st1, st2⟩ := hm9.fin
                  have ld1 := hm9.box.load rfl
                  have HFIN := Lib.hid st2
                  have hw : (0 : Int) = 0 ∧ (blkAt c (i : Int).toNat).bad = false := ⟨rfl, by rw [show blkAt c (i : Int).toNat = b from E1.out]; exact HBAD.out⟩
                  have HER : Hid (er = e0) := by show _ = _; rw [(HDONE.out (by have := hw.2; first | exact ⟨rfl, this⟩ | exact ⟨trivial, this⟩)).2, HE0.out]
                  have HD1 : Hid (X = { c.counted with blocks := (((c.blocks.set i (wiped b mk q)).set i { wiped b mk q with used := 0 }).set i { wiped b mk q with used := (q : Int) }).set i { wiped b mk q with used := (q : Int), worn := b.worn + 1 } }) := by
                    show _ = _
                    rw [(HDONE.out (by have := hw.2; first | exact ⟨rfl, this⟩ | exact ⟨trivial, this⟩)).1]
                    show c.counted.setBlk i (eraseBlk (blkAt c i) c.pages (errOf (strikes c)) (maskOf (strikes c))) = _
                    rw [show blkAt c i = b from E1.out, ← HE0.out, ← HMK.out, wiped_all b mk HMM.out.symm]
                    simp only [List.set_set]
                    unfold eraseBlk Chp.setBlk
                    rw [if_neg hez, HPG.out]
                    rfl
                  unfold chipCells at st1 ld1
                  dsimp only at st1 ld1
                  clear hw st2 hm9 hm7 hat hat7 HD
                  clear hf1 hf2 hf3 tu1 tw1 tu2 tw2 tu3 tw3 hm8 hat8 hez
                  go_wp2
                  refine bodyPost_ret (v := .tuple #[.agg (chipCells { c.counted with blocks := (((c.blocks.set i (wiped b mk q)).set i { wiped b mk q with used := 0 }).set i { wiped b mk q with used := (q : Int) }).set i { wiped b mk q with used := (q : Int), worn := b.worn + 1 } } vb vf), .int .i64 e0]) (out2 rfl HFIN.out.1 rfl _ rfl rfl) rfl ?_
                  exact ⟨_, by rw [HER.out], by rw [HD1.out]; exact HFIN.out.2.1, HFIN.out.2.2⟩
      · have hmay : mayErase c (i : Int) = false := by rw [HMP.out, show blkAt c (i : Int).toNat = b from E1.out, decide_eq_false hwn, Bool.and_false]
        obtain rfl : z = 1 := hzn.out _ hmay
        have hz1 : (1 : Int) = askedN c.off false := rfl
        unfold top at ho hwn
        clear hmay
        have L := regB HM.out.arg rfl
        unfold chipCells at L
        have k3 := fun (d : Nat) (os : Array Obj) => cell_regrown (show W.cell? ⟨w.heap.size, 3, none⟩ = some (.int .i64 c.ops) by rw [HM.out.arg.cell]; rfl) d os
        have k2 := fun (d : Nat) (os : Array Obj) => cell_regrown (show W.cell? ⟨w.heap.size, 2, none⟩ = some (.slice (some ⟨bb, bo, none⟩) N cb) by rw [HM.out.arg.cell]; rfl) d os
        have C1 := fun (d : Nat) (os : Array Obj) => Calls.regrown_of (hasBlock_any c (chipV c (.slice (some ⟨bb, bo, none⟩) N cb) vfa) (i : Int) (grow (redrawn W d) os) (HRW.out.later (below_regrown W d os)))
        have C2 := fun (d : Nat) (os : Array Obj) => Calls.regrown_of (asked_any c (.slice (some ⟨bb, bo, none⟩) N cb) vfa false (grow (redrawn W d) os))
        rw [hp] at C1
        rw [show askedN c.off false = 1 from hz1.symm] at C2
        clear hp
        unfold chipV at C1 C2
        have k9 := fun (d : Nat) (os : Array Obj) => cell_regrown HWC.out d os
        refine wp_region_quiet_below (by kernel_rfl) (by kernel_rfl) ?_
        repeat (go_big_quiet_step (first | exact C1 _ _ | exact C2 _ _))
        refine wpQuiet_nil fun w2 hw2 => ?_
        have hb2 : Below W.heap.size W w2 := by
          obtain ⟨p, rfl⟩ := hw2
          exact below_regrown W p.d p.os
        clear hw2 L C1 C2 k9 k3 k2
        have HCH : Hid (X = c) := by show _ = _; exact HCHB.out (by decide)
        have HER : Hid (er = 1) := by show _ = _; exact HERB.out (by decide)
        have hm2 := HM.out.later hb2
        obtain ⟨st1, st2⟩ := hm2.fin
        have ld1 := hm2.box.load rfl
        have HFIN := Lib.hid st2
        unfold chipCells at st1 ld1
        rw [← HBS.out]
        clear st2 hm2 hb2
        go_wp2
        refine bodyPost_ret (v := .tuple #[.agg (chipCells c vb vf), .int .i64 1]) (out2 rfl HFIN.out.1 rfl _ rfl rfl) rfl ?_
        exact ⟨_, by rw [HER.out], by rw [HCH.out]; exact HFIN.out.2.1, HFIN.out.2.2⟩
    · have hmay : mayErase c (i : Int) = false := by rw [HMP.out, decide_eq_false ho, Bool.and_false]; rfl
      obtain rfl : z = 1 := hzn.out _ hmay
      have hz1 : (1 : Int) = askedN c.off false := rfl
      unfold top at ho
      clear hmay
      have L := regB HM.out.arg rfl
      unfold chipCells at L
      have k3 := fun (d : Nat) (os : Array Obj) => cell_regrown (show W.cell? ⟨w.heap.size, 3, none⟩ = some (.int .i64 c.ops) by rw [HM.out.arg.cell]; rfl) d os
      have k2 := fun (d : Nat) (os : Array Obj) => cell_regrown (show W.cell? ⟨w.heap.size, 2, none⟩ = some (.slice (some ⟨bb, bo, none⟩) N cb) by rw [HM.out.arg.cell]; rfl) d os
      have C1 := fun (d : Nat) (os : Array Obj) => Calls.regrown_of (hasBlock_any c (chipV c (.slice (some ⟨bb, bo, none⟩) N cb) vfa) (i : Int) (grow (redrawn W d) os) (HRW.out.later (below_regrown W d os)))
      have C2 := fun (d : Nat) (os : Array Obj) => Calls.regrown_of (asked_any c (.slice (some ⟨bb, bo, none⟩) N cb) vfa false (grow (redrawn W d) os))
      rw [hp] at C1
      rw [show askedN c.off false = 1 from hz1.symm] at C2
      clear hp
      unfold chipV at C1 C2
      have k9 := fun (d : Nat) (os : Array Obj) => cell_regrown HWC.out d os
      refine wp_region_quiet_below (by kernel_rfl) (by kernel_rfl) ?_
      repeat (go_big_quiet_step (first | exact C1 _ _ | exact C2 _ _))
      refine wpQuiet_nil fun w2 hw2 => ?_
      have hb2 : Below W.heap.size W w2 := by
        obtain ⟨p, rfl⟩ := hw2
        exact below_regrown W p.d p.os
      clear hw2 L C1 C2 k9 k3 k2
      have HCH : Hid (X = c) := by show _ = _; exact HCHB.out (by decide)
      have HER : Hid (er = 1) := by show _ = _; exact HERB.out (by decide)
      have hm2 := HM.out.later hb2
      obtain ⟨st1, st2⟩ := hm2.fin
      have ld1 := hm2.box.load rfl
      have HFIN := Lib.hid st2
      unfold chipCells at st1 ld1
      rw [← HBS.out]
      clear st2 hm2 hb2
      go_wp2
      refine bodyPost_ret (v := .tuple #[.agg (chipCells c vb vf), .int .i64 1]) (out2 rfl HFIN.out.1 rfl _ rfl rfl) rfl ?_
      exact ⟨_, by rw [HER.out], by rw [HCH.out]; exact HFIN.out.2.1, HFIN.out.2.2⟩
end Go.Proofs.Ytilgppijmkcomaa.Chip
