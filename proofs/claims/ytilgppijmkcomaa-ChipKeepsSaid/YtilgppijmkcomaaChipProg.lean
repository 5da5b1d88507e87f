/- chip.Program: what it hands back. -/
import Derived.Test.YtilgppijmkcomaaChipMark
import Derived.StillTailTactics
namespace Go.Proofs.Ytilgppijmkcomaa.Chip
open Go.RowKit Go.Sort Go.Shelf
attribute [local go_sem ↓] loadVar_chip storeVar_chip

set_option maxRecDepth 100000 in
theorem not_val : ∀ n : Fin 256, ((255 : Nat) ^^^ n.val) = 255 - n.val := by decide
theorem or_val (y mk : UInt8) : bits .or .u8 (y.toNat : Int) (bits .xor .u8 (if IntKind.u8.signed = true then -1 else IntKind.u8.max) (mk.toNat : Int)) = ((y ||| ~~~mk).toNat : Int) := by
  have h1 : (if IntKind.u8.signed = true then (-1 : Int) else IntKind.u8.max) = ((255 : Nat) : Int) := rfl
  have h2 := not_val ⟨mk.toNat, mk.toNat_lt⟩
  simp only at h2
  rw [h1, u8_xor_nat 255 mk.toNat (by decide) mk.toNat_lt, h2, u8_or_nat y.toNat _ y.toNat_lt (by omega), UInt8.toNat_or, UInt8.toNat_not]
  rfl

set_option maxHeartbeats 8000000 in
set_option maxRecDepth 100000 in
theorem program_any (c : Chp) (hs : Small c) (p : List UInt8) (v u : Value) (block page : Int) (w : World) (hR : RdC w v c) (hU : RdB w u p) :
    Calls Try.prog 8 #[v, .int .i64 block, .int .i64 page, u] w (ChipPost w (progC c block page p) (progE c block page p)) := by
  obtain ⟨va, vfa, hv, hK, hF⟩ := id hR
  subst hv
  have h0 := Cp.start w (chipCells c va vfa)
  have hR0 : RdC ((w.alloc (.cells (chipCells c va vfa) 27)).alloc (.cells zc 27)) (chipV c va vfa) c := hR.later (below2 _ _ _)
  have L0 := h0.box.load rfl
  have C0 := copied_any c hs (chipV c va vfa) _ hR0
  obtain ⟨W0, hW0⟩ : ∃ W0, W0 = (w.alloc (.cells (chipCells c va vfa) 27)).alloc (.cells zc 27) := ⟨_, rfl⟩
  have HW0 := Lib.hid hW0
  have hz0 : W0.heap.size = w.heap.size + 2 := by rw [hW0]; simp
  rw [← hW0] at h0 hR0 C0
  have HC0 := Lib.hid C0
  have H0 := Lib.hid h0
  have HR0 := Lib.hid hR0
  have HZ0 := Lib.hid hz0
  have HSM := Lib.hid hs
  have HU := Lib.hid hU
  obtain ⟨au, cu, hu, -, -⟩ := hU.len
  obtain ⟨z, hz⟩ : ∃ z, z = askedN c.off (mayProg c block page p) := ⟨_, rfl⟩
  have HZ := Lib.hid hz
  have HCHB : Hid (z ≠ 0 → progC c block page p = c) := fun h => by unfold progC; rw [if_pos (by rw [← hz]; exact h)]
  have HERB : Hid (z ≠ 0 → progE c block page p = z) := fun h => by unfold progE; rw [if_pos (by rw [← hz]; exact h), hz]
  have HWORN : Hid (z = 0 ∧ ((blkAt c block.toNat).bad = true ∨ (blkAt c block.toNat).used ≠ page) → progC c block page p = c ∧ progE c block page p = 9) := fun ⟨h, h2⟩ => by
    unfold progC progE
    rw [← hz, if_neg (by simp [h]), if_pos h2, if_neg (by simp [h]), if_pos h2]
    exact ⟨rfl, rfl⟩
  have HDONE : Hid (z = 0 ∧ (blkAt c block.toNat).bad = false ∧ (blkAt c block.toNat).used = page → progC c block page p = c.counted.setBlk block.toNat (progBlk (blkAt c block.toNat) page.toNat (maskOf (strikes c)) p) ∧ progE c block page p = errOf (strikes c)) := fun ⟨h, h2, h3⟩ => by
    unfold progC progE
    rw [← hz, if_neg (by simp [h]), if_neg (by simp [h2, h3]), if_neg (by simp [h]), if_neg (by simp [h2, h3])]
    exact ⟨rfl, rfl⟩
  have HMP : Hid (mayProg c block page p = (hasPageB c block page && decide ((p.length : Int) = c.size) && decide (c.ops < top))) := rfl
  obtain ⟨X, hX⟩ : ∃ X, X = progC c block page p := ⟨_, rfl⟩
  obtain ⟨er, her⟩ : ∃ er, er = progE c block page p := ⟨_, rfl⟩
  rw [← hX] at HCHB HWORN HDONE ⊢
  rw [← her] at HERB HWORN HDONE ⊢
  obtain ⟨n, hn⟩ : ∃ n, n = p.length := ⟨_, rfl⟩
  have HN := Lib.hid hn
  rw [← hn] at hu HMP
  subst hu
  clear hX her hU hn hz
  unfold chipCells zc at HW0 L0
  unfold CopyPost at HC0
  clear hK hF hR hR0 h0 C0 hW0 hz0 hs
  unfold chipV at HC0 ⊢
  go_enter Try.func8, Try.ntmps8
  go_wp2_with fail
  rw [← HW0.out]
  refine HC0.out.mono ?_
  rintro e w1 ⟨vb, vf, T, rfl, hok, hof, hb⟩
  have hmd := Md.start (H0.out.later hb) (by rw [← HZ0.out]; exact hok) (by rw [← HZ0.out]; exact hof)
  have st := store_new (ds := chipCells c vb vf) rfl (one6 c (own_one hok.row) (own_one hof)) w1 zc rfl
  obtain ⟨B, hBs⟩ : ∃ B, B = w1.heap.size := ⟨_, rfl⟩
  rw [← hBs] at hmd st
  obtain ⟨W, hW⟩ : ∃ W, W = w1.alloc (.cells (chipCells c vb vf) 27) := ⟨_, rfl⟩
  rw [← hW] at hmd st
  have HM := Lib.hid hmd
  have HBS := Lib.hid hBs
  have HRW : Hid (RdC W (chipV c va vfa) c) := HR0.out.later (hb.trans (by rw [hW]; exact (Below.refl _ _).alloc hb.size _))
  unfold chipCells zc at st
  clear L0 hok hof hb hmd hW
  rw [hBs] at st
  clear hBs
  go_wp2
  clear st
  have hzn : Hid (∀ b, mayProg c block page p = b → z = askedN c.off b) := fun b h => by rw [HZ.out, h]
  cases hp : hasPageB c block page with
  | false =>
    have hmay : mayProg c block page p = false := by rw [HMP.out, hp]; rfl
    obtain rfl : z = 1 := hzn.out _ hmay
    have hz1 : (1 : Int) = askedN c.off false := rfl
    clear hmay
    have L := regB HM.out.arg rfl
    unfold chipCells at L
    have k1 := fun (d : Nat) (os : Array Obj) => cell_regrown (show W.cell? ⟨w.heap.size, 1, none⟩ = some (.int .i64 c.size) by rw [HM.out.arg.cell]; rfl) d os
    have k3 := fun (d : Nat) (os : Array Obj) => cell_regrown (show W.cell? ⟨w.heap.size, 3, none⟩ = some (.int .i64 c.ops) by rw [HM.out.arg.cell]; rfl) d os
    have C1 := fun (d : Nat) (os : Array Obj) => Calls.regrown_of (hasPage_any c (chipV c va vfa) block page (grow (redrawn W d) os) (HRW.out.later (below_regrown W d os)))
    have C2 := fun (d : Nat) (os : Array Obj) => Calls.regrown_of (asked_any c va vfa false (grow (redrawn W d) os))
    rw [hp] at C1
    rw [show askedN c.off false = 1 from hz1.symm] at C2
    clear hp
    unfold chipV at C1 C2
    refine wp_region_quiet_below (by kernel_rfl) (by kernel_rfl) ?_
    repeat (go_big_quiet_step (first | exact C1 _ _ | exact C2 _ _))
    refine wpQuiet_nil fun w2 hw2 => ?_
    have hb2 : Below W.heap.size W w2 := by
      obtain ⟨p, rfl⟩ := hw2
      exact below_regrown W p.d p.os
    clear hw2 L C1 C2 k1 k3
    have HCH : Hid (X = c) := by show _ = _; exact HCHB.out (by decide)
    have HER : Hid (er = 1) := by show _ = _; exact HERB.out (by decide)
    have hm2 := HM.out.later hb2
    obtain ⟨st1, st2⟩ := hm2.fin
    have ld1 := hm2.box.load rfl
    have HFIN := Lib.hid st2
    unfold chipCells at st1 ld1
    rw [← HBS.out]
    clear st2 hm2 hb2
    go_wp2
    refine bodyPost_ret (v := .tuple #[.agg (chipCells c vb vf), .int .i64 1]) (out2 rfl HFIN.out.1 rfl _ rfl rfl) rfl ?_
    exact ⟨_, by rw [HER.out], by rw [HCH.out]; exact HFIN.out.2.1, HFIN.out.2.2⟩
  | true =>
    by_cases hl : (n : Int) = c.size
    · by_cases ho : c.ops < top
      · have hmay : mayProg c block page p = true := by rw [HMP.out, hp, decide_eq_true hl, decide_eq_true ho]; rfl
        have HZ1 : Hid (z = askedN c.off true) := hzn.out _ hmay
        have HPG := Lib.hid hp
        have hls : ((n : Int) == c.size) = true := by simpa using hl
        have HHO := Lib.hid ho
        have HHL := Lib.hid hl
        unfold top at ho
        clear hmay hl
        have L := regB HM.out.arg rfl
        unfold chipCells at L
        have k1 := fun (d : Nat) (os : Array Obj) => cell_regrown (show W.cell? ⟨w.heap.size, 1, none⟩ = some (.int .i64 c.size) by rw [HM.out.arg.cell]; rfl) d os
        have k3 := fun (d : Nat) (os : Array Obj) => cell_regrown (show W.cell? ⟨w.heap.size, 3, none⟩ = some (.int .i64 c.ops) by rw [HM.out.arg.cell]; rfl) d os
        have C1 := fun (d : Nat) (os : Array Obj) => Calls.regrown_of (hasPage_any c (chipV c va vfa) block page (grow (redrawn W d) os) (HRW.out.later (below_regrown W d os)))
        have C2 := fun (d : Nat) (os : Array Obj) => Calls.regrown_of (asked_any c va vfa true (grow (redrawn W d) os))
        rw [hp] at C1
        rw [← HZ1.out] at C2
        clear hp
        unfold chipV at C1 C2
        refine wp_region_quiet_below (by kernel_rfl) (by kernel_rfl) ?_
        repeat (go_big_quiet_step (first | exact C1 _ _ | exact C2 _ _))
        refine wpQuiet_nil fun w2 hw2 => ?_
        have hb2 : Below W.heap.size W w2 := by
          obtain ⟨p, rfl⟩ := hw2
          exact below_regrown W p.d p.os
        clear hw2 L C1 C2 k1 k3
        cases hoff : c.off with
        | true =>
          obtain rfl : z = 7 := by rw [HZ1.out, hoff]; rfl
          clear hoff
          have HCH : Hid (X = c) := by show _ = _; exact HCHB.out (by decide)
          have HER : Hid (er = 7) := by show _ = _; exact HERB.out (by decide)
          have hm2 := HM.out.later hb2
          obtain ⟨st1, st2⟩ := hm2.fin
          have ld1 := hm2.box.load rfl
          have HFIN := Lib.hid st2
          unfold chipCells at st1 ld1
          rw [← HBS.out]
          clear st2 hm2 hb2
          go_wp2
          refine bodyPost_ret (v := .tuple #[.agg (chipCells c vb vf), .int .i64 7]) (out2 rfl HFIN.out.1 rfl _ rfl rfl) rfl ?_
          exact ⟨_, by rw [HER.out], by rw [HCH.out]; exact HFIN.out.2.1, HFIN.out.2.2⟩
        | false =>
          have hz0 : z = 0 := by rw [HZ1.out, hoff]; rfl
          clear hoff
          subst hz0
          obtain ⟨i, k, b, l, rfl, rfl, hil, hkl, hb, hl, e1, e2, hfit, hright⟩ := page_there HPG.out
          have HM2 := Lib.hid (HM.out.later hb2)
          rw [← HBS.out]
          have q1 : w2.cell? ⟨B, 2, none⟩ = some vb := by rw [HM2.out.box.cell]; rfl
          obtain ⟨g, cap, x, cur, hvb, hgb, hgc, hgf, c0, cu1, cw, cbad, pT, hpT, hpx⟩ := HM2.out.own.at_row hb
          obtain ⟨N, hN⟩ : ∃ N, N = c.blocks.length := ⟨_, rfl⟩
          rw [← hN] at hvb hil
          have hilI : (i : Int) < N := by omega
          have hi0 : (0 : Int) ≤ i := by omega
          have HVB := Lib.hid hvb
          rw [hvb] at q1
          have E1 : Hid (blkAt c i = b) := e1
          have HB := Lib.hid hb
          have HLI := Lib.hid hl
          have HFIT := Lib.hid hfit
          have HGC := Lib.hid hgc
          have HPT := Lib.hid hpT
          have HPX := Lib.hid hpx
          have HNN := Lib.hid hN
          have HGB := Lib.hid hgb
          have HRI := Lib.hid hright
          have HCU := Lib.hid cu1
          have HGF := Lib.hid hgf
          clear hvb hb hl e1 e2 hfit hright hpT hpx hN hgc hb2 hgb hgf
          cases hbad : b.bad with
          | true =>
            have HW : Hid ((0 : Int) = 0 ∧ ((blkAt c (i : Int).toNat).bad = true ∨ (blkAt c (i : Int).toNat).used ≠ (k : Int))) := ⟨rfl, .inl (by rw [show blkAt c (i : Int).toNat = b from E1.out]; exact hbad)⟩
            rw [hbad] at cbad
            clear hbad cu1 cw c0
            have HCH : Hid (X = c) := by show _ = _; exact (HWORN.out HW.out).1
            have HER : Hid (er = 9) := by show _ = _; exact (HWORN.out HW.out).2
            obtain ⟨st1, st2⟩ := HM2.out.fin
            have ld1 := HM2.out.box.load rfl
            have HFIN := Lib.hid st2
            unfold chipCells at st1 ld1
            clear st2
            go_wp2
            refine bodyPost_ret (v := .tuple #[.agg (chipCells c vb vf), .int .i64 9]) (out2 rfl HFIN.out.1 rfl _ rfl rfl) rfl ?_
            exact ⟨_, by rw [HER.out], by rw [HCH.out]; exact HFIN.out.2.1, HFIN.out.2.2⟩
          | false =>
            rw [hbad] at cbad
            by_cases huse : b.used = (k : Int)
            · rw [huse] at cu1
              have HBAD := Lib.hid hbad
              have HUSE := Lib.hid huse
              clear hbad huse cw c0
              have hops := (rightB_iff.1 HRI.out).2.2.2.1
              have C8 := operate_any c vb vf B (w.heap.size + 2) w2 HM2.out.box HM2.out.ownF hops.1 HHO.out
              have HC8 := Lib.hid C8
              unfold OperPost at HC8
              clear C8 hops
              have hpl := HLI.out
              have hsz : l.length = n := by
                have h1 := (fitsB_iff.1 HFIT.out).2.2.2 l (List.mem_of_getElem? HLI.out)
                have h2 := HHL.out
                omega
              have hn0 : 0 < n := by
                have h1 := (rightB_iff.1 HRI.out).2.2.1.1
                have h2 := HHL.out
                omega
              obtain ⟨gp, cp, gr, cr, cur', a1, a2, a3, -⟩ := HM2.out.own.at_page HB.out HPT.out HLI.out (by omega)
              obtain ⟨px, us⟩ := pT
              simp only at a1 a3
              subst a1
              rw [hsz] at a3
              have HPT2 : Hid (T[i]? = some (.slice (some ⟨gp, 0, none⟩) b.pages.length cp, us)) := HPT.out
              have HUS := Lib.hid a3
              have HSZ := Lib.hid hsz
              obtain ⟨bp, po, cu', hfu, -⟩ := HU.out.form (by have := HN.out; omega)
              rw [← HN.out] at hfu
              simp only [Value.slice.injEq, true_and] at hfu
              obtain ⟨rfl, rfl⟩ := hfu
              have HPC : Hid (∀ W, Below w.heap.size w W → ∀ (j : Nat) y, p[j]? = some y → W.cell? ⟨bp, po + j, none⟩ = some (byV y)) := fun W h j y hy => by
                obtain ⟨b1, o1, c1, e1, e2⟩ := (HU.out.later h).form (by have := HN.out; omega)
                simp only [Value.slice.injEq, Option.some.injEq, Addr.mk.injEq, and_true] at e1
                obtain ⟨⟨rfl, rfl⟩, -⟩ := e1
                exact e2 j y hy
              obtain ⟨m, hm⟩ : ∃ m, m = b.pages.length := ⟨_, rfl⟩
              have HMM := Lib.hid hm
              rw [← hm] at HPT2 hkl
              have hkI : (k : Int) < m := by omega
              have hk0 : (0 : Int) ≤ k := by omega
              have hk16 : (k : Int) ≤ 16 := by
                have h1 := (fitsB_iff.1 HFIT.out).1
                have h2 := (rightB_iff.1 HRI.out).2.1.2
                omega
              obtain ⟨mk, hmk⟩ : ∃ mk, mk = maskOf (strikes c) := ⟨_, rfl⟩
              obtain ⟨e0, he0⟩ : ∃ e0, e0 = errOf (strikes c) := ⟨_, rfl⟩
              have HMK := Lib.hid hmk
              have HE0 := Lib.hid he0
              rw [← hmk, ← he0] at HC8
              have hn256 : (n : Int) ≤ 256 := by have h1 := HHL.out; have h2 := (rightB_iff.1 HRI.out).2.2.1.2; omega
              clear a2 a3 hpl hsz hm hmk he0 hls ho
              go_wp2_with fail
              refine HC8.out.mono ?_
              rintro e w3 ⟨rfl, hbx, hgr⟩
              have hm3 := HM2.out.oper hbx hgr
              have HM3 := Lib.hid hm3
              have q4 : w3.cell? ⟨B, 1, none⟩ = some (.int .i64 (n : Int)) := by rw [hm3.box.cell]; show some (Value.int .i64 c.size) = _; rw [HHL.out]
              clear hbx hgr hm3 q1 cu1 cbad
              go_wp2
              clear q4
              go_loopw [15, 63] (fun _ t wr => ∃ j : Nat, j ≤ n ∧ t = .int .i64 j ∧ Hid (Md w (chipCells c va vfa) B vb vf T { c.counted with blocks := c.blocks.set i (b.setPage k ((progBytes mk p).take j ++ l.drop j)) } wr)) (fun _ t _ => n - (intOf t).toNat)
              case atStart =>
                refine ⟨0, Nat.zero_le _, rfl, ?_⟩
                have : c.blocks.set i (b.setPage k ((progBytes mk p).take 0 ++ l.drop 0)) = c.counted.blocks := by
                  rw [List.take_zero, List.drop_zero, List.nil_append]
                  show c.blocks.set i { b with pages := b.pages.set k l } = c.blocks
                  rw [set_same HLI.out, set_same HB.out]
                rw [this]
                exact HM3.out
              case round =>
                obtain ⟨j, hj, rfl, HD⟩ := hrel
                obtain ⟨wi, hwi⟩ : ∃ wi, wi = wr := ⟨_, rfl⟩
                subst hwi
                have hil2 : i < c.blocks.length := by have := HNN.out; omega
                have hbj : (c.blocks.set i (b.setPage k ((progBytes mk p).take j ++ l.drop j)))[i]? = some (b.setPage k ((progBytes mk p).take j ++ l.drop j)) := by
                  rw [List.getElem?_set]; simp [hil2]
                have hkj : (b.setPage k ((progBytes mk p).take j ++ l.drop j)).pages[k]? = some ((progBytes mk p).take j ++ l.drop j) := by
                  show (b.pages.set k _)[k]? = _
                  rw [List.getElem?_set]; simp [← HMM.out, hkl]
                have hlj : ((progBytes mk p).take j ++ l.drop j).length = n := by
                  unfold progBytes
                  rw [List.length_append, List.length_take, List.length_map, List.length_drop, HSZ.out, ← HN.out]; omega
                by_cases hlt : j < n
                · have hltI : (j : Int) < n := by omega
                  have hj0 : (0 : Int) ≤ j := by omega
                  obtain ⟨y, hy⟩ : ∃ y, p[j]? = some y := ⟨p[j]'(by rw [← HN.out]; exact hlt), List.getElem?_eq_getElem _⟩
                  obtain ⟨yl, hyl⟩ : ∃ yl, ((progBytes mk p).take j ++ l.drop j)[j]? = some yl := ⟨_, List.getElem?_eq_getElem (by omega)⟩
                  obtain ⟨c1, c2, c3, c4, -⟩ := HD.out.own.cells HVB.out hbj HPT2.out hkj HUS.out (by omega)
                  have c5 := c3 j yl hyl
                  have c6 := c4 j
                  have c7 : wi.cell? ⟨bp, po + j, none⟩ = some (.int .u8 (y.toNat : Int)) := HPC.out wi HD.out.bel j y hy
                  have hstep := HD.out.setByte (j := j) HPT2.out hbj hkj (by rw [hlj]; exact HUS.out) (by omega) (y ||| ~~~mk)
                  have HNXT : Hid (Md w (chipCells c va vfa) B vb vf T { c.counted with blocks := c.blocks.set i (b.setPage k ((progBytes mk p).take (j + 1) ++ l.drop (j + 1))) } (wi.setCell ⟨gr, j, none⟩ (byV (y ||| ~~~mk)))) := by
                    have e1 : (progBytes mk p).take (j + 1) = (progBytes mk p).take j ++ [y ||| ~~~mk] := by
                      rw [List.take_add_one]; unfold progBytes; rw [List.getElem?_map, hy]; rfl
                    have e2 := set_mid (us := (progBytes mk p).take j) (ys := l) (k := j) (by unfold progBytes; rw [List.length_take, List.length_map, ← HN.out]; omega) (by rw [HSZ.out]; exact hlt) (y ||| ~~~mk)
                    rw [e1, ← e2]
                    have e3 : (c.blocks.set i (b.setPage k ((progBytes mk p).take j ++ l.drop j))).set i ((b.setPage k ((progBytes mk p).take j ++ l.drop j)).setPage k (((progBytes mk p).take j ++ l.drop j).set j (y ||| ~~~mk))) = c.blocks.set i (b.setPage k (((progBytes mk p).take j ++ l.drop j).set j (y ||| ~~~mk))) := by
                      rw [List.set_set]
                      show c.blocks.set i { b with pages := (b.pages.set k _).set k _ } = _
                      rw [List.set_set]
                      rfl
                    show Md _ _ _ _ _ _ _ _
                    rw [← e3]
                    exact hstep
                  clear hbj hkj hlj hy hyl hstep c3 c4 hil2
                  go_wp2
                  go_still_tail 16, (by kernel_rfl)
                  change wpList _ _ _ _ _ wi.drew
                  rw [or_val]
                  have HX2 : Hid (Md w (chipCells c va vfa) B vb vf T { c.counted with blocks := c.blocks.set i (b.setPage k ((progBytes mk p).take (j + 1) ++ l.drop (j + 1))) } ((wi.setCell ⟨gr, j, none⟩ (.int .u8 ((y ||| ~~~mk).toNat : Int))).drew)) := HNXT.out.later (Below.refl _ _).drew
                  generalize (y ||| ~~~mk) = yn at HX2 ⊢
                  clear HNXT
                  go_wp2
                  go_roundw
                  case rel => exact ⟨j + 1, by omega, by go_num, HX2⟩
                  case measure => simp [intOf]; omega
                · obtain rfl : j = n := by omega
                  have hdone : (progBytes mk p).take j ++ l.drop j = progBytes mk p := by
                    rw [List.take_of_length_le (by unfold progBytes; rw [List.length_map, ← HN.out]; exact Nat.le_refl _), List.drop_of_length_le (by rw [HSZ.out]; exact Nat.le_refl _), List.append_nil]
                  have hm4 := HD.out.setNum HVB.out hbj (b' := progBlk b k mk p) (by unfold progBlk Blk.setPage; rw [hdone]) (j := 1) (by omega) (.int .i64 ((k : Int) + 1)) (fun x => by
                    show [x, Value.int .i64 (b.used + 1), .int .i64 b.worn, .bool b.bad] = [x, .int .i64 ((k : Int) + 1), .int .i64 b.worn, .bool b.bad]
                    rw [HUSE.out])
                  have hst : (c.blocks.set i (b.setPage k ((progBytes mk p).take j ++ l.drop j))).set i (progBlk b k mk p) = (c.counted.setBlk i (progBlk b k mk p)).blocks := by
                    rw [List.set_set]; rfl
                  obtain ⟨g', cap', x', cur9, hv9, -, -, hfz, -, t1, -⟩ := HD.out.own.at_row hbj
                  have hvv := HVB.out.symm.trans hv9
                  simp only [Value.slice.injEq, Option.some.injEq, Addr.mk.injEq, and_true] at hvv
                  obtain ⟨rfl, -, -⟩ := hvv
                  have t2 : wi.cell? ⟨g, i * 4 + 1, none⟩ = some (.int .i64 (k : Int)) := by rw [t1]; show some (Value.int .i64 b.used) = _; rw [HUSE.out]
                  have t3 := hfz (i * 4 + 1)
                  obtain ⟨st1, st2⟩ := hm4.fin
                  have ld1 := hm4.box.load rfl
                  have HFIN := Lib.hid st2
                  have hw : Hid ((0 : Int) = 0 ∧ (blkAt c (i : Int).toNat).bad = false ∧ (blkAt c (i : Int).toNat).used = (k : Int)) := ⟨rfl, by rw [show blkAt c (i : Int).toNat = b from E1.out]; exact HBAD.out, by rw [show blkAt c (i : Int).toNat = b from E1.out]; exact HUSE.out⟩
                  have HD1 : Hid (X = { c.counted with blocks := (c.blocks.set i (b.setPage k ((progBytes mk p).take j ++ l.drop j))).set i (progBlk b k mk p) }) := by
                    show _ = _
                    rw [(HDONE.out (by have := hw.out.2; first | exact ⟨rfl, this⟩ | exact ⟨trivial, this⟩)).1, hst, HMK.out]
                    show c.counted.setBlk i (progBlk (blkAt c i) k _ p) = _
                    rw [show blkAt c i = b from E1.out]
                    rfl
                  have HER : Hid (er = e0) := by show _ = _; rw [(HDONE.out (by have := hw.out.2; first | exact ⟨rfl, this⟩ | exact ⟨trivial, this⟩)).2, HE0.out]
                  unfold chipCells at st1 ld1
                  dsimp only at st1 ld1
                  clear hbj hkj hlj hil2 hdone hm4 hst hv9 hfz t1 st2
                  go_wp2
                  refine bodyPost_ret (v := .tuple #[.agg (chipCells { c.counted with blocks := (c.blocks.set i (b.setPage k ((progBytes mk p).take j ++ l.drop j))).set i (progBlk b k mk p) } vb vf), .int .i64 e0]) (out2 rfl HFIN.out.1 rfl _ rfl rfl) rfl ?_
                  exact ⟨_, by rw [HER.out], by rw [HD1.out]; exact HFIN.out.2.1, HFIN.out.2.2⟩
            · have HW : Hid ((0 : Int) = 0 ∧ ((blkAt c (i : Int).toNat).bad = true ∨ (blkAt c (i : Int).toNat).used ≠ (k : Int))) := ⟨rfl, .inr (by rw [show blkAt c (i : Int).toNat = b from E1.out]; exact huse)⟩
              clear hbad cw c0
              have HCH : Hid (X = c) := by show _ = _; exact (HWORN.out HW.out).1
              have HER : Hid (er = 9) := by show _ = _; exact (HWORN.out HW.out).2
              obtain ⟨st1, st2⟩ := HM2.out.fin
              have ld1 := HM2.out.box.load rfl
              have HFIN := Lib.hid st2
              unfold chipCells at st1 ld1
              clear st2
              go_wp2
              refine bodyPost_ret (v := .tuple #[.agg (chipCells c vb vf), .int .i64 9]) (out2 rfl HFIN.out.1 rfl _ rfl rfl) rfl ?_
              exact ⟨_, by rw [HER.out], by rw [HCH.out]; exact HFIN.out.2.1, HFIN.out.2.2⟩
      · have hmay : mayProg c block page p = false := by rw [HMP.out, decide_eq_false ho, Bool.and_false]
        obtain rfl : z = 1 := hzn.out _ hmay
        have hz1 : (1 : Int) = askedN c.off false := rfl
        have hls : ((n : Int) == c.size) = true := by simpa using hl
        unfold top at ho
        clear hmay hl
        have L := regB HM.out.arg rfl
        unfold chipCells at L
        have k1 := fun (d : Nat) (os : Array Obj) => cell_regrown (show W.cell? ⟨w.heap.size, 1, none⟩ = some (.int .i64 c.size) by rw [HM.out.arg.cell]; rfl) d os
        have k3 := fun (d : Nat) (os : Array Obj) => cell_regrown (show W.cell? ⟨w.heap.size, 3, none⟩ = some (.int .i64 c.ops) by rw [HM.out.arg.cell]; rfl) d os
        have C1 := fun (d : Nat) (os : Array Obj) => Calls.regrown_of (hasPage_any c (chipV c va vfa) block page (grow (redrawn W d) os) (HRW.out.later (below_regrown W d os)))
        have C2 := fun (d : Nat) (os : Array Obj) => Calls.regrown_of (asked_any c va vfa false (grow (redrawn W d) os))
        rw [hp] at C1
        rw [show askedN c.off false = 1 from hz1.symm] at C2
        clear hp
        unfold chipV at C1 C2
        refine wp_region_quiet_below (by kernel_rfl) (by kernel_rfl) ?_
        repeat (go_big_quiet_step (first | exact C1 _ _ | exact C2 _ _))
        refine wpQuiet_nil fun w2 hw2 => ?_
        have hb2 : Below W.heap.size W w2 := by
          obtain ⟨p, rfl⟩ := hw2
          exact below_regrown W p.d p.os
        clear hw2 L C1 C2 k1 k3
        have HCH : Hid (X = c) := by show _ = _; exact HCHB.out (by decide)
        have HER : Hid (er = 1) := by show _ = _; exact HERB.out (by decide)
        have hm2 := HM.out.later hb2
        obtain ⟨st1, st2⟩ := hm2.fin
        have ld1 := hm2.box.load rfl
        have HFIN := Lib.hid st2
        unfold chipCells at st1 ld1
        rw [← HBS.out]
        clear st2 hm2 hb2
        go_wp2
        refine bodyPost_ret (v := .tuple #[.agg (chipCells c vb vf), .int .i64 1]) (out2 rfl HFIN.out.1 rfl _ rfl rfl) rfl ?_
        exact ⟨_, by rw [HER.out], by rw [HCH.out]; exact HFIN.out.2.1, HFIN.out.2.2⟩
    · have hmay : mayProg c block page p = false := by rw [HMP.out, decide_eq_false hl, Bool.and_false]; rfl
      obtain rfl : z = 1 := hzn.out _ hmay
      have hz1 : (1 : Int) = askedN c.off false := rfl
      have hls : ((n : Int) == c.size) = false := by simpa using hl
      clear hmay hl
      have L := regB HM.out.arg rfl
      unfold chipCells at L
      have k1 := fun (d : Nat) (os : Array Obj) => cell_regrown (show W.cell? ⟨w.heap.size, 1, none⟩ = some (.int .i64 c.size) by rw [HM.out.arg.cell]; rfl) d os
      have k3 := fun (d : Nat) (os : Array Obj) => cell_regrown (show W.cell? ⟨w.heap.size, 3, none⟩ = some (.int .i64 c.ops) by rw [HM.out.arg.cell]; rfl) d os
      have C1 := fun (d : Nat) (os : Array Obj) => Calls.regrown_of (hasPage_any c (chipV c va vfa) block page (grow (redrawn W d) os) (HRW.out.later (below_regrown W d os)))
      have C2 := fun (d : Nat) (os : Array Obj) => Calls.regrown_of (asked_any c va vfa false (grow (redrawn W d) os))
      rw [hp] at C1
      rw [show askedN c.off false = 1 from hz1.symm] at C2
      clear hp
      unfold chipV at C1 C2
      refine wp_region_quiet_below (by kernel_rfl) (by kernel_rfl) ?_
      repeat (go_big_quiet_step (first | exact C1 _ _ | exact C2 _ _))
      refine wpQuiet_nil fun w2 hw2 => ?_
      have hb2 : Below W.heap.size W w2 := by
        obtain ⟨p, rfl⟩ := hw2
        exact below_regrown W p.d p.os
      clear hw2 L C1 C2 k1 k3
      have HCH : Hid (X = c) := by show _ = _; exact HCHB.out (by decide)
      have HER : Hid (er = 1) := by show _ = _; exact HERB.out (by decide)
      have hm2 := HM.out.later hb2
      obtain ⟨st1, st2⟩ := hm2.fin
      have ld1 := hm2.box.load rfl
      have HFIN := Lib.hid st2
      unfold chipCells at st1 ld1
      rw [← HBS.out]
      clear st2 hm2 hb2
      go_wp2
      refine bodyPost_ret (v := .tuple #[.agg (chipCells c vb vf), .int .i64 1]) (out2 rfl HFIN.out.1 rfl _ rfl rfl) rfl ?_
      exact ⟨_, by rw [HER.out], by rw [HCH.out]; exact HFIN.out.2.1, HFIN.out.2.2⟩
end Go.Proofs.Ytilgppijmkcomaa.Chip
