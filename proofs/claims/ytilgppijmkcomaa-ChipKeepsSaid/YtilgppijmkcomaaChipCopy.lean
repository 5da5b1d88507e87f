/- chip.copied: a chip of new memory that reads the same. -/
import Derived.Test.YtilgppijmkcomaaChipBox
import Derived.OwnWalk
namespace Go.Proofs.Ytilgppijmkcomaa.Chip
open Go.RowKit Go.Sort Go.Shelf
attribute [local go_sem ↓] loadVar_chip storeVar_chip

def Small (c : Chp) : Prop := c.blocks.length ≤ 65536 ∧ c.faults.length ≤ 65536 ∧ ∀ b ∈ c.blocks, b.pages.length ≤ 65536 ∧ ∀ p ∈ b.pages, p.length ≤ 65536
def CopyPost (w : World) (c : Chp) (e : Ending) (w' : World) : Prop := ∃ vb vf T, e = .returned (chipV c vb vf) ∧ OwnK w' w.heap.size vb T c.blocks ∧ OwnF w' w.heap.size vf c.faults ∧ Below w.heap.size w w'

theorem copied_out {W : World} {b : Nat} {cs : Array Value} (h : Box W b cs) (h6 : cs.size = 6) (tmps : Array Value) (h2 : tmps.getD 2 undef = .pointer (some ⟨b, 0, none⟩)) :
    (results Try.f18 tmps).run Try.prog W = .ok (.agg cs) W := by
  have e1 : (loadVar 27 ⟨b, 0, none⟩).run Try.prog W = .ok (.agg cs) W := h.load h6
  unfold results
  rw [show Try.f18.results = #[ResultVar.cell 2 27] from rfl]
  simp only [Array.getD_eq_getD_getElem?] at h2
  simp [h2, asAddr, e1]

set_option maxHeartbeats 4000000 in
set_option maxRecDepth 100000 in
theorem copied_any (c : Chp) (hs : Small c) (v : Value) (w : World) (hR : RdC w v c) :
    Calls Try.prog 18 #[v] w (CopyPost w c) := by
  obtain ⟨vb, vf, rfl, hK, hF⟩ := hR
  obtain ⟨xs, hX, hXr⟩ := hK
  obtain ⟨s1, s2, s3⟩ := hs
  have hst := Cp.start w (chipCells c vb vf)
  have hvf := hF
  obtain ⟨af, cf, hvf, -, -⟩ := RdRow.len hF
  obtain ⟨ab, cb, hvb, -, -⟩ := RdRow.len hXr
  have HC1 : Hid (∀ W, Below w.heap.size w W → Calls Try.prog 19 #[vf] W (RowPost 56 4 W c.faults.length (flAll c.faults))) := fun W h =>
    cloneF_any c.faults.length (flAll c.faults) (flAll_length _) (flAll_ones _) s2 vf W (hF.later h)
  have HC2 : Hid (∀ W, Below w.heap.size w W → Calls Try.prog 31 #[vb] W (RowPost 40 4 W c.blocks.length (bkAll xs c.blocks))) := fun W h =>
    cloneK_any c.blocks.length (bkAll xs c.blocks) (bkAll_length _ _ (f2_len hX)) (bkAll_ones _ _ (f2_ones' hX fun _ _ h => rdP_one h)) s1 vb W (hXr.later h)
  have HXS : Hid (∀ (W : World) (i : Nat) (x : Value), Below w.heap.size w W → xs[i]? = some x → ∃ b : Blk, c.blocks[i]? = some b ∧ RdP W x b.pages ∧ b.pages.length ≤ 65536 ∧ ∀ p ∈ b.pages, p.length ≤ 65536) := fun W i x h hx => by
    obtain ⟨b, hb, hp⟩ := f2_right hX hx
    obtain ⟨t1, t2⟩ := s3 b (List.mem_of_getElem? hb)
    exact ⟨b, hb, hp.later h, t1, t2⟩
  have HXL := Lib.hid (f2_len hX)
  have HS1 := Lib.hid s1
  have H0 : Hid (Cp w (chipCells c vb vf) ((w.alloc (.cells (chipCells c vb vf) 27)).alloc (.cells zc 27))) := hst
  clear hF hX hXr s1 s2 s3 hst
  unfold CopyPost RowPost at *
  unfold chipCells zc at H0
  unfold chipV
  obtain ⟨W0, hW0⟩ : ∃ W0, W0 = (w.alloc (.cells #[.int .i64 c.pages, .int .i64 c.size, vb, .int .i64 c.ops, .bool c.off, vf] 27)).alloc (.cells #[.int .i64 0, .int .i64 0, .slice none 0 0, .int .i64 0, .bool false, .slice none 0 0] 27) := ⟨_, rfl⟩
  have HW0 := Lib.hid hW0
  rw [← hW0] at H0
  clear hW0
  subst hvf
  subst hvb
  go_enter Try.func18, Try.ntmps18
  go_wp2_with fail
  rw [← HW0.out]
  refine (HC1.out _ H0.out.bel).mono ?_
  rintro e w1 ⟨v1, rfl, ho1, hb1⟩
  obtain ⟨a1, c1, hv1, -, -⟩ := RdRow.len (own_rdRow ho1)
  subst hv1
  have hq := H0.out.later hb1
  have q1 : w1.cell? ⟨w.heap.size, 5, none⟩ = some (.slice af c.faults.length cf) := by rw [hq.box.cell]; rfl
  have q2 := hq.box.frozen 5
  have hq2 := hq.setc 5 (.slice a1 c.faults.length c1)
  have q3 : (w1.setCell ⟨w.heap.size, 5, none⟩ (.slice a1 c.faults.length c1)).cell? ⟨w.heap.size, 2, none⟩ = some (.slice ab c.blocks.length cb) := by rw [hq2.box.cell]; rfl
  have ho2 : OwnF (w1.setCell ⟨w.heap.size, 5, none⟩ (.slice a1 c.faults.length c1)) (w.heap.size + 2) (.slice a1 c.faults.length c1) c.faults := ownsRow_setCell_below (own_mono ho1 H0.out.size) (by show w.heap.size < _; omega) _
  obtain ⟨W2, hW2⟩ : ∃ W2, W2 = w1.setCell ⟨w.heap.size, 5, none⟩ (.slice a1 c.faults.length c1) := ⟨_, rfl⟩
  have HW2 := Lib.hid hW2
  rw [← hW2] at hq2 ho2
  have Q2 : Hid (Cp w #[.int .i64 c.pages, .int .i64 c.size, .slice ab c.blocks.length cb, .int .i64 c.ops, .bool c.off, .slice a1 c.faults.length c1] W2) := hq2
  have HO2 := Lib.hid ho2
  clear hW2 hq hq2 ho2 hb1 ho1
  go_wp2_with fail
  clear q1 q2 q3
  rw [← HW2.out]
  refine (HC2.out _ Q2.out.bel).mono ?_
  rintro e w3 ⟨v3, rfl, ho3, hb3⟩
  obtain ⟨a3, c3, hv3, -, -⟩ := RdRow.len (own_rdRow ho3)
  subst hv3
  have hq := Q2.out.later hb3
  have q1 : w3.cell? ⟨w.heap.size, 2, none⟩ = some (.slice ab c.blocks.length cb) := by rw [hq.box.cell]; rfl
  have q2 := hq.box.frozen 2
  have hq2 := hq.setc 2 (.slice a3 c.blocks.length c3)
  have q3 : (w3.setCell ⟨w.heap.size, 2, none⟩ (.slice a3 c.blocks.length c3)).cell? ⟨w.heap.size, 2, none⟩ = some (.slice a3 c.blocks.length c3) := by rw [hq2.box.cell]; rfl
  have ho4 : OwnX (w3.setCell ⟨w.heap.size, 2, none⟩ (.slice a3 c.blocks.length c3)) (w.heap.size + 2) (.slice a3 c.blocks.length c3) xs c.blocks := ownsRow_setCell_below (own_mono ho3 Q2.out.size) (by show w.heap.size < _; omega) _
  have ho5 : OwnF (w3.setCell ⟨w.heap.size, 2, none⟩ (.slice a3 c.blocks.length c3)) (w.heap.size + 2) (.slice a1 c.faults.length c1) c.faults := ownsRow_setCell_below (own_later HO2.out hb3) (by show w.heap.size < _; omega) _
  obtain ⟨W4, hW4⟩ : ∃ W4, W4 = w3.setCell ⟨w.heap.size, 2, none⟩ (.slice a3 c.blocks.length c3) := ⟨_, rfl⟩
  have HW4 := Lib.hid hW4
  rw [← hW4] at hq2 ho4 ho5
  have Q4 : Hid (Cp w #[.int .i64 c.pages, .int .i64 c.size, .slice a3 c.blocks.length c3, .int .i64 c.ops, .bool c.off, .slice a1 c.faults.length c1] W4) := hq2
  have HO4 := Lib.hid (Part.start ho4)
  have HO5 := Lib.hid ho5
  obtain ⟨n, hn⟩ : ∃ n, n = c.blocks.length := ⟨_, rfl⟩
  have HN := Lib.hid hn
  rw [← hn] at q1 q3 HW4 Q4 HO4
  have hs1 : (n : Int) ≤ 65536 := by have := HS1.out; omega
  clear hW4 hq hq2 ho4 ho5 hb3 ho3 HC1 HC2 HW0 HW2 H0 Q2 HO2
  rw [← hn]
  clear hn
  go_wp2
  rw [← HW4.out]
  clear q1 q2 q3
  go_loopw [3, 4, 5, 6, 18] (fun _ _ _ _ t wr => ∃ i : Nat, i ≤ n ∧ t = .int .i64 i ∧ Hid (Cp w #[.int .i64 c.pages, .int .i64 c.size, .slice a3 n c3, .int .i64 c.ops, .bool c.off, .slice a1 c.faults.length c1] wr) ∧ Hid (OwnF wr (w.heap.size + 2) (.slice a1 c.faults.length c1) c.faults) ∧ Hid (∃ T, T.length = i ∧ Part wr (w.heap.size + 2) (.slice a3 n c3) T xs c.blocks)) (fun _ _ _ _ t _ => n - (intOf t).toNat)
  case atStart => exact ⟨0, Nat.zero_le _, rfl, Q4, HO5, [], rfl, HO4.out⟩
  case round =>
    obtain ⟨i, hi, rfl, HQ, HFO, HT⟩ := hrel
    obtain ⟨wo, hwo⟩ : ∃ wo, wo = wr := ⟨_, rfl⟩
    subst hwo
    clear Q4 HO5 HO4 HW4
    by_cases hlt : i < n
    · have hltI : (i : Int) < n := by omega
      have hi0 : (0 : Int) ≤ i := by omega
      obtain ⟨T, hT, hP⟩ := HT.out
      obtain ⟨gk, ck, hvk, hgk, -, hbk, -⟩ := own_form hP.row (by rw [← HN.out]; omega)
      rw [← HN.out] at hvk
      simp only [Value.slice.injEq, true_and] at hvk
      obtain ⟨rfl, rfl⟩ := hvk
      obtain ⟨x, hx⟩ : ∃ x, xs[i]? = some x := ⟨xs[i]'(by rw [HXL.out, ← HN.out]; exact hlt), List.getElem?_eq_getElem _⟩
      obtain ⟨b, hb, ⟨ys, hF2, hrow⟩, hm16, hp16⟩ := HXS.out wo i x HQ.out.bel hx
      have cx : wo.cell? ⟨gk, i * 4, none⟩ = some x := by
        have h1 : (T.map (·.1) ++ xs.drop T.length)[i]? = some x := by
          rw [List.getElem?_append_right (by simp [hT]), List.getElem?_drop, List.length_map, hT]; simpa using hx
        have h2 := hP.row
        unfold OwnX at h2
        rw [← HN.out] at h2
        rw [World.ownsRow.cellAt h2 (i * 4) (by omega)]
        have := bkAll_at h1 hb (j := 0) (by omega)
        simpa [bkC] using this
      have cb2 : wo.cell? ⟨w.heap.size, 2, none⟩ = some (.slice (some ⟨gk, 0, none⟩) n c3) := by rw [HQ.out.box.cell]; rfl
      obtain ⟨ax, cx', hvx, -, -⟩ := hrow.len
      have HC3 := Lib.hid (cloneU_any b.pages.length ys (by rw [f2_len hF2]; omega) (f2_ones hF2 fun _ _ h => rdB_one h) hm16 x wo hrow)
      obtain ⟨m, hm⟩ : ∃ m, m = b.pages.length := ⟨_, rfl⟩
      have HM := Lib.hid hm
      rw [← hm] at HC3 hvx hm16
      have HYS : Hid (F2 (RdB wo) ys b.pages) := hF2
      have HPP : Hid (Part wo (w.heap.size + 2) (.slice (some ⟨gk, 0, none⟩) n c3) T xs c.blocks) := hP
      have HTL := Lib.hid hT
      have HXI := Lib.hid hx
      have HB := Lib.hid hb
      have HP16 := Lib.hid hp16
      have hm16I : (m : Int) ≤ 65536 := by omega
      subst hvx
      unfold RowPost at HC3
      clear hT hP hb hp16 hF2 hm hrow hx HT hm16 hbk hgk
      go_wp2_with (go_at_call 32; refine HC3.out.mono ?_; rintro e wp ⟨vp, rfl, hop, hbp⟩; obtain ⟨ap, cp, hvp, -, -⟩ := RdRow.len (own_rdRow hop); subst hvp; have HOP := Lib.hid hop; have HBP := Lib.hid hbp; clear hop hbp cx cb2)
      go_loopw [5, 6, 30] (fun _ _ t wi => ∃ k : Nat, k ≤ m ∧ t = .int .i64 k ∧ Hid (Below wo.heap.size wo wi) ∧ Hid (∃ us, us.length = k ∧ OwnU wi wo.heap.size (.slice ap m cp) (us ++ ys.drop k) ∧ F2 (OwnB wi wo.heap.size) us (b.pages.take k) ∧ Sep1 us)) (fun _ _ t _ => m - (intOf t).toNat)
      case atStart =>
        refine ⟨0, Nat.zero_le _, rfl, HBP, [], rfl, ?_, ⟨by simp, fun j a b' ha => by simp at ha⟩, fun j j' a b' g ha => by simp at ha⟩
        have h1 := HOP.out
        have h2 : ([] ++ ys.drop 0).length = m := by rw [List.drop_zero, List.nil_append, f2_len HYS.out, HM.out]
        unfold OwnU
        rw [h2, List.drop_zero, List.nil_append]
        exact h1
      case round =>
        obtain ⟨k, hk, rfl, HBI, HU⟩ := hrel
        obtain ⟨wi, hwi⟩ : ∃ wi, wi = wr := ⟨_, rfl⟩
        subst hwi
        clear HOP HBP HC3
        by_cases hlt2 : k < m
        · have hlt2I : (k : Int) < m := by omega
          have hk0 : (0 : Int) ≤ k := by omega
          obtain ⟨us, hus, hU, hF, hS⟩ := HU.out
          have hul : (us ++ ys.drop k).length = b.pages.length := by rw [List.length_append, List.length_drop, hus, f2_len HYS.out, ← HM.out]; omega
          obtain ⟨gp, cp', hvp, -, -, hbp, -⟩ := own_form hU (by rw [hul, ← HM.out]; omega)
          rw [hul, ← HM.out] at hvp
          simp only [Value.slice.injEq, true_and] at hvp
          obtain ⟨rfl, rfl⟩ := hvp
          obtain ⟨y, hy⟩ : ∃ y, ys[k]? = some y := ⟨ys[k]'(by rw [f2_len HYS.out, ← HM.out]; exact hlt2), List.getElem?_eq_getElem _⟩
          obtain ⟨p, hp, hyp⟩ := f2_right HYS.out hy
          have hyp' := hyp.later HBI.out
          obtain ⟨ay, cy, hvy, -, -⟩ := hyp'.len
          have hp16 := HP16.out p (List.mem_of_getElem? hp)
          have cy1 : wi.cell? ⟨gp, k, none⟩ = some y := by
            have h2 := hU
            unfold OwnU at h2
            rw [hul, ← HM.out] at h2
            rw [World.ownsRow.cellAt h2 k (by omega), List.getElem?_append_right (by omega), List.getElem?_drop, hus]
            simpa using hy
          have hfr : wi.frozen? ⟨gp, k, none⟩ = false := by
            have h2 := hU
            unfold OwnU at h2
            rw [hul, ← HM.out] at h2
            exact World.ownsRow.frozenAt h2 k
          have hgl : gp < wi.heap.size := (lt_own hU (g := gp) rfl).2
          have HC4 := Lib.hid (cloneY_any p.length (cellsB p) (by rw [cellsB_length, Nat.mul_one]) (fun u hu => cellsB_one p u hu) hp16 y wi hyp')
          unfold RowPost at HC4
          have HU1 : Hid (OwnU wi wo.heap.size (.slice (some ⟨gp, 0, none⟩) b.pages.length cp) (us ++ ys.drop k)) := by show OwnU _ _ _ _; rw [← HM.out]; exact hU
          have HUS := Lib.hid hus
          have HF := Lib.hid hF
          have HS := Lib.hid hS
          have HP := Lib.hid hp
          subst hvy
          clear hU hus hF hS hul hbp hy hp hyp hyp' hp16 HU
          go_wp2_with (go_at_call 24; refine HC4.out.mono ?_; rintro e wz ⟨vz, rfl, hoz, hbz⟩; obtain ⟨az, cz, hvz, -, -⟩ := RdRow.len (own_rdRow hoz); subst hvz; have cy2 := keep_cell cy1 hbz; have hfr2 : wz.frozen? ⟨gp, k, none⟩ = false := ((bcell hbz).2 gp k hgl).trans hfr; have HSTEP := Lib.hid (inner_step (f2_len HYS.out) HU1.out HUS.out HP.out HF.out HS.out HBI.out hoz hbz); clear hoz hbz)
          go_roundw
          case rel =>
            obtain ⟨t1, t2, t3, t4⟩ := HSTEP.out
            refine ⟨k + 1, by omega, by go_num, t4, _, ?_, ?_, t2, t3⟩
            · rw [List.length_append, HUS.out]; rfl
            · rw [← HM.out] at t1; exact t1
          case measure => simp [intOf]; omega
        · obtain rfl : k = m := by omega
          obtain ⟨us, hus, hU, hF, hS⟩ := HU.out
          rw [List.drop_of_length_le (by rw [f2_len HYS.out, ← HM.out]; exact Nat.le_refl _), List.append_nil] at hU
          rw [List.take_of_length_le (by rw [HM.out]; exact Nat.le_refl _)] at hF
          have hsz := HQ.out.size
          obtain ⟨hstep, hbk⟩ := outer_step (HXL.out) (by rw [← HN.out]; exact HPP.out) HTL.out HB.out hsz hU hF hS HBI.out
          have hq := HQ.out.later HBI.out
          have q1 : wi.cell? ⟨w.heap.size, 2, none⟩ = some (.slice (some ⟨gk, 0, none⟩) n c3) := by rw [hq.box.cell]; rfl
          have hrow := HPP.out.row
          have cx : wi.cell? ⟨gk, i * 4, none⟩ = some (.slice ax k cx') := by
            have h1 : (T.map (·.1) ++ xs.drop T.length)[i]? = some (.slice ax k cx') := by
              rw [List.getElem?_append_right (by simp [HTL.out]), List.getElem?_drop, List.length_map, HTL.out]; simpa using HXI.out
            have h2 := own_later hrow HBI.out
            rw [← HN.out] at h2
            rw [World.ownsRow.cellAt h2 (i * 4) (by omega)]
            have := bkAll_at h1 HB.out (j := 0) (by omega)
            simpa [bkC] using this
          have fx : wi.frozen? ⟨gk, i * 4, none⟩ = false := by
            have h2 := own_later hrow HBI.out
            rw [← HN.out] at h2
            exact World.ownsRow.frozenAt h2 _
          have HSTEP : Hid (Part (wi.setCell ⟨gk, i * 4, none⟩ (.slice ap k cp)) (w.heap.size + 2) (.slice (some ⟨gk, 0, none⟩) n c3) (T ++ [(.slice ap k cp, us)]) xs c.blocks) := by show Part _ _ _ _ _ _; rw [HN.out]; exact hstep
          have HQN := Lib.hid (hq.seto (i * 4) (.slice ap k cp) hbk)
          have HFN : Hid (OwnF (wi.setCell ⟨gk, i * 4, none⟩ (.slice ap k cp)) (w.heap.size + 2) (.slice a1 c.faults.length c1) c.faults) := by
            have h2 := own_later hrow HBI.out
            obtain ⟨cur, hcur⟩ := own_block h2 (g := gk) rfl
            have h3 := own_later HFO.out HBI.out
            exact World.ownsRow.kept h3 (grown_set _ _ _ _) (.inr (own_apart h3 hcur (by decide)))
          clear hU hF hS hus hq hrow hstep hbk HU hsz
          go_wp2
          go_roundw
          case rel => exact ⟨i + 1, by omega, by go_num, HQN, HFN, _, by rw [List.length_append, HTL.out]; rfl, HSTEP.out⟩
          case measure => simp [intOf]; omega
    · obtain rfl : i = n := by omega
      obtain ⟨T, hT, hP⟩ := HT.out
      have hK := hP.done HXL.out (by rw [hT]; exact HN.out)
      have e1 := HQ.out.box.load rfl
      have hone := one6 c (vb := .slice a3 i c3) (vf := .slice a1 c.faults.length c1) rfl rfl
      have e2 := HQ.out.res.store rfl rfl hone
      have HBX := Lib.hid (HQ.out.res.row (chipCells c (.slice a3 i c3) (.slice a1 c.faults.length c1)))
      have HKN := Lib.hid ((hK.setRow (chipCells c (.slice a3 i c3) (.slice a1 c.faults.length c1)) (g := w.heap.size + 1) (by omega)).mono (base' := w.heap.size) (by omega))
      have HFN : Hid (OwnF (wo.setRow (w.heap.size + 1) (chipCells c (.slice a3 i c3) (.slice a1 c.faults.length c1))) w.heap.size (.slice a1 c.faults.length c1) c.faults) := own_mono (own_setRow HFO.out _ (fun he => by have := (lt_own HFO.out he).1; omega)) (by omega)
      have HBN := Lib.hid (below_setRow HQ.out.bel (by omega : w.heap.size ≤ w.heap.size + 1) (chipCells c (.slice a3 i c3) (.slice a1 c.faults.length c1)))
      unfold chipCells at e2
      clear hT hP hK HT hone
      go_wp2
      refine bodyPost_ret (v := .agg (chipCells c (.slice a3 i c3) (.slice a1 c.faults.length c1))) (copied_out HBX.out rfl _ rfl) rfl ?_
      exact ⟨_, _, _, rfl, HKN.out, HFN.out, HBN.out⟩
end Go.Proofs.Ytilgppijmkcomaa.Chip
