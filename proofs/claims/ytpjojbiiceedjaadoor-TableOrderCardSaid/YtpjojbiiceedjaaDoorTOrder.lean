/- The statement TableOrder, walked: every call of it hands back true. -/
import Derived.Test.YtpjojbiiceedjaaDoorTabAwakeW
import Derived.Test.YtpjojbiiceedjaaDoorTabLaws
import Derived.Test.YtpjojbiiceedjaaDoorOrdP
import Derived.Deep.CutBlock
import Derived.Deep.RegionHeld3
namespace Go.Proofs.YtpjojbiiceedjaaDoor.tableOrder
open Go.RowKit Go.Sort Go.Shelf
attribute [local go_sem ↓] loadVar_key loadVar_pre loadVar_route storeVar_pre storeVar_route build_pre build_route build_key build_change buildSlice_rows buildSlice_chs binOp_rtNeq

theorem rts_ones (l : List Rt) : ∀ v ∈ fl l, v.oneCell' = true := fun v hv => by
  obtain ⟨r, _, h⟩ := List.mem_flatMap.1 hv
  exact rl_one r v h
theorem append_rts {w : World} {ops : Array Oper} {rest : List Oper} {o : Oper} {a : Act} {Q : Exit → Act → World → Prop} (hgd : o.guard = none) (s x : Operand)
    (ho : o.op = .call { callee := .builtin .append, args := #[s, x], argTypes := #[22, 22] }) (base : Nat) (v : Value) (n : Nat) (xs : List Value) (hs : a.eval s = v) (hown : w.ownsRow base 32 19 v n xs)
    (u : Value) (cs : List Rt) (hx : a.eval x = u) (hC : Rd w u cs) (hn : n + cs.length ≤ 65536) (hbase : base ≤ w.heap.size)
    (h : ∀ v' w', w'.ownsRow base 32 19 v' (n + cs.length) (xs ++ fl cs) → w.grownBy w' v.ownBlock → wpList Tryd.prog ops Q rest (a.put o.dst v') w') : wpList Tryd.prog ops Q (o :: rest) a w := by
  obtain ⟨i, h0, h1, h2, h3⟩ := infoR'
  rcases hC with ⟨rfl, rfl⟩ | ⟨ad, cap, rfl, h4, h5, hc⟩
  · exact wpList_append_own_none hgd s x 22 ho base 32 i 19 Tryd.underlying22 h0 v n xs hs hown hx (h v w (by simpa [fl] using hown) (grown_refl w _))
  · exact wpList_append_own w hgd s x 22 ho base 32 i (.agg (rc zrt)) 19 40 Tryd.underlying22 h0 h1 h2 h3 (rc_size _) (by decide) v n xs hs hown ad cs.length cap (fl cs) hx (fl_length cs) hc (rts_ones cs) (by simp only [maxLen]; omega) (by omega) hbase (fun v' w' a b _ => h v' w' a b)
theorem run_rows0 (w : World) : (rowsBuild 0 #[]).run Tryd.prog w = .ok (.slice (some ⟨w.heap.size, 0, none⟩) 0 0) (w.alloc (.cells #[] 32)) := by
  kernel_rfl
theorem run_rtNeq (r s : Rt) (w : World) : (rtNeq (.agg (rc r)) (.agg (rc s))).run Tryd.prog w = .ok (.bool (!rtEq r s)) w := by
  unfold rtNeq
  rw [run_neq_struct, run_eqRoute]; rfl
theorem rtEq_refl (r : Rt) : rtEq r r = true := by unfold rtEq; rw [preEq_refl]; simp

set_option maxHeartbeats 4000000 in
set_option maxRecDepth 100000 in
theorem walk_yes (t : List Rt) (us : List Nat) (vt vu : Value) (w : World) (hR : Rd w vt t) (hU : RdU w vu us) (hl : t.length ≤ 60) (hg : Good t) (hE : Rr.Env w) :
    Calls Tryd.prog 3 #[vt, vu] w fun e w' => e = .returned (.bool true) ∧ Below w.heap.size w w' := by
  have HR := Lib.hid hR
  have HU := Lib.hid hU
  have HG := Lib.hid hg
  have HE : Hid (∀ W, Below w.heap.size w W → Rr.Env W) := fun W h => hE.stay h (Nat.le_refl _)
  have H1 := Lib.hid (awake_any w)
  have H2 : Hid (∀ W, Rd W vt t → Calls Tryd.prog 5 #[vt] W fun e w' => e = .returned (.bool true) ∧ Below W.heap.size W w') := fun W h => by
    have := right_any t vt W h
    rw [(right_iff t).2 ⟨by omega, hg⟩] at this; exact this
  have b0 := run_rows0
  obtain ⟨at', capt, hv, -⟩ := rd_len hR
  obtain ⟨au, capu, hvu, hum⟩ := rdU_len hU
  obtain ⟨n, hn⟩ : ∃ n, n = t.length := ⟨_, rfl⟩
  obtain ⟨nu, hnu⟩ : ∃ nu, nu = us.length := ⟨_, rfl⟩
  rw [← hn] at hv hl
  rw [← hnu] at hvu hum
  unfold maxLen at hum
  have HN := Lib.hid hn
  have HNU := Lib.hid hnu
  have HL : Hid (n ≤ 60) := hl
  have hnI : (n : Int) ≤ 60 := by omega
  have huI : (nu : Int) ≤ 9223372036854775807 := by omega
  subst hv
  subst hvu
  clear hR hU hg hE hn hnu hl hum
  go_enter Tryd.func3, Tryd.ntmps3
  go_wp2_with fail
  refine H1.out.mono ?_
  rintro e1 w1 ⟨rfl, h1⟩
  have B1 := Lib.hid h1
  clear h1
  go_wp2_with fail
  refine (H2.out _ (HR.out.later B1.out)).mono ?_
  rintro e2 w2 ⟨rfl, h2⟩
  have B2 := Lib.hid (B1.out.trans (h2.mono B1.out.size))
  clear h2
  have oc := own_made0 w2
  have hal : Below w2.heap.size w2 (w2.alloc (.cells #[] 32)) := (Below.refl _ _).alloc (Nat.le_refl _) _
  have RA := Lib.hid ((HR.out.later B2.out).later hal)
  have HAL := Lib.hid hal
  have OC := Lib.hid oc
  clear hal oc
  go_wp2_with (at_builtin; refine append_rts rfl _ _ rfl w2.heap.size _ 0 [] rfl OC.out _ t rfl RA.out (by rw [← HN.out]; have := HL.out; omega) (by simp) ?_)
  intro vl w3 o3 g3
  have C3 : Hid (Below w2.heap.size w2 w3) := HAL.out.grown g3 HAL.out.size (fun k hk => by simp [Value.ownBlock] at hk; omega)
  have O3 : Own w3 w2.heap.size vl t := by unfold Own; simpa using o3
  have B3 : Hid (Below w.heap.size w w3) := B2.out.trans (C3.out.mono B2.out.size)
  obtain ⟨al, capl, hvl, -⟩ := rd_len O3.rd
  rw [← HN.out] at hvl
  have HO3 := Lib.hid O3
  subst hvl
  clear o3 g3 RA OC HAL O3
  obtain ⟨base, hbase⟩ : ∃ base, w2.heap.size = base := ⟨_, rfl⟩
  have HBS : Hid (w.heap.size ≤ base ∧ base ≤ w3.heap.size) := by rw [← hbase]; exact ⟨B2.out.size, C3.out.size⟩
  rw [hbase] at HO3
  clear hbase C3
  go_upto_block 0 with fail
  go_cut [6, 7, 8] from 30 to 70 (fun _ _ _ wx => ∃ L : List Rt, Hid (Own wx base (.slice al n capl) L) ∧ Hid (L.length = n) ∧ Hid (∀ r, r ∈ L ↔ r ∈ t) ∧ Hid (Below base w3 wx))
  case first =>
    go_wp2_with fail
    go_loopw [6, 7, 8] (fun s _ _ wr => ∃ (i : Nat) (L : List Rt), i ≤ 100 ∧ s = .int .i64 i ∧ Hid (Own wr base (.slice al n capl) L) ∧ Hid (L.length = n) ∧ Hid (∀ r, r ∈ L ↔ r ∈ t) ∧ Hid (Below base w3 wr)) (fun s _ _ _ => 100 - (intOf s).toNat)
    case atStart => exact ⟨0, t, Nat.zero_le _, rfl, HO3.out, HN.out.symm, fun r => Iff.rfl, Below.refl _ _⟩
    case round =>
      obtain ⟨i, L, hi, rfl, HO, HLL, HM, HW⟩ := hrel
      have hi0 : (0 : Int) ≤ i := by omega
      have hiI : (i : Int) ≤ 100 := by omega
      by_cases h1 : i < nu
      · have h1I : (i : Int) < nu := by omega
        by_cases h2 : i < 100
        · have h2I : (i : Int) < 100 := by omega
          by_cases h3 : 0 < n
          · have h3I : (0 : Int) < n := by omega
            obtain ⟨x, hx⟩ : ∃ x, us[i]? = some x := ⟨us[i]'(by rw [← HNU.out]; exact h1), List.getElem?_eq_getElem _⟩
            have hB3 : Below w.heap.size w wr := B3.out.trans (HW.out.mono HBS.out.1)
            obtain ⟨a0, capu', hau, hcu⟩ : ∃ a0 capu', au = some a0 ∧ ∀ k, (wr.drewN k).cell? (a0.add i) = some (.int .u8 (x : Nat)) ∧ x < 256 := by
              rcases HU.out.later hB3 with ⟨h, hnil⟩ | ⟨a0, cap', h, _, _, hc⟩
              · exfalso; rw [hnil] at hx; cases hx
              · simp only [Value.slice.injEq] at h
                exact ⟨a0, 0, h.1, fun k => ⟨(hc i x hx).2, (hc i x hx).1⟩⟩
            subst hau
            obtain ⟨g, cap', rest, hv, hat⟩ : ∃ g cap' rest, Value.slice al n capl = .slice (some ⟨g, 0, none⟩) n cap' ∧ OwnAt wr base g cap' L rest := by
              rcases HO.out.at' with ⟨h, hnil⟩ | ⟨g, cap', rest, h, hat⟩
              · simp only [Value.slice.injEq] at h; omega
              · rw [HLL.out] at h; exact ⟨g, cap', rest, h, hat⟩
            simp only [Value.slice.injEq] at hv
            obtain ⟨rfl, -, rfl⟩ := hv
            have hx256 := (hcu 0).2
            have hcell := fun k => (hcu k).1
            obtain ⟨a, ha⟩ : ∃ a, a = i % n := ⟨_, rfl⟩
            obtain ⟨b, hb⟩ : ∃ b, b = x % n := ⟨_, rfl⟩
            have han : a < n := by rw [ha]; exact Nat.mod_lt _ h3
            have hbn : b < n := by rw [hb]; exact Nat.mod_lt _ h3
            have hmA : Int.tmod (i : Int) n = (a : Nat) := by rw [ha]; rfl
            have hmB : Int.tmod (x : Int) n = (b : Nat) := by rw [hb]; rfl
            clear ha hb hcu hx
            have haI : (a : Int) < n := by omega
            have hbI : (b : Int) < n := by omega
            have ha0 : (0 : Int) ≤ a := by omega
            have hb0' : (0 : Int) ≤ b := by omega
            go_wp2
            go_quiet (fail)
            obtain ⟨wq, hwq⟩ : ∃ wq, wr.drewN nq = wq := ⟨_, rfl⟩
            have hatq : OwnAt wq base g capl L rest := by rw [← hwq]; exact ⟨hat.base, hat.row, hat.size, hat.le, hat.max⟩
            have HBQ : Hid (Below base w3 wq) := by
              rw [← hwq]
              have h := HW.out
              exact ⟨h.os, h.tape, h.output, h.size, h.block⟩
            rw [hwq]
            clear hwq
            obtain ⟨xa, k1⟩ : ∃ xa, L[a]? = some xa := ⟨L[a]'(by rw [HLL.out]; exact han), List.getElem?_eq_getElem _⟩
            obtain ⟨xb, k2⟩ : ∃ xb, L[b]? = some xb := ⟨L[b]'(by rw [HLL.out]; exact hbn), List.getElem?_eq_getElem _⟩
            have hd : SW wq g rest L wq.drew := ⟨grown_drew (grown_refl _ _), hatq.row⟩
            have l1 := hd.load k1
            have l2 := hd.load k2
            obtain ⟨X, Y, s1, s2, hsw⟩ := hd.swap (List.getElem?_eq_some_iff.1 k1).1 (List.getElem?_eq_some_iff.1 k2).1 xa xb
            have HO2 : Hid (Own ((wq.drew.setRow g X).setRow g Y) base (.slice (some ⟨g, 0, none⟩) n capl) ((L.set a xb).set b xa)) := by
              have := own_sw hatq hsw (by simp)
              rw [HLL.out] at this; exact this
            have HL2 : Hid (((L.set a xb).set b xa).length = n) := by show _ = _; rw [List.length_set, List.length_set, HLL.out]
            have HM2 : Hid (∀ r, r ∈ (L.set a xb).set b xa ↔ r ∈ t) := fun r => (swap_mem k1 k2 r).trans (HM.out r)
            have HB2 : Hid (Below base w3 ((wq.drew.setRow g X).setRow g Y)) := HBQ.out.grown hsw.grown (Nat.le_trans HBS.out.2 HBQ.out.size) (fun k hk => by simp at hk; rw [← hk]; exact hatq.base)
            have mixed : Tryd.prog.follows .mixedOrders = true := by kernel_rfl
            clear hd hsw k1 k2 hatq hat hcell hmA hmB
            go_wp2_with fail
            go_big_region_o
            all_goals go_wp2
            go_roundw
            case rel => exact ⟨i + 1, _, by omega, by go_num, HO2, HL2, HM2, HB2⟩
            case measure => simp [intOf]; omega
          · have h3I : ¬ (0 : Int) < n := by omega
            go_wp2
            go_meet
            exact ⟨L, HO, HLL, HM, HW⟩
        · have h2I : ¬ (i : Int) < 100 := by omega
          go_wp2
          go_meet
          exact ⟨L, HO, HLL, HM, HW⟩
      · have h1I : ¬ (i : Int) < nu := by omega
        go_wp2
        go_meet
        exact ⟨L, HO, HLL, HM, HW⟩
  case rest =>
    obtain ⟨L, HO, HLL, HM, HW⟩ := hcut
    have HLT : Hid (∀ W, Below wc.heap.size wc W → Rd W (.slice al n capl) L ∧ Below w.heap.size w W) := fun W h => ⟨HO.out.rd.later h, (B3.out.trans (HW.out.mono HBS.out.1)).trans (h.mono (Nat.le_trans HBS.out.1 (Nat.le_trans HBS.out.2 HW.out.size)))⟩
    obtain ⟨i0, hi0, hz0', hz1, hz2⟩ := infoR'
    have Q0 := Lib.hid hi0
    have Q1 := Lib.hid hz0'
    have Q2 := Lib.hid hz1
    have Q3 := Lib.hid hz2
    clear hi0 hz0' hz1 hz2 HO HW
    go_wp2
    go_loopw [9, 10, 11, 12, 13, 14] (fun s t' _ _ _ _ wr => ∃ i : Nat, i ≤ n ∧ t' = .int .i64 i ∧ Hid (Own wr wc.heap.size s (L.take i)) ∧ Hid (Below wc.heap.size wc wr)) (fun _ t' _ _ _ _ _ => n - (intOf t').toNat)
    case atStart => exact ⟨0, Nat.zero_le _, rfl, own_nil _ _, Below.refl _ _⟩
    case round =>
      obtain ⟨i, hi, rfl, HO, HW⟩ := hrel
      by_cases hlt : i < n
      · have hltI : (i : Int) < n := by omega
        have hi0 : (0 : Int) ≤ i := by omega
        obtain ⟨r, hrr⟩ : ∃ r, L[i]? = some r := ⟨L[i]'(by rw [HLL.out]; exact hlt), List.getElem?_eq_getElem _⟩
        obtain ⟨a', rfl, hca⟩ : ∃ a', al = some a' ∧ CellsAt wr a' (fl L) := by
          rcases (HLT.out wr HW.out).1 with ⟨h, hnil⟩ | ⟨a', cap', h, _, _, hc⟩
          · exfalso; rw [hnil] at hrr; cases hrr
          · simp only [Value.slice.injEq] at h
            exact ⟨a', h.1, hc⟩
        have lr := run_routeLoad (hca.route hrr)
        obtain ⟨c1, c2⟩ := line_same r (HG.out.may r ((HM.out r).1 (List.mem_of_getElem? hrr)))
        have C1 := Lib.hid (c1 wr (HE.out wr (HLT.out wr HW.out).2))
        have C2 := Lib.hid (fun W h => c2 W (HE.out W h))
        have htake : L.take (i + 1) = L.take i ++ [r] := by rw [List.take_add_one, hrr]; rfl
        have HTK := Lib.hid htake
        obtain ⟨o, ho⟩ : ∃ o, L.take i = o := ⟨_, rfl⟩
        have HOL : Hid (o.length ≤ 60) := by rw [← ho]; show (L.take i).length ≤ 60; rw [List.length_take]; have := HL.out; omega
        rw [ho] at HO HTK
        clear hca hrr c1 c2 htake ho
        go_wp2_with fail
        refine C1.out.mono ?_
        rintro e4 w4 ⟨rfl, h4⟩
        have B4 := Lib.hid (HW.out.trans (h4.mono HW.out.size))
        have HO4 := Lib.hid (HO.out.later h4)
        clear h4 lr
        go_wp2_with fail
        refine (C2.out w4 (HLT.out w4 B4.out).2).mono ?_
        rintro e5 w5 ⟨rfl, h5⟩
        have hst := run_routeStore_new r w5
        have hal : Below w5.heap.size w5 (w5.alloc (.cells (rc r) 32)) := (Below.refl _ _).alloc (Nat.le_refl _) _
        have hb5 := B4.out.trans (h5.mono B4.out.size)
        have hb6 := hb5.trans (hal.mono hb5.size)
        have ho6 := (HO4.out.later h5).later hal
        have lb := run_routeLoad (newRoute w5 r)
        obtain ⟨w6, hw6⟩ : ∃ w6, w5.alloc (.cells (rc r) 32) = w6 := ⟨_, rfl⟩
        have hbd : (rowsBuild 1 #[(0, .agg (rc r))]).run Tryd.prog w6 = .ok (.slice (some ⟨w6.heap.size, 0, none⟩) 1 1) (w6.alloc (.cells (rc r) 32)) := run_rowBuild r w6
        have hal7 : Below w6.heap.size w6 (w6.alloc (.cells (rc r) 32)) := (Below.refl _ _).alloc (Nat.le_refl _) _
        have hnew := newRoute w6 r
        rw [hw6] at hb6 ho6 lb hst
        have hown := ho6.later hal7
        have HW6 := Lib.hid hw6
        clear h5 hal hb5 hw6
        go_wp2_with (at_builtin; refine wpList_append_own _ rfl _ _ 22 rfl wc.heap.size 32 i0 (.agg (rc zrt)) 19 40 Tryd.underlying22 Q0.out Q1.out Q2.out Q3.out (rc_size _) (by decide) _ o.length (fl o) rfl hown ⟨w6.heap.size, 0, none⟩ 1 1 (rl r) rfl (rl_length r) hnew (rl_one r) (by have := HOL.out; simp only [maxLen]; omega) (by have := HOL.out; omega) (by have := hb6.size; simp; omega) ?_)
        intro vz wz hown' hg _
        have HBZ : Hid (Below wc.heap.size wc wz) := (hb6.trans (hal7.mono hb6.size)).grown hg (Nat.le_trans hb6.size hal7.size) (fun k hk => (hown.lt k hk).1)
        have HOZ : Hid (Own wz wc.heap.size vz (o ++ [r])) := by show Own _ _ _ _; unfold Own; rw [List.length_append, fl_append, fl_one]; exact hown'
        clear hown' hg hown hnew hal7 hb6 ho6 lb hbd hst
        go_wp2
        go_roundw
        case rel => exact ⟨i + 1, by omega, by go_num, by rw [HTK.out]; exact HOZ.out, HBZ.out⟩
        case measure => simp [intOf]; omega
      · obtain rfl : i = n := by omega
        have HO2 : Hid (Rd wr u9 L) := by
          have h := HO.out
          rw [List.take_of_length_le (by rw [HLL.out]; exact Nat.le_refl _)] at h
          exact h.rd
        have HSO := Lib.hid (sort_any L _ wr HO2.out (by rw [HLL.out]; have := HL.out; omega))
        unfold SortPost at HSO
        go_wp2_with fail
        refine HSO.out.mono ?_
        rintro e8 w8 ⟨vs, out, rfl, os, hsp, h8⟩
        have e := sort_mem HG.out HM.out hsp
        subst e
        have RS := os.rd
        have B8 : Hid (Below w.heap.size w w8) := (HLT.out w8 (HW.out.trans (h8.mono HW.out.size))).2
        obtain ⟨asl, caps, hvs, -⟩ := rd_len RS
        rw [← HN.out] at hvs
        subst hvs
        have HRS := Lib.hid RS
        clear RS os hsp h8
        go_wp2
        go_loopw [16] (fun t' wr => ∃ k : Nat, k ≤ i ∧ t' = .int .i64 k ∧ Hid (Below w8.heap.size w8 wr)) (fun t' _ => i - (intOf t').toNat)
        case atStart => exact ⟨0, Nat.zero_le _, rfl, Below.refl _ _⟩
        case round =>
          obtain ⟨k, hk, rfl, HWK⟩ := hrel
          by_cases hkt : k < i
          · have hktI : (k : Int) < i := by omega
            have hk0 : (0 : Int) ≤ k := by omega
            obtain ⟨r, hrr⟩ : ∃ r, out[k]? = some r := ⟨out[k]'(by rw [← HN.out]; exact hkt), List.getElem?_eq_getElem _⟩
            have HRR := Lib.hid hrr
            obtain ⟨b', rfl⟩ : ∃ b', asl = some b' := by
              rcases HRS.out with ⟨h, hnil⟩ | ⟨b', cap', h, _, _, _⟩
              · exfalso; rw [hnil] at hrr; cases hrr
              · simp only [Value.slice.injEq] at h; exact ⟨b', h.1⟩
            obtain ⟨a', rfl⟩ : ∃ a', at' = some a' := by
              rcases HR.out with ⟨h, hnil⟩ | ⟨b', cap', h, _, _, _⟩
              · exfalso; rw [hnil] at hrr; cases hrr
              · simp only [Value.slice.injEq] at h; exact ⟨b', h.1⟩
            have HB : Hid (∀ W, Below w8.heap.size w8 W → CellsAt W b' (fl out) ∧ CellsAt W a' (fl out)) := fun W h => by
              refine ⟨?_, ?_⟩
              · rcases HRS.out.later h with ⟨h2, -⟩ | ⟨a2, cap', h2, _, _, hc⟩
                · simp at h2
                · simp only [Value.slice.injEq, Option.some.injEq] at h2
                  obtain ⟨rfl, -, -⟩ := h2
                  exact hc
              · rcases HR.out.later (B8.out.trans (h.mono B8.out.size)) with ⟨h2, -⟩ | ⟨a2, cap', h2, _, _, hc⟩
                · simp at h2
                · simp only [Value.slice.injEq, Option.some.injEq] at h2
                  obtain ⟨rfl, -, -⟩ := h2
                  exact hc
            have hq := run_rtNeq r r
            rw [rtEq_refl] at hq
            clear hrr
            by_cases hz : k = 0
            · have HF : Hid (∀ W, Below wr.heap.size wr W → (routeLoad (b'.add (k * 19))).run Tryd.prog W = .ok (.agg (rc r)) W ∧ (routeLoad (a'.add (k * 19))).run Tryd.prog W = .ok (.agg (rc r)) W) := fun W h => by
                obtain ⟨h1, h2⟩ := HB.out W (HWK.out.trans (h.mono HWK.out.size))
                exact ⟨run_routeLoad (h1.route HRR.out), run_routeLoad (h2.route HRR.out)⟩
              have hd0 : decide ((0 : Int) < k) = false := by simp [hz]
              have hd1 : decide (0 < k) = false := by simp [hz]
              have HDR : Hid (Below w8.heap.size w8 wr.drew) := HWK.out.drew
              clear hz
              go_wp2
              refine wp_region_held_drew (S := (fun w' => (routeLoad (b'.add (k * 19))).run Tryd.prog w' = .ok (.agg (rc r)) w' ∧ (routeLoad (a'.add (k * 19))).run Tryd.prog w' = .ok (.agg (rc r)) w')) (by kernel_rfl) (HF.out _ (Below.refl wr.heap.size wr).drew) (fun hHeld => ?_)
              refine wpAnyH_take (i := 0) (oi := { dst := some 113, op := Go.Op.move (Go.Operand.tmp 15), type := 22, pos := "law.go:198", after := #[], guard := none }) (v := ?v0a) rfl (by kernel_rfl) (by kernel_rfl) (by kernel_rfl) (fun _ _ _ h => h) (Or.inl ⟨by rfl, ?hy0a⟩) (by assumption) ?rest0a
              case hy0a => intro w hSw; (try dsimp only at hSw); go_simp; try with_reducible rfl
              try simp only [Act.put, List.setIfInBounds_toArray, List.set_cons_zero, List.set_cons_succ]
              refine wpAnyH_take (i := 1) (oi := { dst := some 114, op := Go.Op.move (Go.Operand.tmp 16), type := 3, pos := "law.go:198", after := #[], guard := none }) (v := ?v1a) rfl (by kernel_rfl) (by kernel_rfl) (by kernel_rfl) (fun _ _ _ h => h) (Or.inl ⟨by rfl, ?hy1a⟩) (by assumption) ?rest1a
              case hy1a => intro w hSw; (try dsimp only at hSw); go_simp; try with_reducible rfl
              try simp only [Act.put, List.setIfInBounds_toArray, List.set_cons_zero, List.set_cons_succ]
              refine wpAnyH_take (i := 2) (oi := { dst := some 115, op := Go.Op.indexAddr 22 (Go.Operand.tmp 113) (Go.Operand.tmp 114), type := 0, pos := "law.go:198", after := #[{ on := 0, ground := Go.Ground.data }, { on := 1, ground := Go.Ground.data }], guard := none }) (v := ?v2a) rfl (by kernel_rfl) (by kernel_rfl) (by kernel_rfl) (fun _ _ _ h => h) (Or.inl ⟨by rfl, ?hy2a⟩) (by assumption) ?rest2a
              case hy2a => intro w hSw; (try dsimp only at hSw); go_simp; try with_reducible rfl
              try simp only [Act.put, List.setIfInBounds_toArray, List.set_cons_zero, List.set_cons_succ]
              refine wpAnyH_take (i := 3) (oi := { dst := some 116, op := Go.Op.load 32 (Go.Operand.tmp 115), type := 32, pos := "law.go:198", after := #[{ on := 2, ground := Go.Ground.data }], guard := none }) (v := ?v3a) rfl (by kernel_rfl) (by kernel_rfl) (by kernel_rfl) (fun _ _ _ h => h) (Or.inl ⟨by rfl, ?hy3a⟩) (by assumption) ?rest3a
              case hy3a => intro w hSw; (try dsimp only at hSw); go_simp; try with_reducible rfl
              try simp only [Act.put, List.setIfInBounds_toArray, List.set_cons_zero, List.set_cons_succ]
              refine wpAnyH_take (i := 4) (oi := { dst := some 117, op := Go.Op.move (Go.Operand.tmp 0), type := 22, pos := "law.go:198", after := #[], guard := none }) (v := ?v4a) rfl (by kernel_rfl) (by kernel_rfl) (by kernel_rfl) (fun _ _ _ h => h) (Or.inl ⟨by rfl, ?hy4a⟩) (by assumption) ?rest4a
              case hy4a => intro w hSw; (try dsimp only at hSw); go_simp; try with_reducible rfl
              try simp only [Act.put, List.setIfInBounds_toArray, List.set_cons_zero, List.set_cons_succ]
              refine wpAnyH_take (i := 5) (oi := { dst := some 118, op := Go.Op.move (Go.Operand.tmp 16), type := 3, pos := "law.go:198", after := #[], guard := none }) (v := ?v5a) rfl (by kernel_rfl) (by kernel_rfl) (by kernel_rfl) (fun _ _ _ h => h) (Or.inl ⟨by rfl, ?hy5a⟩) (by assumption) ?rest5a
              case hy5a => intro w hSw; (try dsimp only at hSw); go_simp; try with_reducible rfl
              try simp only [Act.put, List.setIfInBounds_toArray, List.set_cons_zero, List.set_cons_succ]
              refine wpAnyH_take (i := 6) (oi := { dst := some 119, op := Go.Op.indexAddr 22 (Go.Operand.tmp 117) (Go.Operand.tmp 118), type := 0, pos := "law.go:198", after := #[{ on := 4, ground := Go.Ground.data }, { on := 5, ground := Go.Ground.data }], guard := none }) (v := ?v6a) rfl (by kernel_rfl) (by kernel_rfl) (by kernel_rfl) (fun _ _ _ h => h) (Or.inl ⟨by rfl, ?hy6a⟩) (by assumption) ?rest6a
              case hy6a => intro w hSw; (try dsimp only at hSw); go_simp; try with_reducible rfl
              try simp only [Act.put, List.setIfInBounds_toArray, List.set_cons_zero, List.set_cons_succ]
              refine wpAnyH_take (i := 7) (oi := { dst := some 120, op := Go.Op.load 32 (Go.Operand.tmp 119), type := 32, pos := "law.go:198", after := #[{ on := 6, ground := Go.Ground.data }], guard := none }) (v := ?v7a) rfl (by kernel_rfl) (by kernel_rfl) (by kernel_rfl) (fun _ _ _ h => h) (Or.inl ⟨by rfl, ?hy7a⟩) (by assumption) ?rest7a
              case hy7a => intro w hSw; (try dsimp only at hSw); go_simp; try with_reducible rfl
              try simp only [Act.put, List.setIfInBounds_toArray, List.set_cons_zero, List.set_cons_succ]
              refine wpAnyH_take (i := 8) (oi := { dst := some 121, op := Go.Op.binOp Go.BinOp.neq 32 (Go.Operand.tmp 116) (Go.Operand.tmp 120) 32, type := 4, pos := "law.go:198", after := #[{ on := 3, ground := Go.Ground.data }, { on := 7, ground := Go.Ground.data }], guard := none }) (v := ?v8a) rfl (by kernel_rfl) (by kernel_rfl) (by kernel_rfl) (fun _ _ _ h => h) (Or.inl ⟨by rfl, ?hy8a⟩) (by assumption) ?rest8a
              case hy8a => intro w hSw; (try dsimp only at hSw); go_simp; try with_reducible rfl
              try simp only [Act.put, List.setIfInBounds_toArray, List.set_cons_zero, List.set_cons_succ]
              refine wpAnyH_take (i := 9) (oi := { dst := some 122, op := Go.Op.move (Go.Operand.tmp 121), type := 4, pos := "law.go:198", after := #[{ on := 8, ground := Go.Ground.data }], guard := none }) (v := ?v9a) rfl (by kernel_rfl) (by kernel_rfl) (by kernel_rfl) (fun _ _ _ h => h) (Or.inl ⟨by rfl, ?hy9a⟩) (by assumption) ?rest9a
              case hy9a => intro w hSw; (try dsimp only at hSw); go_simp; try with_reducible rfl
              try simp only [Act.put, List.setIfInBounds_toArray, List.set_cons_zero, List.set_cons_succ]
              refine wpAnyH_take (i := 10) (oi := { dst := some 123, op := Go.Op.move (Go.Operand.tmp 16), type := 3, pos := "law.go:198", after := #[{ on := 9, ground := Go.Ground.guard }], guard := some (9, false) }) (v := ?v10a) rfl (by kernel_rfl) (by kernel_rfl) (by kernel_rfl) (fun _ _ _ h => h) (Or.inl ⟨by rfl, ?hy10a⟩) (by assumption) ?rest10a
              case hy10a => intro w hSw; (try dsimp only at hSw); go_simp; try with_reducible rfl
              try simp only [Act.put, List.setIfInBounds_toArray, List.set_cons_zero, List.set_cons_succ]
              refine wpAnyH_take (i := 11) (oi := { dst := some 124, op := Go.Op.binOp Go.BinOp.gtr 3 (Go.Operand.tmp 123) (Go.Operand.const (Go.Value.int Go.IntKind.i64 0)) 3, type := 4, pos := "law.go:198", after := #[{ on := 10, ground := Go.Ground.data }, { on := 9, ground := Go.Ground.guard }], guard := some (9, false) }) (v := ?v11a) rfl (by kernel_rfl) (by kernel_rfl) (by kernel_rfl) (fun _ _ _ h => h) (Or.inl ⟨by rfl, ?hy11a⟩) (by assumption) ?rest11a
              case hy11a => intro w hSw; (try dsimp only at hSw); go_simp; try with_reducible rfl
              try simp only [Act.put, List.setIfInBounds_toArray, List.set_cons_zero, List.set_cons_succ]
              refine wpAnyH_take (i := 12) (oi := { dst := some 125, op := Go.Op.move (Go.Operand.tmp 124), type := 4, pos := "law.go:198", after := #[{ on := 11, ground := Go.Ground.data }, { on := 9, ground := Go.Ground.chain }, { on := 9, ground := Go.Ground.guard }], guard := some (9, false) }) (v := ?v12a) rfl (by kernel_rfl) (by kernel_rfl) (by kernel_rfl) (fun _ _ _ h => h) (Or.inl ⟨by rfl, ?hy12a⟩) (by assumption) ?rest12a
              case hy12a => intro w hSw; (try dsimp only at hSw); go_simp; try with_reducible rfl
              try simp only [Act.put, List.setIfInBounds_toArray, List.set_cons_zero, List.set_cons_succ]
              refine wpAnyH_take (i := 13) (oi := { dst := some 126, op := Go.Op.move (Go.Operand.tmp 15), type := 22, pos := "law.go:198", after := #[{ on := 12, ground := Go.Ground.guard }], guard := some (12, true) }) rfl (by kernel_rfl) (by kernel_rfl) (by kernel_rfl) (fun _ _ _ h => h) (Or.inr ⟨by rfl, rfl⟩) (by assumption) ?_
              try simp only [Act.put, List.setIfInBounds_toArray, List.set_cons_zero, List.set_cons_succ]
              refine wpAnyH_take (i := 14) (oi := { dst := some 127, op := Go.Op.move (Go.Operand.tmp 16), type := 3, pos := "law.go:198", after := #[{ on := 12, ground := Go.Ground.guard }], guard := some (12, true) }) rfl (by kernel_rfl) (by kernel_rfl) (by kernel_rfl) (fun _ _ _ h => h) (Or.inr ⟨by rfl, rfl⟩) (by assumption) ?_
              try simp only [Act.put, List.setIfInBounds_toArray, List.set_cons_zero, List.set_cons_succ]
              refine wpAnyH_take (i := 15) (oi := { dst := some 128, op := Go.Op.binOp Go.BinOp.sub 3 (Go.Operand.tmp 127) (Go.Operand.const (Go.Value.int Go.IntKind.i64 1)) 3, type := 3, pos := "law.go:198", after := #[{ on := 14, ground := Go.Ground.data }, { on := 12, ground := Go.Ground.guard }], guard := some (12, true) }) rfl (by kernel_rfl) (by kernel_rfl) (by kernel_rfl) (fun _ _ _ h => h) (Or.inr ⟨by rfl, rfl⟩) (by assumption) ?_
              try simp only [Act.put, List.setIfInBounds_toArray, List.set_cons_zero, List.set_cons_succ]
              refine wpAnyH_take (i := 16) (oi := { dst := some 129, op := Go.Op.indexAddr 22 (Go.Operand.tmp 126) (Go.Operand.tmp 128), type := 0, pos := "law.go:198", after := #[{ on := 13, ground := Go.Ground.data }, { on := 15, ground := Go.Ground.data }, { on := 12, ground := Go.Ground.guard }], guard := some (12, true) }) rfl (by kernel_rfl) (by kernel_rfl) (by kernel_rfl) (fun _ _ _ h => h) (Or.inr ⟨by rfl, rfl⟩) (by assumption) ?_
              try simp only [Act.put, List.setIfInBounds_toArray, List.set_cons_zero, List.set_cons_succ]
              refine wpAnyH_take (i := 17) (oi := { dst := some 130, op := Go.Op.fieldAddr 32 (Go.Operand.tmp 129) 0, type := 0, pos := "law.go:198", after := #[{ on := 16, ground := Go.Ground.data }, { on := 12, ground := Go.Ground.guard }], guard := some (12, true) }) rfl (by kernel_rfl) (by kernel_rfl) (by kernel_rfl) (fun _ _ _ h => h) (Or.inr ⟨by rfl, rfl⟩) (by assumption) ?_
              try simp only [Act.put, List.setIfInBounds_toArray, List.set_cons_zero, List.set_cons_succ]
              refine wpAnyH_take (i := 18) (oi := { dst := some 131, op := Go.Op.load 29 (Go.Operand.tmp 130), type := 29, pos := "law.go:198", after := #[{ on := 17, ground := Go.Ground.data }, { on := 12, ground := Go.Ground.guard }], guard := some (12, true) }) rfl (by kernel_rfl) (by kernel_rfl) (by kernel_rfl) (fun _ _ _ h => h) (Or.inr ⟨by rfl, rfl⟩) (by assumption) ?_
              try simp only [Act.put, List.setIfInBounds_toArray, List.set_cons_zero, List.set_cons_succ]
              refine wpAnyH_take (i := 19) (oi := { dst := some 132, op := Go.Op.move (Go.Operand.tmp 15), type := 22, pos := "law.go:198", after := #[{ on := 12, ground := Go.Ground.guard }], guard := some (12, true) }) rfl (by kernel_rfl) (by kernel_rfl) (by kernel_rfl) (fun _ _ _ h => h) (Or.inr ⟨by rfl, rfl⟩) (by assumption) ?_
              try simp only [Act.put, List.setIfInBounds_toArray, List.set_cons_zero, List.set_cons_succ]
              refine wpAnyH_take (i := 20) (oi := { dst := some 133, op := Go.Op.move (Go.Operand.tmp 16), type := 3, pos := "law.go:198", after := #[{ on := 12, ground := Go.Ground.guard }], guard := some (12, true) }) rfl (by kernel_rfl) (by kernel_rfl) (by kernel_rfl) (fun _ _ _ h => h) (Or.inr ⟨by rfl, rfl⟩) (by assumption) ?_
              try simp only [Act.put, List.setIfInBounds_toArray, List.set_cons_zero, List.set_cons_succ]
              refine wpAnyH_take (i := 21) (oi := { dst := some 134, op := Go.Op.indexAddr 22 (Go.Operand.tmp 132) (Go.Operand.tmp 133), type := 0, pos := "law.go:198", after := #[{ on := 19, ground := Go.Ground.data }, { on := 20, ground := Go.Ground.data }, { on := 12, ground := Go.Ground.guard }], guard := some (12, true) }) rfl (by kernel_rfl) (by kernel_rfl) (by kernel_rfl) (fun _ _ _ h => h) (Or.inr ⟨by rfl, rfl⟩) (by assumption) ?_
              try simp only [Act.put, List.setIfInBounds_toArray, List.set_cons_zero, List.set_cons_succ]
              refine wpAnyH_take (i := 22) (oi := { dst := some 135, op := Go.Op.fieldAddr 32 (Go.Operand.tmp 134) 0, type := 0, pos := "law.go:198", after := #[{ on := 21, ground := Go.Ground.data }, { on := 12, ground := Go.Ground.guard }], guard := some (12, true) }) rfl (by kernel_rfl) (by kernel_rfl) (by kernel_rfl) (fun _ _ _ h => h) (Or.inr ⟨by rfl, rfl⟩) (by assumption) ?_
              try simp only [Act.put, List.setIfInBounds_toArray, List.set_cons_zero, List.set_cons_succ]
              refine wpAnyH_take (i := 23) (oi := { dst := some 136, op := Go.Op.load 29 (Go.Operand.tmp 135), type := 29, pos := "law.go:198", after := #[{ on := 22, ground := Go.Ground.data }, { on := 12, ground := Go.Ground.guard }], guard := some (12, true) }) rfl (by kernel_rfl) (by kernel_rfl) (by kernel_rfl) (fun _ _ _ h => h) (Or.inr ⟨by rfl, rfl⟩) (by assumption) ?_
              try simp only [Act.put, List.setIfInBounds_toArray, List.set_cons_zero, List.set_cons_succ]
              refine wpAnyH_take (i := 24) (oi := { dst := some 137, op := Go.Op.call { callee := Go.Callee.value (Go.Operand.func 9), args := #[Go.Operand.tmp 131, Go.Operand.tmp 136], argTypes := #[29, 29] }, type := 4, pos := "law.go:198", after := #[{ on := 18, ground := Go.Ground.data }, { on := 23, ground := Go.Ground.data }, { on := 12, ground := Go.Ground.chain }, { on := 12, ground := Go.Ground.guard }], guard := some (12, true) }) rfl (by kernel_rfl) (by kernel_rfl) (by kernel_rfl) (fun _ _ _ h => h) (Or.inr ⟨by rfl, rfl⟩) (by assumption) ?_
              try simp only [Act.put, List.setIfInBounds_toArray, List.set_cons_zero, List.set_cons_succ]
              refine wpAnyH_take (i := 25) (oi := { dst := some 138, op := Go.Op.unOp Go.UnOp.not 4 (Go.Operand.tmp 137), type := 4, pos := "law.go:198", after := #[{ on := 24, ground := Go.Ground.data }, { on := 12, ground := Go.Ground.guard }], guard := some (12, true) }) rfl (by kernel_rfl) (by kernel_rfl) (by kernel_rfl) (fun _ _ _ h => h) (Or.inr ⟨by rfl, rfl⟩) (by assumption) ?_
              try simp only [Act.put, List.setIfInBounds_toArray, List.set_cons_zero, List.set_cons_succ]
              refine wpAnyH_take (i := 26) (oi := { dst := some 139, op := Go.Op.pick (Go.Operand.tmp 125) (Go.Operand.tmp 138) (Go.Operand.const (Go.Value.bool false)), type := 4, pos := "law.go:198", after := #[{ on := 12, ground := Go.Ground.data }, { on := 25, ground := Go.Ground.data }, { on := 9, ground := Go.Ground.guard }], guard := some (9, false) }) (v := ?v26a) rfl (by kernel_rfl) (by kernel_rfl) (by kernel_rfl) (fun _ _ _ h => h) (Or.inl ⟨by rfl, ?hy26a⟩) (by assumption) ?rest26a
              case hy26a => intro w hSw; (try dsimp only at hSw); go_simp; try with_reducible rfl
              try simp only [Act.put, List.setIfInBounds_toArray, List.set_cons_zero, List.set_cons_succ]
              refine wpAnyH_take (i := 27) (oi := { dst := some 140, op := Go.Op.pick (Go.Operand.tmp 122) (Go.Operand.const (Go.Value.bool true)) (Go.Operand.tmp 139), type := 4, pos := "law.go:198", after := #[{ on := 9, ground := Go.Ground.data }, { on := 26, ground := Go.Ground.data }], guard := none }) (v := ?v27a) rfl (by kernel_rfl) (by kernel_rfl) (by kernel_rfl) (fun _ _ _ h => h) (Or.inl ⟨by rfl, ?hy27a⟩) (by assumption) ?rest27a
              case hy27a => intro w hSw; (try dsimp only at hSw); go_simp; try with_reducible rfl
              try simp only [Act.put, List.setIfInBounds_toArray, List.set_cons_zero, List.set_cons_succ]
              refine wpAnyH_done (by kernel_rfl) ?_ _
              clear hHeld hd0 hd1
              go_wp2
              go_roundw
              case rel => exact ⟨k + 1, by omega, by go_num, HDR.out⟩
              case measure => simp [intOf]; omega
            · obtain ⟨j, hj⟩ : ∃ j, k = j + 1 := ⟨k - 1, by omega⟩
              obtain ⟨q, hqq⟩ : ∃ q, out[j]? = some q := ⟨out[j]'(by rw [← HN.out]; omega), List.getElem?_eq_getElem _⟩
              have HF : Hid (∀ W, Below wr.heap.size wr W → (routeLoad (b'.add (k * 19))).run Tryd.prog W = .ok (.agg (rc r)) W ∧ (routeLoad (a'.add (k * 19))).run Tryd.prog W = .ok (.agg (rc r)) W ∧ (preLoad (b'.add (j * 19))).run Tryd.prog W = .ok (.agg (pc q.pre)) W ∧ (preLoad (b'.add (k * 19))).run Tryd.prog W = .ok (.agg (pc r.pre)) W) := fun W h => by
                obtain ⟨h1, h2⟩ := HB.out W (HWK.out.trans (h.mono HWK.out.size))
                exact ⟨run_routeLoad (h1.route HRR.out), run_routeLoad (h2.route HRR.out), run_preLoadA (h1.route hqq).pre, run_preLoadA (h1.route HRR.out).pre⟩
              have hle : lessB q.pre r.pre = true := by
                obtain ⟨a1, a2⟩ := List.getElem?_eq_some_iff.1 hqq
                obtain ⟨b1, b2⟩ := List.getElem?_eq_some_iff.1 HRR.out
                have := List.pairwise_iff_getElem.1 HG.out.ord j k a1 b1 (by omega)
                rw [a2, b2] at this; exact this
              have HLE := Lib.hid (fun W => less_any q.pre r.pre q.hk r.hk W)
              rw [hle] at HLE
              have hd0 : decide ((0 : Int) < k) = true := by simp; omega
              have hd1 : decide (0 < k) = true := by simp; omega
              have hwj : IntKind.i64.wrap ((k : Int) - 1) = (j : Int) := by rw [IntKind.wrap_i64]; omega
              have hj0 : (0 : Int) ≤ j := by omega
              have hjm : (j : Int) < i := by omega
              clear hz hj hqq hle
              go_wp2
              refine wp_region_held_drew (S := (fun w' => (routeLoad (b'.add (k * 19))).run Tryd.prog w' = .ok (.agg (rc r)) w' ∧ (routeLoad (a'.add (k * 19))).run Tryd.prog w' = .ok (.agg (rc r)) w' ∧ (preLoad (b'.add (j * 19))).run Tryd.prog w' = .ok (.agg (pc q.pre)) w' ∧ (preLoad (b'.add (k * 19))).run Tryd.prog w' = .ok (.agg (pc r.pre)) w')) (by kernel_rfl) (HF.out _ (Below.refl wr.heap.size wr).drew) (fun hHeld => ?_)
              refine wpAnyH_take (i := 0) (oi := { dst := some 113, op := Go.Op.move (Go.Operand.tmp 15), type := 22, pos := "law.go:198", after := #[], guard := none }) (v := ?v0b) rfl (by kernel_rfl) (by kernel_rfl) (by kernel_rfl) (fun _ _ _ h => h) (Or.inl ⟨by rfl, ?hy0b⟩) (by assumption) ?rest0b
              case hy0b => intro w hSw; (try dsimp only at hSw); go_simp; try with_reducible rfl
              try simp only [Act.put, List.setIfInBounds_toArray, List.set_cons_zero, List.set_cons_succ]
              refine wpAnyH_take (i := 1) (oi := { dst := some 114, op := Go.Op.move (Go.Operand.tmp 16), type := 3, pos := "law.go:198", after := #[], guard := none }) (v := ?v1b) rfl (by kernel_rfl) (by kernel_rfl) (by kernel_rfl) (fun _ _ _ h => h) (Or.inl ⟨by rfl, ?hy1b⟩) (by assumption) ?rest1b
              case hy1b => intro w hSw; (try dsimp only at hSw); go_simp; try with_reducible rfl
              try simp only [Act.put, List.setIfInBounds_toArray, List.set_cons_zero, List.set_cons_succ]
              refine wpAnyH_take (i := 2) (oi := { dst := some 115, op := Go.Op.indexAddr 22 (Go.Operand.tmp 113) (Go.Operand.tmp 114), type := 0, pos := "law.go:198", after := #[{ on := 0, ground := Go.Ground.data }, { on := 1, ground := Go.Ground.data }], guard := none }) (v := ?v2b) rfl (by kernel_rfl) (by kernel_rfl) (by kernel_rfl) (fun _ _ _ h => h) (Or.inl ⟨by rfl, ?hy2b⟩) (by assumption) ?rest2b
              case hy2b => intro w hSw; (try dsimp only at hSw); go_simp; try with_reducible rfl
              try simp only [Act.put, List.setIfInBounds_toArray, List.set_cons_zero, List.set_cons_succ]
              refine wpAnyH_take (i := 3) (oi := { dst := some 116, op := Go.Op.load 32 (Go.Operand.tmp 115), type := 32, pos := "law.go:198", after := #[{ on := 2, ground := Go.Ground.data }], guard := none }) (v := ?v3b) rfl (by kernel_rfl) (by kernel_rfl) (by kernel_rfl) (fun _ _ _ h => h) (Or.inl ⟨by rfl, ?hy3b⟩) (by assumption) ?rest3b
              case hy3b => intro w hSw; (try dsimp only at hSw); go_simp; try with_reducible rfl
              try simp only [Act.put, List.setIfInBounds_toArray, List.set_cons_zero, List.set_cons_succ]
              refine wpAnyH_take (i := 4) (oi := { dst := some 117, op := Go.Op.move (Go.Operand.tmp 0), type := 22, pos := "law.go:198", after := #[], guard := none }) (v := ?v4b) rfl (by kernel_rfl) (by kernel_rfl) (by kernel_rfl) (fun _ _ _ h => h) (Or.inl ⟨by rfl, ?hy4b⟩) (by assumption) ?rest4b
              case hy4b => intro w hSw; (try dsimp only at hSw); go_simp; try with_reducible rfl
              try simp only [Act.put, List.setIfInBounds_toArray, List.set_cons_zero, List.set_cons_succ]
              refine wpAnyH_take (i := 5) (oi := { dst := some 118, op := Go.Op.move (Go.Operand.tmp 16), type := 3, pos := "law.go:198", after := #[], guard := none }) (v := ?v5b) rfl (by kernel_rfl) (by kernel_rfl) (by kernel_rfl) (fun _ _ _ h => h) (Or.inl ⟨by rfl, ?hy5b⟩) (by assumption) ?rest5b
              case hy5b => intro w hSw; (try dsimp only at hSw); go_simp; try with_reducible rfl
              try simp only [Act.put, List.setIfInBounds_toArray, List.set_cons_zero, List.set_cons_succ]
              refine wpAnyH_take (i := 6) (oi := { dst := some 119, op := Go.Op.indexAddr 22 (Go.Operand.tmp 117) (Go.Operand.tmp 118), type := 0, pos := "law.go:198", after := #[{ on := 4, ground := Go.Ground.data }, { on := 5, ground := Go.Ground.data }], guard := none }) (v := ?v6b) rfl (by kernel_rfl) (by kernel_rfl) (by kernel_rfl) (fun _ _ _ h => h) (Or.inl ⟨by rfl, ?hy6b⟩) (by assumption) ?rest6b
              case hy6b => intro w hSw; (try dsimp only at hSw); go_simp; try with_reducible rfl
              try simp only [Act.put, List.setIfInBounds_toArray, List.set_cons_zero, List.set_cons_succ]
              refine wpAnyH_take (i := 7) (oi := { dst := some 120, op := Go.Op.load 32 (Go.Operand.tmp 119), type := 32, pos := "law.go:198", after := #[{ on := 6, ground := Go.Ground.data }], guard := none }) (v := ?v7b) rfl (by kernel_rfl) (by kernel_rfl) (by kernel_rfl) (fun _ _ _ h => h) (Or.inl ⟨by rfl, ?hy7b⟩) (by assumption) ?rest7b
              case hy7b => intro w hSw; (try dsimp only at hSw); go_simp; try with_reducible rfl
              try simp only [Act.put, List.setIfInBounds_toArray, List.set_cons_zero, List.set_cons_succ]
              refine wpAnyH_take (i := 8) (oi := { dst := some 121, op := Go.Op.binOp Go.BinOp.neq 32 (Go.Operand.tmp 116) (Go.Operand.tmp 120) 32, type := 4, pos := "law.go:198", after := #[{ on := 3, ground := Go.Ground.data }, { on := 7, ground := Go.Ground.data }], guard := none }) (v := ?v8b) rfl (by kernel_rfl) (by kernel_rfl) (by kernel_rfl) (fun _ _ _ h => h) (Or.inl ⟨by rfl, ?hy8b⟩) (by assumption) ?rest8b
              case hy8b => intro w hSw; (try dsimp only at hSw); go_simp; try with_reducible rfl
              try simp only [Act.put, List.setIfInBounds_toArray, List.set_cons_zero, List.set_cons_succ]
              refine wpAnyH_take (i := 9) (oi := { dst := some 122, op := Go.Op.move (Go.Operand.tmp 121), type := 4, pos := "law.go:198", after := #[{ on := 8, ground := Go.Ground.data }], guard := none }) (v := ?v9b) rfl (by kernel_rfl) (by kernel_rfl) (by kernel_rfl) (fun _ _ _ h => h) (Or.inl ⟨by rfl, ?hy9b⟩) (by assumption) ?rest9b
              case hy9b => intro w hSw; (try dsimp only at hSw); go_simp; try with_reducible rfl
              try simp only [Act.put, List.setIfInBounds_toArray, List.set_cons_zero, List.set_cons_succ]
              refine wpAnyH_take (i := 10) (oi := { dst := some 123, op := Go.Op.move (Go.Operand.tmp 16), type := 3, pos := "law.go:198", after := #[{ on := 9, ground := Go.Ground.guard }], guard := some (9, false) }) (v := ?v10b) rfl (by kernel_rfl) (by kernel_rfl) (by kernel_rfl) (fun _ _ _ h => h) (Or.inl ⟨by rfl, ?hy10b⟩) (by assumption) ?rest10b
              case hy10b => intro w hSw; (try dsimp only at hSw); go_simp; try with_reducible rfl
              try simp only [Act.put, List.setIfInBounds_toArray, List.set_cons_zero, List.set_cons_succ]
              refine wpAnyH_take (i := 11) (oi := { dst := some 124, op := Go.Op.binOp Go.BinOp.gtr 3 (Go.Operand.tmp 123) (Go.Operand.const (Go.Value.int Go.IntKind.i64 0)) 3, type := 4, pos := "law.go:198", after := #[{ on := 10, ground := Go.Ground.data }, { on := 9, ground := Go.Ground.guard }], guard := some (9, false) }) (v := ?v11b) rfl (by kernel_rfl) (by kernel_rfl) (by kernel_rfl) (fun _ _ _ h => h) (Or.inl ⟨by rfl, ?hy11b⟩) (by assumption) ?rest11b
              case hy11b => intro w hSw; (try dsimp only at hSw); go_simp; try with_reducible rfl
              try simp only [Act.put, List.setIfInBounds_toArray, List.set_cons_zero, List.set_cons_succ]
              refine wpAnyH_take (i := 12) (oi := { dst := some 125, op := Go.Op.move (Go.Operand.tmp 124), type := 4, pos := "law.go:198", after := #[{ on := 11, ground := Go.Ground.data }, { on := 9, ground := Go.Ground.chain }, { on := 9, ground := Go.Ground.guard }], guard := some (9, false) }) (v := ?v12b) rfl (by kernel_rfl) (by kernel_rfl) (by kernel_rfl) (fun _ _ _ h => h) (Or.inl ⟨by rfl, ?hy12b⟩) (by assumption) ?rest12b
              case hy12b => intro w hSw; (try dsimp only at hSw); go_simp; try with_reducible rfl
              try simp only [Act.put, List.setIfInBounds_toArray, List.set_cons_zero, List.set_cons_succ]
              refine wpAnyH_take (i := 13) (oi := { dst := some 126, op := Go.Op.move (Go.Operand.tmp 15), type := 22, pos := "law.go:198", after := #[{ on := 12, ground := Go.Ground.guard }], guard := some (12, true) }) (v := ?v13b) rfl (by kernel_rfl) (by kernel_rfl) (by kernel_rfl) (fun _ _ _ h => h) (Or.inl ⟨by rfl, ?hy13b⟩) (by assumption) ?rest13b
              case hy13b => intro w hSw; (try dsimp only at hSw); go_simp; try with_reducible rfl
              try simp only [Act.put, List.setIfInBounds_toArray, List.set_cons_zero, List.set_cons_succ]
              refine wpAnyH_take (i := 14) (oi := { dst := some 127, op := Go.Op.move (Go.Operand.tmp 16), type := 3, pos := "law.go:198", after := #[{ on := 12, ground := Go.Ground.guard }], guard := some (12, true) }) (v := ?v14b) rfl (by kernel_rfl) (by kernel_rfl) (by kernel_rfl) (fun _ _ _ h => h) (Or.inl ⟨by rfl, ?hy14b⟩) (by assumption) ?rest14b
              case hy14b => intro w hSw; (try dsimp only at hSw); go_simp; try with_reducible rfl
              try simp only [Act.put, List.setIfInBounds_toArray, List.set_cons_zero, List.set_cons_succ]
              refine wpAnyH_take (i := 15) (oi := { dst := some 128, op := Go.Op.binOp Go.BinOp.sub 3 (Go.Operand.tmp 127) (Go.Operand.const (Go.Value.int Go.IntKind.i64 1)) 3, type := 3, pos := "law.go:198", after := #[{ on := 14, ground := Go.Ground.data }, { on := 12, ground := Go.Ground.guard }], guard := some (12, true) }) (v := ?v15b) rfl (by kernel_rfl) (by kernel_rfl) (by kernel_rfl) (fun _ _ _ h => h) (Or.inl ⟨by rfl, ?hy15b⟩) (by assumption) ?rest15b
              case hy15b => intro w hSw; (try dsimp only at hSw); go_simp; try with_reducible rfl
              try simp only [Act.put, List.setIfInBounds_toArray, List.set_cons_zero, List.set_cons_succ]
              refine wpAnyH_take (i := 16) (oi := { dst := some 129, op := Go.Op.indexAddr 22 (Go.Operand.tmp 126) (Go.Operand.tmp 128), type := 0, pos := "law.go:198", after := #[{ on := 13, ground := Go.Ground.data }, { on := 15, ground := Go.Ground.data }, { on := 12, ground := Go.Ground.guard }], guard := some (12, true) }) (v := ?v16b) rfl (by kernel_rfl) (by kernel_rfl) (by kernel_rfl) (fun _ _ _ h => h) (Or.inl ⟨by rfl, ?hy16b⟩) (by assumption) ?rest16b
              case hy16b => intro w hSw; (try dsimp only at hSw); go_simp; try with_reducible rfl
              try simp only [Act.put, List.setIfInBounds_toArray, List.set_cons_zero, List.set_cons_succ]
              refine wpAnyH_take (i := 17) (oi := { dst := some 130, op := Go.Op.fieldAddr 32 (Go.Operand.tmp 129) 0, type := 0, pos := "law.go:198", after := #[{ on := 16, ground := Go.Ground.data }, { on := 12, ground := Go.Ground.guard }], guard := some (12, true) }) (v := ?v17b) rfl (by kernel_rfl) (by kernel_rfl) (by kernel_rfl) (fun _ _ _ h => h) (Or.inl ⟨by rfl, ?hy17b⟩) (by assumption) ?rest17b
              case hy17b => intro w hSw; (try dsimp only at hSw); go_simp; try with_reducible rfl
              try simp only [Act.put, List.setIfInBounds_toArray, List.set_cons_zero, List.set_cons_succ]
              refine wpAnyH_take (i := 18) (oi := { dst := some 131, op := Go.Op.load 29 (Go.Operand.tmp 130), type := 29, pos := "law.go:198", after := #[{ on := 17, ground := Go.Ground.data }, { on := 12, ground := Go.Ground.guard }], guard := some (12, true) }) (v := ?v18b) rfl (by kernel_rfl) (by kernel_rfl) (by kernel_rfl) (fun _ _ _ h => h) (Or.inl ⟨by rfl, ?hy18b⟩) (by assumption) ?rest18b
              case hy18b => intro w hSw; (try dsimp only at hSw); go_simp; try with_reducible rfl
              try simp only [Act.put, List.setIfInBounds_toArray, List.set_cons_zero, List.set_cons_succ]
              refine wpAnyH_take (i := 19) (oi := { dst := some 132, op := Go.Op.move (Go.Operand.tmp 15), type := 22, pos := "law.go:198", after := #[{ on := 12, ground := Go.Ground.guard }], guard := some (12, true) }) (v := ?v19b) rfl (by kernel_rfl) (by kernel_rfl) (by kernel_rfl) (fun _ _ _ h => h) (Or.inl ⟨by rfl, ?hy19b⟩) (by assumption) ?rest19b
              case hy19b => intro w hSw; (try dsimp only at hSw); go_simp; try with_reducible rfl
              try simp only [Act.put, List.setIfInBounds_toArray, List.set_cons_zero, List.set_cons_succ]
              refine wpAnyH_take (i := 20) (oi := { dst := some 133, op := Go.Op.move (Go.Operand.tmp 16), type := 3, pos := "law.go:198", after := #[{ on := 12, ground := Go.Ground.guard }], guard := some (12, true) }) (v := ?v20b) rfl (by kernel_rfl) (by kernel_rfl) (by kernel_rfl) (fun _ _ _ h => h) (Or.inl ⟨by rfl, ?hy20b⟩) (by assumption) ?rest20b
              case hy20b => intro w hSw; (try dsimp only at hSw); go_simp; try with_reducible rfl
              try simp only [Act.put, List.setIfInBounds_toArray, List.set_cons_zero, List.set_cons_succ]
              refine wpAnyH_take (i := 21) (oi := { dst := some 134, op := Go.Op.indexAddr 22 (Go.Operand.tmp 132) (Go.Operand.tmp 133), type := 0, pos := "law.go:198", after := #[{ on := 19, ground := Go.Ground.data }, { on := 20, ground := Go.Ground.data }, { on := 12, ground := Go.Ground.guard }], guard := some (12, true) }) (v := ?v21b) rfl (by kernel_rfl) (by kernel_rfl) (by kernel_rfl) (fun _ _ _ h => h) (Or.inl ⟨by rfl, ?hy21b⟩) (by assumption) ?rest21b
              case hy21b => intro w hSw; (try dsimp only at hSw); go_simp; try with_reducible rfl
              try simp only [Act.put, List.setIfInBounds_toArray, List.set_cons_zero, List.set_cons_succ]
              refine wpAnyH_take (i := 22) (oi := { dst := some 135, op := Go.Op.fieldAddr 32 (Go.Operand.tmp 134) 0, type := 0, pos := "law.go:198", after := #[{ on := 21, ground := Go.Ground.data }, { on := 12, ground := Go.Ground.guard }], guard := some (12, true) }) (v := ?v22b) rfl (by kernel_rfl) (by kernel_rfl) (by kernel_rfl) (fun _ _ _ h => h) (Or.inl ⟨by rfl, ?hy22b⟩) (by assumption) ?rest22b
              case hy22b => intro w hSw; (try dsimp only at hSw); go_simp; try with_reducible rfl
              try simp only [Act.put, List.setIfInBounds_toArray, List.set_cons_zero, List.set_cons_succ]
              refine wpAnyH_take (i := 23) (oi := { dst := some 136, op := Go.Op.load 29 (Go.Operand.tmp 135), type := 29, pos := "law.go:198", after := #[{ on := 22, ground := Go.Ground.data }, { on := 12, ground := Go.Ground.guard }], guard := some (12, true) }) (v := ?v23b) rfl (by kernel_rfl) (by kernel_rfl) (by kernel_rfl) (fun _ _ _ h => h) (Or.inl ⟨by rfl, ?hy23b⟩) (by assumption) ?rest23b
              case hy23b => intro w hSw; (try dsimp only at hSw); go_simp; try with_reducible rfl
              try simp only [Act.put, List.setIfInBounds_toArray, List.set_cons_zero, List.set_cons_succ]
              refine wpAnyH_ready (rs := [24]) (by kernel_rfl) (by simp) ?_
              refine AllReadyH.cons (o := { dst := some 137, op := Go.Op.call { callee := Go.Callee.value (Go.Operand.func 9), args := #[Go.Operand.tmp 131, Go.Operand.tmp 136], argTypes := #[29, 29] }, type := 4, pos := "law.go:198", after := #[{ on := 18, ground := Go.Ground.data }, { on := 23, ground := Go.Ground.data }, { on := 12, ground := Go.Ground.chain }, { on := 12, ground := Go.Ground.guard }], guard := some (12, true) }) rfl (fun K hK => ?_) AllReadyH.nil
              go_simp
              go_at_call 9
              refine (HLE.out _).mono ?_
              rintro e7 w7 ⟨rfl, h7'⟩
              have h7 : Below wr.heap.size wr w7 := (Below.refl wr.heap.size wr).drew.trans h7'
              go_simp
              refine hK.out _ _ (HF.out _ h7) (fun hHeld => ?_)
              clear hK K h7'
              try simp only [Act.put, List.setIfInBounds_toArray, List.set_cons_zero, List.set_cons_succ]
              refine wpAnyH_take (i := 25) (oi := { dst := some 138, op := Go.Op.unOp Go.UnOp.not 4 (Go.Operand.tmp 137), type := 4, pos := "law.go:198", after := #[{ on := 24, ground := Go.Ground.data }, { on := 12, ground := Go.Ground.guard }], guard := some (12, true) }) (v := ?v25b) rfl (by kernel_rfl) (by kernel_rfl) (by kernel_rfl) (fun _ _ _ h => h) (Or.inl ⟨by rfl, ?hy25b⟩) (by assumption) ?rest25b
              case hy25b => intro w hSw; (try dsimp only at hSw); go_simp; try with_reducible rfl
              try simp only [Act.put, List.setIfInBounds_toArray, List.set_cons_zero, List.set_cons_succ]
              refine wpAnyH_take (i := 26) (oi := { dst := some 139, op := Go.Op.pick (Go.Operand.tmp 125) (Go.Operand.tmp 138) (Go.Operand.const (Go.Value.bool false)), type := 4, pos := "law.go:198", after := #[{ on := 12, ground := Go.Ground.data }, { on := 25, ground := Go.Ground.data }, { on := 9, ground := Go.Ground.guard }], guard := some (9, false) }) (v := ?v26b) rfl (by kernel_rfl) (by kernel_rfl) (by kernel_rfl) (fun _ _ _ h => h) (Or.inl ⟨by rfl, ?hy26b⟩) (by assumption) ?rest26b
              case hy26b => intro w hSw; (try dsimp only at hSw); go_simp; try with_reducible rfl
              try simp only [Act.put, List.setIfInBounds_toArray, List.set_cons_zero, List.set_cons_succ]
              refine wpAnyH_take (i := 27) (oi := { dst := some 140, op := Go.Op.pick (Go.Operand.tmp 122) (Go.Operand.const (Go.Value.bool true)) (Go.Operand.tmp 139), type := 4, pos := "law.go:198", after := #[{ on := 9, ground := Go.Ground.data }, { on := 26, ground := Go.Ground.data }], guard := none }) (v := ?v27b) rfl (by kernel_rfl) (by kernel_rfl) (by kernel_rfl) (fun _ _ _ h => h) (Or.inl ⟨by rfl, ?hy27b⟩) (by assumption) ?rest27b
              case hy27b => intro w hSw; (try dsimp only at hSw); go_simp; try with_reducible rfl
              try simp only [Act.put, List.setIfInBounds_toArray, List.set_cons_zero, List.set_cons_succ]
              refine wpAnyH_done (by kernel_rfl) ?_ _
              have HH := Lib.hid (HWK.out.trans (h7.mono HWK.out.size))
              clear hHeld hd0 hd1 hwj hj0 hjm h7
              go_wp2
              go_roundw
              case rel => exact ⟨k + 1, by omega, by go_num, HH.out⟩
              case measure => simp [intOf]; omega
          · obtain rfl : k = i := by omega
            have FIN := Lib.hid (B8.out.trans (HWK.out.mono B8.out.size))
            go_wp2
            go_ret
            exact ⟨rfl, FIN.out⟩

set_option maxHeartbeats 1000000 in
set_option maxRecDepth 100000 in
theorem walk_no (t : List Rt) (n nu : Nat) (a au : Option Addr) (cap capu : Nat) (w : World) (hR : Rd w (.slice a n cap) t) (hn : n ≤ maxLen) (hno : ¬ n ≤ 60 ∨ rightB t = false) :
    Calls Tryd.prog 3 #[.slice a n cap, .slice au nu capu] w fun e w' => e = .returned (.bool true) ∧ Below w.heap.size w w' := by
  have H1 := Lib.hid (awake_any w)
  have HR := Lib.hid hR
  unfold maxLen at hn
  by_cases h1 : n ≤ 60
  · have h1I : (n : Int) ≤ 60 := by omega
    have hr : rightB t = false := hno.resolve_left (fun h => h h1)
    have H2 : Hid (∀ W, Rd W (.slice a n cap) t → Calls Tryd.prog 5 #[.slice a n cap] W fun e w' => e = .returned (.bool false) ∧ Below W.heap.size W w') := fun W h => by
      have := right_any t _ W h
      rw [hr] at this; exact this
    clear hno hr h1 hn hR
    go_enter Tryd.func3, Tryd.ntmps3
    go_wp2_with fail
    refine H1.out.mono ?_
    rintro e1 w1 ⟨rfl, h1⟩
    have HW1 := Lib.hid h1
    clear h1
    go_wp2_with fail
    refine (H2.out _ (HR.out.later HW1.out)).mono ?_
    rintro e1 w2 ⟨rfl, h2⟩
    have HW2 : Hid (Below w.heap.size w w2) := HW1.out.trans (h2.mono HW1.out.size)
    clear h2
    go_wp2
    go_ret
    exact ⟨rfl, HW2.out⟩
  · have h1I : (60 : Int) < n := by omega
    clear hno h1 hn hR
    go_enter Tryd.func3, Tryd.ntmps3
    go_wp2_with fail
    refine H1.out.mono ?_
    rintro e1 w1 ⟨rfl, h1⟩
    have HW1 := Lib.hid h1
    clear h1
    go_wp2
    go_ret
    exact ⟨rfl, HW1.out⟩

theorem walkAll (t : List Rt) (us : List Nat) (vt vu : Value) (w : World) (hR : Rd w vt t) (hU : RdU w vu us) (hE : Rr.Env w) :
    Calls Tryd.prog 3 #[vt, vu] w fun e w' => e = .returned (.bool true) ∧ Below w.heap.size w w' := by
  by_cases h : t.length ≤ 60 ∧ rightB t = true
  · exact walk_yes t us vt vu w hR hU h.1 ((right_iff t).1 h.2).2 hE
  · obtain ⟨a, cap, hv, h1⟩ := rd_len hR
    obtain ⟨au, capu, hvu, -⟩ := rdU_len hU
    have hno : ¬ t.length ≤ 60 ∨ rightB t = false := by
      by_cases g : t.length ≤ 60
      · exact .inr (by cases h2 : rightB t with
          | false => rfl
          | true => exact absurd ⟨g, h2⟩ h)
      · exact .inl g
    rw [hv] at hR
    rw [hv, hvu]
    exact walk_no t _ _ a au cap capu w hR h1 hno
end Go.Proofs.YtpjojbiiceedjaaDoor.tableOrder
