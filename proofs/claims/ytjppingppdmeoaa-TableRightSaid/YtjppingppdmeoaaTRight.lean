/- The statement TableRight, walked: every call of it hands back true. -/
import Derived.Test.YtjppingppdmeoaaTabAwakeW
import Derived.Test.YtjppingppdmeoaaTabLaws
import Derived.Test.YtjppingppdmeoaaRefRight
import Derived.Test.YtjppingppdmeoaaRefUnder
import Derived.Test.YtjppingppdmeoaaRefGet
import Derived.Test.YtjppingppdmeoaaRefBest
import Derived.Test.YtjppingppdmeoaaRefSort
import Derived.Test.YtjppingppdmeoaaRefApply
namespace Go.Proofs.Ytjppingppdmeoaa.tableRight
open Go.RowKit Go.Sort Go.Shelf
attribute [local go_sem ↓] loadVar_key loadVar_pre loadVar_route storeVar_pre storeVar_route build_pre build_route build_key build_change buildSlice_rows buildSlice_chs binOp_rtEql

theorem rbox_later {W W' : World} {b : Nat} {r : Rt} (h : RBox W b r) (hb : Below W.heap.size W W') : RBox W' b r := (hb.block _ (Array.getElem?_eq_some_iff.1 h).1).trans h
theorem rts_ones (l : List Rt) : ∀ v ∈ fl l, v.oneCell' = true := fun v hv => by
  obtain ⟨r, _, h⟩ := List.mem_flatMap.1 hv
  exact rl_one r v h
theorem append_rts {w : World} {ops : Array Oper} {rest : List Oper} {o : Oper} {a : Act} {Q : Exit → Act → World → Prop} (hgd : o.guard = none) (s x : Operand)
    (ho : o.op = .call { callee := .builtin .append, args := #[s, x], argTypes := #[22, 22] }) (base : Nat) (v : Value) (n : Nat) (xs : List Value) (hs : a.eval s = v) (hown : w.ownsRow base 34 19 v n xs)
    (u : Value) (cs : List Rt) (hx : a.eval x = u) (hC : Rd w u cs) (hn : n + cs.length ≤ 65536) (hbase : base ≤ w.heap.size)
    (h : ∀ v' w', w'.ownsRow base 34 19 v' (n + cs.length) (xs ++ fl cs) → w.grownBy w' v.ownBlock → wpList Try.prog ops Q rest (a.put o.dst v') w') : wpList Try.prog ops Q (o :: rest) a w := by
  obtain ⟨i, h0, h1, h2, h3⟩ := infoR'
  rcases hC with ⟨rfl, rfl⟩ | ⟨ad, cap, rfl, h4, h5, hc⟩
  · exact wpList_append_own_none hgd s x 22 ho base 34 i 19 Try.underlying22 h0 v n xs hs hown hx (h v w (by simpa [fl] using hown) (grown_refl w _))
  · exact wpList_append_own w hgd s x 22 ho base 34 i (.agg (rc zrt)) 19 40 Try.underlying22 h0 h1 h2 h3 (rc_size _) (by decide) v n xs hs hown ad cs.length cap (fl cs) hx (fl_length cs) hc (rts_ones cs) (by simp only [maxLen]; omega) (by omega) hbase (fun v' w' a b _ => h v' w' a b)
theorem run_rows0 (w : World) : (rowsBuild 0 #[]).run Try.prog w = .ok (.slice (some ⟨w.heap.size, 0, none⟩) 0 0) (w.alloc (.cells #[] 34)) := by
  kernel_rfl

/-- The document's Get and the program's are the same. -/
theorem get_same {l : List Rt} (h : Good l) (hl : l.length ≤ 256) (x : Rt) : rgetL l x.pre = getL l x.pre := by
  unfold rgetL
  cases hm : mayB x.pre with
  | false => unfold getL; rw [(right_iff l).2 ⟨hl, h⟩, hm]; rfl
  | true =>
    rw [if_pos rfl]
    cases hf : findP l x.pre with
    | none => exact (get_not h hl hm fun s hs => by
        unfold findP at hf
        have := List.find?_eq_none.1 hf s hs
        simpa using this).symm
    | some r =>
      obtain ⟨h1, h2⟩ := mem_find hf
      exact (get_some h hl h1 (rt_pre_ext h2)).symm

set_option maxHeartbeats 4000000 in
set_option maxRecDepth 100000 in
theorem walk_right (l more : List Rt) (cs : List Ch) (p : Pre) (hp : Bytes16 p.key) (hpz : ∀ i, 16 ≤ i → p.key i = 0) (k : Nat → Nat) (hk : Bytes16 k) (bits : Int) (v vc vx : Value) (w : World) (hR : Rd w v l) (hC : RdC w vc cs) (hM : Rd w vx more) (hl : l.length ≤ 300) (hc : cs.length ≤ 40) (hm : more.length ≤ 60) (hg : Good l) (hl2 : l.length ≤ 256) :
    Calls Try.prog 3 #[v, .agg (pc p), .agg (kc k), .int .i64 bits, vc, vx] w fun e w' => e = .returned (.bool true) ∧ Below w.heap.size w w' := by
  have hb0 : Below w.heap.size w ((w.alloc (.cells (pc p) 26)).alloc (.cells (kc k) 24)) := ((Below.refl _ _).alloc (Nat.le_refl _) _).alloc (by simp) _
  have hz0 : ((w.alloc (.cells (pc p) 26)).alloc (.cells (kc k) 24)).heap.size = w.heap.size + 2 := by simp
  have hp0 : ((w.alloc (.cells (pc p) 26)).alloc (.cells (kc k) 24)).heap[w.heap.size]? = some (.cells (pc p) 26 (0, 0)) := by
    rw [Go.heap_alloc_old _ _ (by simp)]; exact Go.heap_alloc_new w _
  have hk0 : ((w.alloc (.cells (pc p) 26)).alloc (.cells (kc k) 24)).heap[w.heap.size + 1]? = some (.cells (kc k) 24 (0, 0)) := by
    have := Go.heap_alloc_new (w.alloc (.cells (pc p) 26)) (.cells (kc k) 24); simpa using this
  have T : ∀ W, Below ((w.alloc (.cells (pc p) 26)).alloc (.cells (kc k) 24)).heap.size ((w.alloc (.cells (pc p) 26)).alloc (.cells (kc k) 24)) W → (preLoad ⟨w.heap.size, 0, none⟩).run Try.prog W = .ok (.agg (pc p)) W ∧ (keyLoad ⟨w.heap.size + 1, 0, none⟩).run Try.prog W = .ok (.agg (kc k)) W ∧ Rd W v l ∧ RdC W vc cs ∧ Rd W vx more ∧ Below w.heap.size w W := fun W h => by
    have h2 := hb0.trans (h.mono (by rw [hz0]; omega))
    exact ⟨run_preLoad (rowAt_of ((h.block _ (by rw [hz0]; omega)).trans hp0)), run_keyLoad (rowAt_of ((h.block _ (by rw [hz0]; omega)).trans hk0)), hR.later h2, hC.later h2, hM.later h2, h2⟩
  have HT := Lib.hid T
  have H1 := Lib.hid (awake_any ((w.alloc (.cells (pc p) 26)).alloc (.cells (kc k) 24)))
  obtain ⟨x, hx⟩ : ∃ x : Rt, x.pre = p := ⟨⟨p, 0, hp, hpz, by decide⟩, rfl⟩
  have hrt : rightB l = true := (right_iff l).2 ⟨hl2, hg⟩
  obtain ⟨gx, gh, hget⟩ : ∃ gx gh, getL l p = (gx, gh) := ⟨_, _, rfl⟩
  obtain ⟨br, be, hbest⟩ : ∃ br be, bestL l k bits = (br, be) := ⟨_, _, rfl⟩
  obtain ⟨al, ae, happ⟩ : ∃ al ae, applyL l cs = (al, ae) := ⟨_, _, rfl⟩
  obtain ⟨ul, hul⟩ : ∃ ul, underL l p = ul := ⟨_, rfl⟩
  have HAL2 : Hid (al.length ≤ 65536) := by
    have := (apply_good hg hl2 cs).2; rw [happ] at this; show _ ≤ _; simp only at this; omega
  have HUL : Hid (ul.length ≤ 65536) := by
    have := (under_good hg hl2 p).2.2; rw [hul] at this; show _ ≤ _; omega
  have HG2 : Hid (∀ W, Rd W v l → Calls Try.prog 19 #[v, .agg (pc p)] W (GetPost W (gx, gh))) := fun W h => by
    have := rget_any l p hp v W h (by omega)
    rw [← hx, get_same hg hl2, hx, hget] at this; exact this
  have HB2 : Hid (∀ W, Rd W v l → Calls Try.prog 20 #[v, .agg (kc k), .int .i64 bits] W (BestPost W (br, be))) := fun W h => by
    have := rbest_any l k hk bits (by omega) v W h
    rw [best_same hg hl2 hk, hbest] at this; exact this
  have HA2 : Hid (∀ W, Rd W v l → RdC W vc cs → Calls Try.prog 21 #[v, vc] W (RApplyPost W (al, ae))) := fun W h h2 => by
    have := rapply_any l cs hg hl2 v vc W h h2 (by omega)
    rw [happ] at this; exact this
  have HU2 : Hid (∀ W, Rd W v l → Calls Try.prog 22 #[v, .agg (pc p)] W (ListPost W ul)) := fun W h => by
    have := runder_any l (by omega) p hp v W h
    have e : coveredL l p = ul := by rw [← hul, (under_good hg hl2 p).1]; rfl
    rw [e] at this; exact this
  have HG : Hid (∀ W q, Rd W q l → Calls Try.prog 10 #[q, .agg (pc p)] W (GetPost W (gx, gh))) := fun W q h => by
    have := get_any l p hp q W h
    rw [hget] at this; exact this
  have HB : Hid (∀ W q, Rd W q l → Calls Try.prog 11 #[q, .agg (kc k), .int .i64 bits] W (BestPost W (br, be))) := fun W q h => by
    have := best_any l k hk bits q W h
    rw [hbest] at this; exact this
  have HA : Hid (∀ W q, Rd W q l → RdC W vc cs → Calls Try.prog 12 #[q, vc] W (ApplyPost W (al, ae))) := fun W q h h2 => by
    have := apply_any l cs q vc W h h2 (by omega) (by omega)
    rw [happ] at this; exact this
  have HU : Hid (∀ W q, Rd W q l → Calls Try.prog 13 #[q, .agg (pc p)] W (ListPost W ul)) := fun W q h => by
    have := under_any l p hp q W h
    rw [hul] at this; exact this
  have HRR : Hid (∀ W, Rd W v l → Calls Try.prog 14 #[v] W fun e w' => e = .returned (.bool true) ∧ Below W.heap.size W w') := fun W h => by
    have := rright_any l v W h
    rw [hrt] at this; exact this
  have HRT : Hid (∀ W q, Rd W q l → Calls Try.prog 15 #[q] W fun e w' => e = .returned (.bool true) ∧ Below W.heap.size W w') := fun W q h => by
    have := right_any l q W h
    rw [hrt] at this; exact this
  have HS : Hid (∀ W p q m, Rd W p m → Rd W q m → m.length ≤ 65536 → Calls Try.prog 16 #[p, q] W fun e w' => e = .returned (.bool true) ∧ Below W.heap.size W w') := fun W p q m h1 h2 h3 => same_yes m p q W h1 h2 h3
  have HSL : Hid ((sortGo [] more).length ≤ 65536) := by
    have := sortGo_length more []; show _ ≤ _; simp at this; omega
  obtain ⟨ad, cap, hv, -⟩ := rd_len hR
  obtain ⟨ac, capc, hvc, -⟩ := rdC_len hC
  obtain ⟨ax, capx, hvx, -⟩ := rd_len hM
  obtain ⟨n, hn⟩ : ∃ n, n = l.length := ⟨_, rfl⟩
  obtain ⟨nc, hnc⟩ : ∃ n, n = cs.length := ⟨_, rfl⟩
  obtain ⟨nm, hnm⟩ : ∃ n, n = more.length := ⟨_, rfl⟩
  rw [← hn] at hv hl
  rw [← hnc] at hvc hc
  rw [← hnm] at hvx hm
  have HN := Lib.hid hn
  have HNM := Lib.hid hnm
  have HL : Hid (n ≤ 300) := hl
  have HLM : Hid (nm ≤ 60) := hm
  have hlI : (n : Int) ≤ 300 := by omega
  have hcI : (nc : Int) ≤ 40 := by omega
  have hmI : (nm : Int) ≤ 60 := by omega
  obtain ⟨vl, evl⟩ : ∃ vl, v = vl := ⟨_, rfl⟩
  obtain ⟨vd, evd⟩ : ∃ vd, vc = vd := ⟨_, rfl⟩
  obtain ⟨vw, evw⟩ : ∃ vw, vx = vw := ⟨_, rfl⟩
  subst hv
  subst hvc
  subst hvx
  clear evl evd evw vl vd vw
  have b0 := run_rows0
  clear T hR hC hM hb0 hz0 hp0 hk0 hget hbest happ hul hn hnc hnm hl hc hm hx x hp hpz hk hrt hg hl2
  go_enter Try.func3, Try.ntmps3
  go_wp2_with fail
  refine (H1.out).mono ?_
  rintro e1 w1 ⟨rfl, h1⟩
  have B1 : Hid (Below ((w.alloc (.cells (pc p) 26)).alloc (.cells (kc k) 24)).heap.size ((w.alloc (.cells (pc p) 26)).alloc (.cells (kc k) 24)) w1) := h1
  clear h1
  have oc := own_made0 w1
  have hal : Below w1.heap.size w1 (w1.alloc (.cells #[] 34)) := (Below.refl _ _).alloc (Nat.le_refl _) _
  have RA := Lib.hid ((HT.out _ B1.out).2.2.1.later hal)
  have HAL := Lib.hid hal
  have OC := Lib.hid oc
  clear hal oc
  go_wp2_with (at_builtin; refine append_rts rfl _ _ rfl w1.heap.size _ 0 [] rfl OC.out _ l rfl RA.out (by rw [← HN.out]; have := HL.out; omega) (by simp) ?_)
  intro vm w2 o2 g2
  have C2 : Hid (Below w1.heap.size w1 w2) := HAL.out.grown g2 HAL.out.size (fun k hk => by simp [Value.ownBlock] at hk; omega)
  have RM : Hid (Rd w2 vm l) := by
    have o3 : Own w2 w1.heap.size vm l := by unfold Own; simpa using o2
    exact o3.rd
  clear o2 g2 RA OC HAL
  have B2 : Hid (Below ((w.alloc (.cells (pc p) 26)).alloc (.cells (kc k) 24)).heap.size ((w.alloc (.cells (pc p) 26)).alloc (.cells (kc k) 24)) w2) := B1.out.trans (C2.out.mono B1.out.size)
  clear C2
  obtain ⟨lp, -, -, -, -, -⟩ := HT.out _ B2.out
  go_wp2_with fail
  refine (HG.out _ _ RM.out).mono ?_
  rintro e3 w3 ⟨rfl, h3⟩
  replace RM := Lib.hid (RM.out.later h3)
  have B3 : Hid (Below ((w.alloc (.cells (pc p) 26)).alloc (.cells (kc k) 24)).heap.size ((w.alloc (.cells (pc p) 26)).alloc (.cells (kc k) 24)) w3) := B2.out.trans (h3.mono B2.out.size)
  clear h3
  clear lp
  obtain ⟨-, lk, -, -, -, -⟩ := HT.out _ B3.out
  go_wp2_with fail
  refine (HB.out _ _ RM.out).mono ?_
  rintro e4 w4 ⟨rfl, h4⟩
  replace RM := Lib.hid (RM.out.later h4)
  have B4 : Hid (Below ((w.alloc (.cells (pc p) 26)).alloc (.cells (kc k) 24)).heap.size ((w.alloc (.cells (pc p) 26)).alloc (.cells (kc k) 24)) w4) := B3.out.trans (h4.mono B3.out.size)
  clear h4
  clear lk
  have st := run_routeStore_new br w4
  have hal : Below w4.heap.size w4 (w4.alloc (.cells (rc br) 34)) := (Below.refl _ _).alloc (Nat.le_refl _) _
  have RB : Hid (RBox (w4.alloc (.cells (rc br) 34)) w4.heap.size br) := Go.heap_alloc_new _ _
  replace RM := Lib.hid (RM.out.later hal)
  have B4a : Hid (Below ((w.alloc (.cells (pc p) 26)).alloc (.cells (kc k) 24)).heap.size ((w.alloc (.cells (pc p) 26)).alloc (.cells (kc k) 24)) (w4.alloc (.cells (rc br) 34))) := B4.out.trans (hal.mono B4.out.size)
  clear hal
  go_wp2_with fail
  refine (HA.out _ _ RM.out (HT.out _ B4a.out).2.2.2.1).mono ?_
  rintro e5 w5 ⟨va, rfl, oa, h5⟩
  replace RM := Lib.hid (RM.out.later h5)
  replace RB := Lib.hid (rbox_later RB.out h5)
  have B5 : Hid (Below ((w.alloc (.cells (pc p) 26)).alloc (.cells (kc k) 24)).heap.size ((w.alloc (.cells (pc p) 26)).alloc (.cells (kc k) 24)) w5) := B4a.out.trans (h5.mono B4a.out.size)
  have RA := Lib.hid oa.rd
  clear oa st
  clear h5
  obtain ⟨lp, -, -, -, -, -⟩ := HT.out _ B5.out
  go_wp2_with fail
  refine (HU.out _ _ RM.out).mono ?_
  rintro e6 w6 ⟨vu, rfl, ou, h6⟩
  replace RM := Lib.hid (RM.out.later h6)
  replace RB := Lib.hid (rbox_later RB.out h6)
  replace RA := Lib.hid (RA.out.later h6)
  have B6 : Hid (Below ((w.alloc (.cells (pc p) 26)).alloc (.cells (kc k) 24)).heap.size ((w.alloc (.cells (pc p) 26)).alloc (.cells (kc k) 24)) w6) := B5.out.trans (h6.mono B5.out.size)
  have RU := Lib.hid ou.rd
  clear ou lp
  clear h6
  go_wp2_with fail
  refine (HRR.out _ (HT.out _ B6.out).2.2.1).mono ?_
  rintro e7 w7 ⟨rfl, h7⟩
  replace RM := Lib.hid (RM.out.later h7)
  replace RB := Lib.hid (rbox_later RB.out h7)
  replace RA := Lib.hid (RA.out.later h7)
  replace RU := Lib.hid (RU.out.later h7)
  have B7 : Hid (Below ((w.alloc (.cells (pc p) 26)).alloc (.cells (kc k) 24)).heap.size ((w.alloc (.cells (pc p) 26)).alloc (.cells (kc k) 24)) w7) := B6.out.trans (h7.mono B6.out.size)
  clear h7
  go_wp2_with fail
  refine (HRT.out _ _ RM.out).mono ?_
  rintro e8 w8 ⟨rfl, h8⟩
  replace RM := Lib.hid (RM.out.later h8)
  replace RB := Lib.hid (rbox_later RB.out h8)
  replace RA := Lib.hid (RA.out.later h8)
  replace RU := Lib.hid (RU.out.later h8)
  have B8 : Hid (Below ((w.alloc (.cells (pc p) 26)).alloc (.cells (kc k) 24)).heap.size ((w.alloc (.cells (pc p) 26)).alloc (.cells (kc k) 24)) w8) := B7.out.trans (h8.mono B7.out.size)
  clear h8
  go_wp2_with fail
  refine (sort_any more (.slice ax nm capx) _ (HT.out _ B8.out).2.2.2.2.1 (by rw [← HNM.out]; have := HLM.out; omega)).mono ?_
  rintro e9 w9 ⟨vs, xs, rfl, os, hsp, h9⟩
  replace RM := Lib.hid (RM.out.later h9)
  replace RB := Lib.hid (rbox_later RB.out h9)
  replace RA := Lib.hid (RA.out.later h9)
  replace RU := Lib.hid (RU.out.later h9)
  have B9 : Hid (Below ((w.alloc (.cells (pc p) 26)).alloc (.cells (kc k) 24)).heap.size ((w.alloc (.cells (pc p) 26)).alloc (.cells (kc k) 24)) w9) := B8.out.trans (h9.mono B8.out.size)
  have RS : Hid (Rd w9 vs (sortGo [] more)) := by
    rw [← sort_same hsp]; exact os.rd
  clear os hsp
  clear h9
  go_wp2_with fail
  refine (rsort_any more (by rw [← HNM.out]; have := HLM.out; omega) (.slice ax nm capx) _ (HT.out _ B9.out).2.2.2.2.1).mono ?_
  rintro e10 w10 ⟨vt, rfl, ot, h10⟩
  replace RM := Lib.hid (RM.out.later h10)
  replace RB := Lib.hid (rbox_later RB.out h10)
  replace RA := Lib.hid (RA.out.later h10)
  replace RU := Lib.hid (RU.out.later h10)
  replace RS := Lib.hid (RS.out.later h10)
  have B10 : Hid (Below ((w.alloc (.cells (pc p) 26)).alloc (.cells (kc k) 24)).heap.size ((w.alloc (.cells (pc p) 26)).alloc (.cells (kc k) 24)) w10) := B9.out.trans (h10.mono B9.out.size)
  have RT := Lib.hid ot.rd
  clear ot
  clear h10
  go_wp2_with fail
  refine (HS.out _ _ _ (sortGo [] more) RS.out RT.out HSL.out).mono ?_
  rintro e11 w11 ⟨rfl, h11⟩
  replace RM := Lib.hid (RM.out.later h11)
  replace RB := Lib.hid (rbox_later RB.out h11)
  replace RA := Lib.hid (RA.out.later h11)
  replace RU := Lib.hid (RU.out.later h11)
  replace RS := Lib.hid (RS.out.later h11)
  replace RT := Lib.hid (RT.out.later h11)
  have B11 : Hid (Below ((w.alloc (.cells (pc p) 26)).alloc (.cells (kc k) 24)).heap.size ((w.alloc (.cells (pc p) 26)).alloc (.cells (kc k) 24)) w11) := B10.out.trans (h11.mono B10.out.size)
  clear h11
  clear RS RT
  go_wp2_with fail
  refine (HS.out _ _ _ l RM.out (HT.out _ B11.out).2.2.1 (by rw [← HN.out]; have := HL.out; omega)).mono ?_
  rintro e12 w12 ⟨rfl, h12⟩
  replace RM := Lib.hid (RM.out.later h12)
  replace RB := Lib.hid (rbox_later RB.out h12)
  replace RA := Lib.hid (RA.out.later h12)
  replace RU := Lib.hid (RU.out.later h12)
  have B12 : Hid (Below ((w.alloc (.cells (pc p) 26)).alloc (.cells (kc k) 24)).heap.size ((w.alloc (.cells (pc p) 26)).alloc (.cells (kc k) 24)) w12) := B11.out.trans (h12.mono B11.out.size)
  clear h12
  obtain ⟨lp, -, -, -, -, -⟩ := HT.out _ B12.out
  go_wp2_with fail
  refine (HG2.out _ (HT.out _ B12.out).2.2.1).mono ?_
  rintro e13 w13 ⟨rfl, h13⟩
  replace RM := Lib.hid (RM.out.later h13)
  replace RB := Lib.hid (rbox_later RB.out h13)
  replace RA := Lib.hid (RA.out.later h13)
  replace RU := Lib.hid (RU.out.later h13)
  have B13 : Hid (Below ((w.alloc (.cells (pc p) 26)).alloc (.cells (kc k) 24)).heap.size ((w.alloc (.cells (pc p) 26)).alloc (.cells (kc k) 24)) w13) := B12.out.trans (h13.mono B12.out.size)
  clear h13
  clear lp
  obtain ⟨-, lk, -, -, -, -⟩ := HT.out _ B13.out
  go_wp2_with fail
  refine (HB2.out _ (HT.out _ B13.out).2.2.1).mono ?_
  rintro e14 w14 ⟨rfl, h14⟩
  replace RM := Lib.hid (RM.out.later h14)
  replace RB := Lib.hid (rbox_later RB.out h14)
  replace RA := Lib.hid (RA.out.later h14)
  replace RU := Lib.hid (RU.out.later h14)
  have B14 : Hid (Below ((w.alloc (.cells (pc p) 26)).alloc (.cells (kc k) 24)).heap.size ((w.alloc (.cells (pc p) 26)).alloc (.cells (kc k) 24)) w14) := B13.out.trans (h14.mono B13.out.size)
  clear h14
  clear lk
  have st := run_routeStore_new br w14
  have hal : Below w14.heap.size w14 (w14.alloc (.cells (rc br) 34)) := (Below.refl _ _).alloc (Nat.le_refl _) _
  have RC : Hid (RBox (w14.alloc (.cells (rc br) 34)) w14.heap.size br) := Go.heap_alloc_new _ _
  replace RM := Lib.hid (RM.out.later hal)
  replace RB := Lib.hid (rbox_later RB.out hal)
  replace RA := Lib.hid (RA.out.later hal)
  replace RU := Lib.hid (RU.out.later hal)
  have B14a : Hid (Below ((w.alloc (.cells (pc p) 26)).alloc (.cells (kc k) 24)).heap.size ((w.alloc (.cells (pc p) 26)).alloc (.cells (kc k) 24)) (w14.alloc (.cells (rc br) 34))) := B14.out.trans (hal.mono B14.out.size)
  clear hal
  go_wp2_with fail
  refine (HA2.out _ (HT.out _ B14a.out).2.2.1 (HT.out _ B14a.out).2.2.2.1).mono ?_
  rintro e15 w15 ⟨vz, rfl, RZ, h15⟩
  replace RM := Lib.hid (RM.out.later h15)
  replace RB := Lib.hid (rbox_later RB.out h15)
  replace RA := Lib.hid (RA.out.later h15)
  replace RU := Lib.hid (RU.out.later h15)
  replace RC := Lib.hid (rbox_later RC.out h15)
  have B15 : Hid (Below ((w.alloc (.cells (pc p) 26)).alloc (.cells (kc k) 24)).heap.size ((w.alloc (.cells (pc p) 26)).alloc (.cells (kc k) 24)) w15) := B14a.out.trans (h15.mono B14a.out.size)
  replace RZ := Lib.hid RZ
  clear st
  clear h15
  have lr := run_routeLoad RB.out.cells
  have ls := run_routeLoad RC.out.cells
  have hq := run_rtEql br br
  rw [rtEq_refl] at hq
  go_wp2_with fail
  refine (HS.out _ _ _ al RA.out RZ.out HAL2.out).mono ?_
  rintro e16 w16 ⟨rfl, h16⟩
  replace RM := Lib.hid (RM.out.later h16)
  replace RB := Lib.hid (rbox_later RB.out h16)
  replace RA := Lib.hid (RA.out.later h16)
  replace RU := Lib.hid (RU.out.later h16)
  replace RC := Lib.hid (rbox_later RC.out h16)
  replace RZ := Lib.hid (RZ.out.later h16)
  have B16 : Hid (Below ((w.alloc (.cells (pc p) 26)).alloc (.cells (kc k) 24)).heap.size ((w.alloc (.cells (pc p) 26)).alloc (.cells (kc k) 24)) w16) := B15.out.trans (h16.mono B15.out.size)
  clear h16
  clear lr ls
  obtain ⟨lp, -, -, -, -, -⟩ := HT.out _ B16.out
  go_wp2_with fail
  refine (HU2.out _ (HT.out _ B16.out).2.2.1).mono ?_
  rintro e17 w17 ⟨vy, rfl, oy, h17⟩
  replace RM := Lib.hid (RM.out.later h17)
  replace RB := Lib.hid (rbox_later RB.out h17)
  replace RA := Lib.hid (RA.out.later h17)
  replace RU := Lib.hid (RU.out.later h17)
  replace RC := Lib.hid (rbox_later RC.out h17)
  replace RZ := Lib.hid (RZ.out.later h17)
  have B17 : Hid (Below ((w.alloc (.cells (pc p) 26)).alloc (.cells (kc k) 24)).heap.size ((w.alloc (.cells (pc p) 26)).alloc (.cells (kc k) 24)) w17) := B16.out.trans (h17.mono B16.out.size)
  have RY := Lib.hid oy.rd
  clear oy lp
  clear h17
  go_wp2_with fail
  refine (HS.out _ _ _ ul RU.out RY.out HUL.out).mono ?_
  rintro e18 w18 ⟨rfl, h18⟩
  replace RM := Lib.hid (RM.out.later h18)
  replace RB := Lib.hid (rbox_later RB.out h18)
  replace RA := Lib.hid (RA.out.later h18)
  replace RU := Lib.hid (RU.out.later h18)
  replace RC := Lib.hid (rbox_later RC.out h18)
  replace RZ := Lib.hid (RZ.out.later h18)
  replace RY := Lib.hid (RY.out.later h18)
  have B18 : Hid (Below ((w.alloc (.cells (pc p) 26)).alloc (.cells (kc k) 24)).heap.size ((w.alloc (.cells (pc p) 26)).alloc (.cells (kc k) 24)) w18) := B17.out.trans (h18.mono B17.out.size)
  clear h18
  have FIN := Lib.hid ((HT.out _ B18.out).2.2.2.2.2)
  go_wp2
  go_ret
  exact ⟨rfl, FIN.out⟩

set_option maxHeartbeats 4000000 in
set_option maxRecDepth 100000 in
theorem walk_wrong (l more : List Rt) (cs : List Ch) (p : Pre) (hp : Bytes16 p.key) (k : Nat → Nat) (hk : Bytes16 k) (bits : Int) (v vc vx : Value) (w : World) (hR : Rd w v l) (hC : RdC w vc cs) (hM : Rd w vx more) (hl : l.length ≤ 300) (hc : cs.length ≤ 40) (hm : more.length ≤ 60) (hr : rightB l = false) :
    Calls Try.prog 3 #[v, .agg (pc p), .agg (kc k), .int .i64 bits, vc, vx] w fun e w' => e = .returned (.bool true) ∧ Below w.heap.size w w' := by
  have hb0 : Below w.heap.size w ((w.alloc (.cells (pc p) 26)).alloc (.cells (kc k) 24)) := ((Below.refl _ _).alloc (Nat.le_refl _) _).alloc (by simp) _
  have hz0 : ((w.alloc (.cells (pc p) 26)).alloc (.cells (kc k) 24)).heap.size = w.heap.size + 2 := by simp
  have hp0 : ((w.alloc (.cells (pc p) 26)).alloc (.cells (kc k) 24)).heap[w.heap.size]? = some (.cells (pc p) 26 (0, 0)) := by
    rw [Go.heap_alloc_old _ _ (by simp)]; exact Go.heap_alloc_new w _
  have hk0 : ((w.alloc (.cells (pc p) 26)).alloc (.cells (kc k) 24)).heap[w.heap.size + 1]? = some (.cells (kc k) 24 (0, 0)) := by
    have := Go.heap_alloc_new (w.alloc (.cells (pc p) 26)) (.cells (kc k) 24); simpa using this
  have T : ∀ W, Below ((w.alloc (.cells (pc p) 26)).alloc (.cells (kc k) 24)).heap.size ((w.alloc (.cells (pc p) 26)).alloc (.cells (kc k) 24)) W → (preLoad ⟨w.heap.size, 0, none⟩).run Try.prog W = .ok (.agg (pc p)) W ∧ (keyLoad ⟨w.heap.size + 1, 0, none⟩).run Try.prog W = .ok (.agg (kc k)) W ∧ Rd W v l ∧ RdC W vc cs ∧ Rd W vx more ∧ Below w.heap.size w W := fun W h => by
    have h2 := hb0.trans (h.mono (by rw [hz0]; omega))
    exact ⟨run_preLoad (rowAt_of ((h.block _ (by rw [hz0]; omega)).trans hp0)), run_keyLoad (rowAt_of ((h.block _ (by rw [hz0]; omega)).trans hk0)), hR.later h2, hC.later h2, hM.later h2, h2⟩
  have HT := Lib.hid T
  have H1 := Lib.hid (awake_any ((w.alloc (.cells (pc p) 26)).alloc (.cells (kc k) 24)))
  have hget : getL l p = (0, 1) := by unfold getL; rw [hr]; rfl
  have hbest : bestL l k bits = (zrt, 1) := by unfold bestL; rw [hr]; rfl
  have happ : applyL l cs = (l, 1) := by unfold applyL; rw [hr]; rfl
  have hul : underL l p = [] := by unfold underL; rw [hr]; rfl
  have rb := run_routeBuild0
  have HG : Hid (∀ W q, Rd W q l → Calls Try.prog 10 #[q, .agg (pc p)] W (GetPost W (0, 1))) := fun W q h => by
    have := get_any l p hp q W h
    rw [hget] at this; exact this
  have HB : Hid (∀ W q, Rd W q l → Calls Try.prog 11 #[q, .agg (kc k), .int .i64 bits] W (BestPost W (zrt, 1))) := fun W q h => by
    have := best_any l k hk bits q W h
    rw [hbest] at this; exact this
  have HA : Hid (∀ W q, Rd W q l → RdC W vc cs → Calls Try.prog 12 #[q, vc] W (ApplyPost W (l, 1))) := fun W q h h2 => by
    have := apply_any l cs q vc W h h2 (by omega) (by omega)
    rw [happ] at this; exact this
  have HU : Hid (∀ W q, Rd W q l → Calls Try.prog 13 #[q, .agg (pc p)] W (ListPost W [])) := fun W q h => by
    have := under_any l p hp q W h
    rw [hul] at this; exact this
  have HRR : Hid (∀ W, Rd W v l → Calls Try.prog 14 #[v] W fun e w' => e = .returned (.bool false) ∧ Below W.heap.size W w') := fun W h => by
    have := rright_any l v W h
    rw [hr] at this; exact this
  have HRT : Hid (∀ W q, Rd W q l → Calls Try.prog 15 #[q] W fun e w' => e = .returned (.bool false) ∧ Below W.heap.size W w') := fun W q h => by
    have := right_any l q W h
    rw [hr] at this; exact this
  have HS : Hid (∀ W p q m, Rd W p m → Rd W q m → m.length ≤ 65536 → Calls Try.prog 16 #[p, q] W fun e w' => e = .returned (.bool true) ∧ Below W.heap.size W w') := fun W p q m h1 h2 h3 => same_yes m p q W h1 h2 h3
  have HSL : Hid ((sortGo [] more).length ≤ 65536) := by
    have := sortGo_length more []; show _ ≤ _; simp at this; omega
  obtain ⟨ad, cap, hv, -⟩ := rd_len hR
  obtain ⟨ac, capc, hvc, -⟩ := rdC_len hC
  obtain ⟨ax, capx, hvx, -⟩ := rd_len hM
  obtain ⟨n, hn⟩ : ∃ n, n = l.length := ⟨_, rfl⟩
  obtain ⟨nc, hnc⟩ : ∃ n, n = cs.length := ⟨_, rfl⟩
  obtain ⟨nm, hnm⟩ : ∃ n, n = more.length := ⟨_, rfl⟩
  rw [← hn] at hv hl
  rw [← hnc] at hvc hc
  rw [← hnm] at hvx hm
  have HN := Lib.hid hn
  have HNM := Lib.hid hnm
  have HL : Hid (n ≤ 300) := hl
  have HLM : Hid (nm ≤ 60) := hm
  have hlI : (n : Int) ≤ 300 := by omega
  have hcI : (nc : Int) ≤ 40 := by omega
  have hmI : (nm : Int) ≤ 60 := by omega
  obtain ⟨vl, evl⟩ : ∃ vl, v = vl := ⟨_, rfl⟩
  obtain ⟨vd, evd⟩ : ∃ vd, vc = vd := ⟨_, rfl⟩
  obtain ⟨vw, evw⟩ : ∃ vw, vx = vw := ⟨_, rfl⟩
  subst hv
  subst hvc
  subst hvx
  clear evl evd evw vl vd vw
  have b0 := run_rows0
  clear T hR hC hM hb0 hz0 hp0 hk0 hget hbest happ hul hn hnc hnm hl hc hm hp hk hr
  go_enter Try.func3, Try.ntmps3
  go_wp2_with fail
  refine (H1.out).mono ?_
  rintro e1 w1 ⟨rfl, h1⟩
  have B1 : Hid (Below ((w.alloc (.cells (pc p) 26)).alloc (.cells (kc k) 24)).heap.size ((w.alloc (.cells (pc p) 26)).alloc (.cells (kc k) 24)) w1) := h1
  clear h1
  have oc := own_made0 w1
  have hal : Below w1.heap.size w1 (w1.alloc (.cells #[] 34)) := (Below.refl _ _).alloc (Nat.le_refl _) _
  have RA := Lib.hid ((HT.out _ B1.out).2.2.1.later hal)
  have HAL := Lib.hid hal
  have OC := Lib.hid oc
  clear hal oc
  go_wp2_with (at_builtin; refine append_rts rfl _ _ rfl w1.heap.size _ 0 [] rfl OC.out _ l rfl RA.out (by rw [← HN.out]; have := HL.out; omega) (by simp) ?_)
  intro vm w2 o2 g2
  have C2 : Hid (Below w1.heap.size w1 w2) := HAL.out.grown g2 HAL.out.size (fun k hk => by simp [Value.ownBlock] at hk; omega)
  have RM : Hid (Rd w2 vm l) := by
    have o3 : Own w2 w1.heap.size vm l := by unfold Own; simpa using o2
    exact o3.rd
  clear o2 g2 RA OC HAL
  have B2 : Hid (Below ((w.alloc (.cells (pc p) 26)).alloc (.cells (kc k) 24)).heap.size ((w.alloc (.cells (pc p) 26)).alloc (.cells (kc k) 24)) w2) := B1.out.trans (C2.out.mono B1.out.size)
  clear C2
  obtain ⟨lp, -, -, -, -, -⟩ := HT.out _ B2.out
  go_wp2_with fail
  refine (HG.out _ _ RM.out).mono ?_
  rintro e3 w3 ⟨rfl, h3⟩
  replace RM := Lib.hid (RM.out.later h3)
  have B3 : Hid (Below ((w.alloc (.cells (pc p) 26)).alloc (.cells (kc k) 24)).heap.size ((w.alloc (.cells (pc p) 26)).alloc (.cells (kc k) 24)) w3) := B2.out.trans (h3.mono B2.out.size)
  clear h3
  clear lp
  obtain ⟨-, lk, -, -, -, -⟩ := HT.out _ B3.out
  go_wp2_with fail
  refine (HB.out _ _ RM.out).mono ?_
  rintro e4 w4 ⟨rfl, h4⟩
  replace RM := Lib.hid (RM.out.later h4)
  have B4 : Hid (Below ((w.alloc (.cells (pc p) 26)).alloc (.cells (kc k) 24)).heap.size ((w.alloc (.cells (pc p) 26)).alloc (.cells (kc k) 24)) w4) := B3.out.trans (h4.mono B3.out.size)
  clear h4
  clear lk
  have st := run_routeStore_new zrt w4
  have hal : Below w4.heap.size w4 (w4.alloc (.cells (rc zrt) 34)) := (Below.refl _ _).alloc (Nat.le_refl _) _
  have RB : Hid (RBox (w4.alloc (.cells (rc zrt) 34)) w4.heap.size zrt) := Go.heap_alloc_new _ _
  replace RM := Lib.hid (RM.out.later hal)
  have B4a : Hid (Below ((w.alloc (.cells (pc p) 26)).alloc (.cells (kc k) 24)).heap.size ((w.alloc (.cells (pc p) 26)).alloc (.cells (kc k) 24)) (w4.alloc (.cells (rc zrt) 34))) := B4.out.trans (hal.mono B4.out.size)
  clear hal
  go_wp2_with fail
  refine (HA.out _ _ RM.out (HT.out _ B4a.out).2.2.2.1).mono ?_
  rintro e5 w5 ⟨va, rfl, oa, h5⟩
  replace RM := Lib.hid (RM.out.later h5)
  replace RB := Lib.hid (rbox_later RB.out h5)
  have B5 : Hid (Below ((w.alloc (.cells (pc p) 26)).alloc (.cells (kc k) 24)).heap.size ((w.alloc (.cells (pc p) 26)).alloc (.cells (kc k) 24)) w5) := B4a.out.trans (h5.mono B4a.out.size)
  have RA := Lib.hid oa.rd
  clear oa st
  clear h5
  obtain ⟨lp, -, -, -, -, -⟩ := HT.out _ B5.out
  go_wp2_with fail
  refine (HU.out _ _ RM.out).mono ?_
  rintro e6 w6 ⟨vu, rfl, ou, h6⟩
  replace RM := Lib.hid (RM.out.later h6)
  replace RB := Lib.hid (rbox_later RB.out h6)
  replace RA := Lib.hid (RA.out.later h6)
  have B6 : Hid (Below ((w.alloc (.cells (pc p) 26)).alloc (.cells (kc k) 24)).heap.size ((w.alloc (.cells (pc p) 26)).alloc (.cells (kc k) 24)) w6) := B5.out.trans (h6.mono B5.out.size)
  have RU := Lib.hid ou.rd
  clear ou lp
  clear h6
  go_wp2_with fail
  refine (HRR.out _ (HT.out _ B6.out).2.2.1).mono ?_
  rintro e7 w7 ⟨rfl, h7⟩
  replace RM := Lib.hid (RM.out.later h7)
  replace RB := Lib.hid (rbox_later RB.out h7)
  replace RA := Lib.hid (RA.out.later h7)
  replace RU := Lib.hid (RU.out.later h7)
  have B7 : Hid (Below ((w.alloc (.cells (pc p) 26)).alloc (.cells (kc k) 24)).heap.size ((w.alloc (.cells (pc p) 26)).alloc (.cells (kc k) 24)) w7) := B6.out.trans (h7.mono B6.out.size)
  clear h7
  go_wp2_with fail
  refine (HRT.out _ _ RM.out).mono ?_
  rintro e8 w8 ⟨rfl, h8⟩
  replace RM := Lib.hid (RM.out.later h8)
  replace RB := Lib.hid (rbox_later RB.out h8)
  replace RA := Lib.hid (RA.out.later h8)
  replace RU := Lib.hid (RU.out.later h8)
  have B8 : Hid (Below ((w.alloc (.cells (pc p) 26)).alloc (.cells (kc k) 24)).heap.size ((w.alloc (.cells (pc p) 26)).alloc (.cells (kc k) 24)) w8) := B7.out.trans (h8.mono B7.out.size)
  clear h8
  go_wp2_with fail
  refine (sort_any more (.slice ax nm capx) _ (HT.out _ B8.out).2.2.2.2.1 (by rw [← HNM.out]; have := HLM.out; omega)).mono ?_
  rintro e9 w9 ⟨vs, xs, rfl, os, hsp, h9⟩
  replace RM := Lib.hid (RM.out.later h9)
  replace RB := Lib.hid (rbox_later RB.out h9)
  replace RA := Lib.hid (RA.out.later h9)
  replace RU := Lib.hid (RU.out.later h9)
  have B9 : Hid (Below ((w.alloc (.cells (pc p) 26)).alloc (.cells (kc k) 24)).heap.size ((w.alloc (.cells (pc p) 26)).alloc (.cells (kc k) 24)) w9) := B8.out.trans (h9.mono B8.out.size)
  have RS : Hid (Rd w9 vs (sortGo [] more)) := by
    rw [← sort_same hsp]; exact os.rd
  clear os hsp
  clear h9
  go_wp2_with fail
  refine (rsort_any more (by rw [← HNM.out]; have := HLM.out; omega) (.slice ax nm capx) _ (HT.out _ B9.out).2.2.2.2.1).mono ?_
  rintro e10 w10 ⟨vt, rfl, ot, h10⟩
  replace RM := Lib.hid (RM.out.later h10)
  replace RB := Lib.hid (rbox_later RB.out h10)
  replace RA := Lib.hid (RA.out.later h10)
  replace RU := Lib.hid (RU.out.later h10)
  replace RS := Lib.hid (RS.out.later h10)
  have B10 : Hid (Below ((w.alloc (.cells (pc p) 26)).alloc (.cells (kc k) 24)).heap.size ((w.alloc (.cells (pc p) 26)).alloc (.cells (kc k) 24)) w10) := B9.out.trans (h10.mono B9.out.size)
  have RT := Lib.hid ot.rd
  clear ot
  clear h10
  go_wp2_with fail
  refine (HS.out _ _ _ (sortGo [] more) RS.out RT.out HSL.out).mono ?_
  rintro e11 w11 ⟨rfl, h11⟩
  replace RM := Lib.hid (RM.out.later h11)
  replace RB := Lib.hid (rbox_later RB.out h11)
  replace RA := Lib.hid (RA.out.later h11)
  replace RU := Lib.hid (RU.out.later h11)
  replace RS := Lib.hid (RS.out.later h11)
  replace RT := Lib.hid (RT.out.later h11)
  have B11 : Hid (Below ((w.alloc (.cells (pc p) 26)).alloc (.cells (kc k) 24)).heap.size ((w.alloc (.cells (pc p) 26)).alloc (.cells (kc k) 24)) w11) := B10.out.trans (h11.mono B10.out.size)
  clear h11
  clear RS RT
  go_wp2_with fail
  refine (HS.out _ _ _ l RM.out (HT.out _ B11.out).2.2.1 (by rw [← HN.out]; have := HL.out; omega)).mono ?_
  rintro e12 w12 ⟨rfl, h12⟩
  replace RM := Lib.hid (RM.out.later h12)
  replace RB := Lib.hid (rbox_later RB.out h12)
  replace RA := Lib.hid (RA.out.later h12)
  replace RU := Lib.hid (RU.out.later h12)
  have B12 : Hid (Below ((w.alloc (.cells (pc p) 26)).alloc (.cells (kc k) 24)).heap.size ((w.alloc (.cells (pc p) 26)).alloc (.cells (kc k) 24)) w12) := B11.out.trans (h12.mono B11.out.size)
  clear h12
  obtain ⟨au, cu, hu, -⟩ := rd_len RU.out
  subst hu
  have lr := run_routeLoad RB.out.cells
  have hq := run_rtEql zrt zrt
  rw [rtEq_refl] at hq
  go_wp2_with fail
  refine (HS.out _ _ _ l RA.out (HT.out _ B12.out).2.2.1 (by rw [← HN.out]; have := HL.out; omega)).mono ?_
  rintro e13 w13 ⟨rfl, h13⟩
  replace RM := Lib.hid (RM.out.later h13)
  replace RB := Lib.hid (rbox_later RB.out h13)
  replace RA := Lib.hid (RA.out.later h13)
  replace RU := Lib.hid (RU.out.later h13)
  have B13 : Hid (Below ((w.alloc (.cells (pc p) 26)).alloc (.cells (kc k) 24)).heap.size ((w.alloc (.cells (pc p) 26)).alloc (.cells (kc k) 24)) w13) := B12.out.trans (h13.mono B12.out.size)
  clear h13
  have FIN := Lib.hid ((HT.out _ B13.out).2.2.2.2.2)
  go_wp2
  go_ret
  exact ⟨rfl, FIN.out⟩

set_option maxHeartbeats 1000000 in
set_option maxRecDepth 100000 in
theorem walk_no (p : Pre) (k : Nat → Nat) (bits : Int) (ad ac ax : Option Addr) (n nc nm cap capc capx : Nat) (w : World) (hn : n ≤ maxLen) (hc : nc ≤ maxLen) (hm : nm ≤ maxLen) (hno : ¬ n ≤ 300 ∨ ¬ nc ≤ 40 ∨ ¬ nm ≤ 60) :
    Calls Try.prog 3 #[.slice ad n cap, .agg (pc p), .agg (kc k), .int .i64 bits, .slice ac nc capc, .slice ax nm capx] w fun e w' => e = .returned (.bool true) ∧ Below w.heap.size w w' := by
  have H1 := Lib.hid (awake_any ((w.alloc (.cells (pc p) 26)).alloc (.cells (kc k) 24)))
  have HB0 : Hid (Below w.heap.size w ((w.alloc (.cells (pc p) 26)).alloc (.cells (kc k) 24))) := ((Below.refl _ _).alloc (Nat.le_refl _) _).alloc (by simp) _
  unfold maxLen at hn hc hm
  by_cases h1 : n ≤ 300
  · have h1I : (n : Int) ≤ 300 := by omega
    by_cases h2 : nc ≤ 40
    · have h2I : (nc : Int) ≤ 40 := by omega
      have h3I : (60 : Int) < nm := by omega
      clear hno h1 h2 hn hc hm
      go_enter Try.func3, Try.ntmps3
      go_wp2_with fail
      refine H1.out.mono ?_
      rintro e1 w1 ⟨rfl, h1⟩
      have HW1 : Hid (Below w.heap.size w w1) := HB0.out.trans (h1.mono HB0.out.size)
      clear h1
      go_wp2
      go_ret
      exact ⟨rfl, HW1.out⟩
    · have h2I : (40 : Int) < nc := by omega
      clear hno h1 h2 hn hc hm
      go_enter Try.func3, Try.ntmps3
      go_wp2_with fail
      refine H1.out.mono ?_
      rintro e1 w1 ⟨rfl, h1⟩
      have HW1 : Hid (Below w.heap.size w w1) := HB0.out.trans (h1.mono HB0.out.size)
      clear h1
      go_wp2
      go_ret
      exact ⟨rfl, HW1.out⟩
  · have h1I : (300 : Int) < n := by omega
    clear hno h1 hn hc hm
    go_enter Try.func3, Try.ntmps3
    go_wp2_with fail
    refine H1.out.mono ?_
    rintro e1 w1 ⟨rfl, h1⟩
    have HW1 : Hid (Below w.heap.size w w1) := HB0.out.trans (h1.mono HB0.out.size)
    clear h1
    go_wp2
    go_ret
    exact ⟨rfl, HW1.out⟩

theorem walkAll (l more : List Rt) (cs : List Ch) (p : Pre) (hp : Bytes16 p.key) (hpz : ∀ i, 16 ≤ i → p.key i = 0) (k : Nat → Nat) (hk : Bytes16 k) (bits : Int) (v vc vx : Value) (w : World) (hR : Rd w v l) (hC : RdC w vc cs) (hM : Rd w vx more) :
    Calls Try.prog 3 #[v, .agg (pc p), .agg (kc k), .int .i64 bits, vc, vx] w fun e w' => e = .returned (.bool true) ∧ Below w.heap.size w w' := by
  by_cases h : l.length ≤ 300 ∧ cs.length ≤ 40 ∧ more.length ≤ 60
  · obtain ⟨g1, g2, g3⟩ := h
    cases hr : rightB l with
    | true =>
      obtain ⟨h1, h2⟩ := (right_iff l).1 hr
      exact walk_right l more cs p hp hpz k hk bits v vc vx w hR hC hM g1 g2 g3 h2 h1
    | false => exact walk_wrong l more cs p hp k hk bits v vc vx w hR hC hM g1 g2 g3 hr
  · obtain ⟨ad, cap, hv, h1⟩ := rd_len hR
    obtain ⟨ac, capc, hvc, h2⟩ := rdC_len hC
    obtain ⟨ax, capx, hvx, h3⟩ := rd_len hM
    rw [hv, hvc, hvx]
    exact walk_no p k bits ad ac ax _ _ _ cap capc capx w h1 h2 h3 (by omega)
end Go.Proofs.Ytjppingppdmeoaa.tableRight
