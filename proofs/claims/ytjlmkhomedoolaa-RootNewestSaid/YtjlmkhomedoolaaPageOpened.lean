/- page.opened: what it hands back. -/
import Derived.Test.YtjlmkhomedoolaaPageBox
namespace Go.Proofs.Ytjlmkhomedoolaa.Page
open Go.RowKit Go.Sort
attribute [local go_sem ↓] slice_bytes loadVar_page storeVar_page

theorem step_mem {P : Program} {ops : Array Oper} {Q : Exit → Act → World → Prop} {G : Nat → Value → World → Prop} {i : Nat} {o : Oper} {a : Act} {w : World} (hw : Region.wanted o (yielded ops a.tmps) = true) {v : Value} {w' : World}
    (hr : (execOp a.eval o).run P w = .ok (.value v) w') (hb : Below w.heap.size w w') (hg : G i v w') : StepOk P ops Q G i o a w :=
  .inl ⟨hw, by unfold Oper.wp; rw [hr]; exact ⟨v, rfl, hb, hg⟩⟩
def Gd.own (base : Nat) (l : List UInt8) : Gd := ⟨fun v w => OwnB w base v l, fun _ _ _ h hb => h.later hb⟩
def Gd.page (base : Nat) (k0 k1 g : Nat) (l : List UInt8) : Gd := ⟨fun v w => ∃ u, v = .agg #[.int .i64 (k0 : Int), .int .i64 (k1 : Int), .int .u64 (g : Int), u] ∧ OwnB w base u l, fun _ _ _ ⟨u, h1, h2⟩ hb => ⟨u, h1, h2.later hb⟩⟩
def Gd.box (base : Nat) : Gd := ⟨fun v w => ∃ B, v = .pointer (some ⟨B, 0, none⟩) ∧ Box w B zp ∧ base ≤ B, fun _ _ _ ⟨B, h1, h2, h3⟩ hb => ⟨B, h1, h2.later hb, h3⟩⟩

/-- A block of the call's own is not one of another type. -/
theorem own_apart {w : World} {base : Nat} {v : Value} {l : List UInt8} (h : OwnB w base v l) {g : Nat} {cur : Array Value} {t : TypeId} (hg : w.heap[g]? = some (.cells cur t (0, 0))) (ht : 5 ≠ t) : v.ownBlock ≠ some g := by
  intro he
  rcases h.2 with ⟨h1, -⟩ | ⟨g', cap, cur', h1, -, h3, -⟩
  · rw [h1] at he; cases he
  · rw [h1] at he
    cases he
    rw [h3] at hg
    cases hg
    exact ht rfl

def OpenedPost (l : List UInt8) (n : Nat) (w : World) (e : Ending) (w' : World) : Prop :=
  ∃ vb, e = .returned (.tuple #[pgV (if goodB l n = true then openedP l else zeroP) vb, .bool (goodB l n)]) ∧ OwnB w' w.heap.size vb (if goodB l n = true then openedP l else zeroP).body ∧ Below w.heap.size w w'
theorem opened_no {l : List UInt8} {n : Nat} (h : goodB l n = false) (w : World) (e : Ending) (w' : World) (he : e = .returned (.tuple #[.agg zp, .bool false])) (hb : Below w.heap.size w w') : OpenedPost l n w e w' := by
  unfold OpenedPost
  rw [h, if_neg (by decide)]
  exact ⟨.slice none 0 0, he, OwnB.nil _ _, hb⟩

set_option maxHeartbeats 2000000 in
set_option maxRecDepth 100000 in
theorem opened_any (l : List UInt8) (v : Value) (n : Nat) (w : World) (hR : RdB w v l) (h1 : 24 ≤ n) (h2 : n ≤ 256) (hl : l.length = n - 4) :
    Calls Try.prog 30 #[v, .int .i64 (n : Int)] w (OpenedPost l n w) := by
  have hb0 : Below w.heap.size w (w.alloc (.cells zp 45)) := (Below.refl _ _).alloc (Nat.le_refl _) _
  have hx := Box.new w zp
  have hsz : (w.alloc (.cells zp 45)).heap.size = w.heap.size + 1 := by simp
  obtain ⟨vM, fM, rM⟩ := slice_part hR (lo := 8) (hi := 10) (by decide) (by omega)
  obtain ⟨vS, fS, rS⟩ := slice_part hR (lo := 2) (hi := 8) (by decide) (by omega)
  have hroom : roomI (n : Int) = ((n - 16 : Nat) : Int) := by rw [room_of (sized_iff.2 ⟨by omega, by omega⟩)]; omega
  have C1 := Lib.hid (get_any _ _ (w.alloc (.cells zp 45)) (rM.later hb0))
  have C20 := room_any (n : Int) (w.alloc (.cells zp 45))
  rw [hroom] at C20
  have C2 := Lib.hid C20
  clear C20
  have stz := store_new w zeroP (v := .slice none 0 0) rfl
  rw [← zp_is] at stz
  have hmany : getB ((l.drop 8).take (10 - 8)) = manyN l := rfl
  rw [hmany] at C1
  have hmlt : manyN l < 65536 := by
    have h := valB_lt ((l.drop 8).take 2)
    unfold manyN
    rw [getB_val]
    have h3 : ((l.drop 8).take 2).length = 2 := by rw [List.length_take, List.length_drop]; omega
    rw [h3] at h
    have : (256 : Nat) ^ 2 = 65536 := by decide
    have := Nat.mod_le (valB ((l.drop 8).take 2)) 18446744073709551616
    omega
  have f8 := fun W => fM .i64 .i64 8 10 W rfl rfl
  have hgood : goodB l n = (decide (manyN l ≤ n - 16) && (mayB (openedP l) n && allB (l.drop (10 + manyN l)) 0)) := rfl
  have HL := Lib.hid hl
  obtain ⟨bb, o, cap, hv, hcs⟩ := hR.form (by omega)
  obtain ⟨K, hK⟩ : ∃ K, l.length = K := ⟨_, rfl⟩
  rw [hK] at hv
  have HRR := Lib.hid hR
  have HCS := Lib.hid hcs
  obtain ⟨W0, hW0⟩ : ∃ W, W = w.alloc (.cells zp 45) := ⟨_, rfl⟩
  have HW0 := Lib.hid hW0
  unfold zp at HW0
  rw [← hW0] at C1 C2 stz hb0 hx hsz
  have HB0 := Lib.hid hb0
  have HX0 := Lib.hid hx
  have HSZ0 := Lib.hid hsz
  have HFS := Lib.hid (fun W => fS .i64 .i64 2 8 W rfl rfl)
  have HRS0 : Hid (RdB W0 vS ((l.drop 2).take 6)) := rS.later hb0
  have HG := Lib.hid hgood
  obtain ⟨m, hm⟩ : ∃ m, manyN l = m := ⟨_, rfl⟩
  rw [hm] at C1 hmlt HG
  have HM := Lib.hid hm
  subst hv
  clear hR rM rS fM fS hgood hm hmany hroom hb0 hx hcs
  by_cases hmr : n - 16 < m
  · have q : (((n - 16 : Nat) : Int) < (m : Int)) := by omega
    have HGF : Hid (goodB l n = false) := by
      show _ = _
      rw [HG.out, decide_eq_false (by omega)]; rfl
    have hld := HX0.out.load rfl
    unfold zp at stz hld
    clear hmr
    obtain ⟨r, hr⟩ : ∃ r, n - 16 = r := ⟨_, rfl⟩
    rw [hr] at q C2
    have hr3 : r ≤ 240 := by omega
    clear hl hr
    go_enter Try.func30, Try.ntmps30
    go_upto_region 1 with fail
    rw [← HW0.out]
    clear hW0
    go_wp2_with fail
    refine C1.out.mono ?_
    rintro e w1 ⟨rfl, rfl⟩
    go_wp2_with fail
    refine C2.out.mono ?_
    rintro e w1 ⟨rfl, rfl⟩
    go_wp2
    exact bodyPost_ret (v := .tuple #[.agg zp, .bool false]) (results_row_tmp rfl _ _ _ _ rfl rfl hld) rfl (opened_no HGF.out _ _ _ rfl HB0.out)
  · have q : ¬ (((n - 16 : Nat) : Int) < (m : Int)) := by omega
    have hGM : goodB l n = (mayB (openedP l) n && allB (l.drop (10 + m)) 0) := by rw [HG.out, decide_eq_true (by omega)]; rfl
    have HGM := Lib.hid hGM
    obtain ⟨vBody, fBd, rBd⟩ := slice_part HRR.out (lo := 10) (hi := 10 + m) (by omega) (by rw [hl]; omega)
    obtain ⟨vBeh, fBh, rBh⟩ := slice_from HRR.out (k := 10 + m) (by rw [hl]; omega)
    rw [Nat.add_sub_cancel_left] at rBd
    have g1 := fun W => fBd .i64 .u64 10 (10 + (m : Int)) W rfl (by omega)
    have g2 := fun W => fBh .u64 (10 + (m : Int)) W (by omega)
    have hr240 : n - 16 ≤ 240 := by omega
    have hm240 : (m : Int) ≤ 240 := by omega
    have hlI : (1 : Int) < (K : Int) := by omega
    have hlN : 1 < K := by omega
    have hlP : 0 < K := by omega
    obtain ⟨x0, hx0⟩ : ∃ x, l[0]? = some x := ⟨_, List.getElem?_eq_getElem (by omega)⟩
    obtain ⟨x1, hx1⟩ : ∃ x, l[1]? = some x := ⟨_, List.getElem?_eq_getElem (by omega)⟩
    have hc0 := cell_keep (HCS.out 0 x0 hx0) HB0.out
    have hc1 := cell_keep (HCS.out 1 x1 hx1) HB0.out
    rw [Nat.add_zero] at hc0
    unfold byV at hc0 hc1
    obtain ⟨BODY, hBODY⟩ : ∃ b, (l.drop 10).take m = b := ⟨_, rfl⟩
    have hP : openedP l = ⟨(x0.toNat : Int), (x1.toNat : Int), getB ((l.drop 2).take 6), BODY⟩ := by
      unfold openedP
      rw [HM.out, hBODY, List.getD_eq_getElem?_getD, hx0, List.getD_eq_getElem?_getD, hx1]; rfl
    obtain ⟨k0, hk0⟩ : ∃ k, x0.toNat = k := ⟨_, rfl⟩
    obtain ⟨k1, hk1⟩ : ∃ k, x1.toNat = k := ⟨_, rfl⟩
    have hk0l : k0 < 256 := by rw [← hk0]; exact x0.toNat_lt
    have hk1l : k1 < 256 := by rw [← hk1]; exact x1.toNat_lt
    rw [hk0] at hc0 hP
    rw [hk1] at hc1 hP
    have HP := Lib.hid hP
    have hw0 : IntKind.i64.wrap (k0 : Int) = k0 := by rw [IntKind.wrap_i64]; omega
    have hw1 : IntKind.i64.wrap (k1 : Int) = k1 := by rw [IntKind.wrap_i64]; omega
    have HW01 := Lib.hid (And.intro hw0 hw1)
    have hBL : BODY.length ≤ 900000 := by rw [← hBODY, List.length_take]; omega
    have HBL := Lib.hid hBL
    rw [hBODY] at rBd
    have HRB0 := Lib.hid (rBd.later HB0.out)
    have HRH := Lib.hid rBh
    have HC00 := Lib.hid hc0
    have HC10 := Lib.hid hc1
    obtain ⟨r, hr⟩ : ∃ r, n - 16 = r := ⟨_, rfl⟩
    rw [hr] at q C2 hr240
    clear hw0 hw1 hl hr hmr hx0 hx1 hP hBL rBd rBh hc0 hc1 hk0 hk1 hBODY fBd fBh hGM
    go_enter Try.func30, Try.ntmps30
    go_upto_region 1 with fail
    rw [← HW0.out]
    clear hW0
    go_wp2_with fail
    refine C1.out.mono ?_
    rintro e w1 ⟨rfl, rfl⟩
    go_wp2_with fail
    refine C2.out.mono ?_
    rintro e w1 ⟨rfl, rfl⟩
    go_wp2_with fail
    go_quiet (fail)
    rename_i nq
    have hq : Below W0.heap.size W0 (W0.drewN nq) := ⟨rfl, rfl, rfl, Nat.le_refl _, fun _ _ => rfl⟩
    have B1 := Lib.hid (HB0.out.trans (hq.mono HB0.out.size))
    have HX1 := Lib.hid (HX0.out.later hq)
    have HRB := Lib.hid (HRB0.out.later hq)
    have HC0 := Lib.hid (cell_keep HC00.out hq)
    have HC1 := Lib.hid (cell_keep HC10.out hq)
    have HSZ : Hid (w.heap.size + 1 ≤ (W0.drewN nq).heap.size) := by show _ ≤ _; rw [← HSZ0.out]; exact hq.size
    have HRS := Lib.hid (HRS0.out.later hq)
    obtain ⟨W1, hW1⟩ : ∃ W, W0.drewN nq = W := ⟨_, rfl⟩
    rw [hW1] at B1 HX1 HRB HC0 HC1 HSZ HRS ⊢
    clear hq hW1 g1 g2 f8
    go_wp2_with fail
    refine region_slots_tail 15 (by kernel_rfl) (by kernel_rfl) (by kernel_rfl) (Gof [Gd.eq (.slice (some ⟨bb, o, none⟩) K cap), Gd.eq (.pointer (some ⟨bb, o, none⟩)), Gd.eq (.int .u8 (k0 : Int)), Gd.eq (.int .i64 (k0 : Int)), Gd.eq (.slice (some ⟨bb, o, none⟩) K cap), Gd.eq (.pointer (some ⟨bb, o + 1, none⟩)), Gd.eq (.int .u8 (k1 : Int)), Gd.eq (.int .i64 (k1 : Int)), Gd.eq (.slice (some ⟨bb, o, none⟩) K cap), Gd.eq (vS), Gd.eq (.int .u64 ((getB ((l.drop 2).take 6) : Nat) : Int)), Gd.eq (vBody), Gd.own (w.heap.size + 1) BODY, Gd.page (w.heap.size + 1) k0 k1 (getB ((l.drop 2).take 6)) BODY, Gd.box (w.heap.size + 1)]) (Gof_st _) (steps_all ?_) ?_
    · dsimp only [headOps, List.take]
      refine StepsFrom.cons ?s0 (StepsFrom.cons ?s1 (StepsFrom.cons ?s2 (StepsFrom.cons ?s3 (StepsFrom.cons ?s4 (StepsFrom.cons ?s5 (StepsFrom.cons ?s6 (StepsFrom.cons ?s7 (StepsFrom.cons ?s8 (StepsFrom.cons ?s9 (StepsFrom.cons ?s10 (StepsFrom.cons ?s11 (StepsFrom.cons ?s12 (StepsFrom.cons ?s13 (StepsFrom.cons ?s14 StepsFrom.nil))))))))))))))
      case s0 =>
        intro ac wc hU
        have e0 : slot ac 0 = .slice (some ⟨bb, o, none⟩) K cap := (hU.keep 0 (by kernel_rfl)).trans rfl
        refine step_val (wanted_none rfl) (run_move rfl) ?_
        show (Gd.eq (.slice (some ⟨bb, o, none⟩) K cap)).p _ wc
        exact (by rw [eval_tmp]; exact e0)
      case s1 =>
        intro ac wc hU
        have e27 : (Gd.eq (.slice (some ⟨bb, o, none⟩) K cap)).p (slot ac 27) wc := hU.dep 0 27 (by kernel_rfl)
        refine step_val (wanted_none rfl) (v := .pointer (some ⟨bb, o, none⟩)) ?_ rfl
        have e27 : slot ac 27 = .slice (some ⟨bb, o, none⟩) K cap := e27
        simp [execOp, eval_tmp, eval_const, e27] <;> go_simp
      case s2 =>
        intro ac wc hU
        have e28 : (Gd.eq (.pointer (some ⟨bb, o, none⟩))).p (slot ac 28) wc := hU.dep 1 28 (by kernel_rfl)
        refine step_val (wanted_none rfl) (v := .int .u8 (k0 : Int)) ?_ rfl
        have c := cell_keep HC0.out hU.below
        have e28 : slot ac 28 = .pointer (some ⟨bb, o, none⟩) := e28
        simp [execOp, eval_tmp, e28] <;> go_simp
      case s3 =>
        intro ac wc hU
        have e29 : (Gd.eq (.int .u8 (k0 : Int))).p (slot ac 29) wc := hU.dep 2 29 (by kernel_rfl)
        refine step_val (wanted_none rfl) (v := .int .i64 (k0 : Int)) ?_ rfl
        have e29 : slot ac 29 = .int .u8 (k0 : Int) := e29
        simp [execOp, eval_tmp, e29] <;> go_simp
        exact HW01.out.1
      case s4 =>
        intro ac wc hU
        have e0 : slot ac 0 = .slice (some ⟨bb, o, none⟩) K cap := (hU.keep 0 (by kernel_rfl)).trans rfl
        refine step_val (wanted_none rfl) (run_move rfl) ?_
        show (Gd.eq (.slice (some ⟨bb, o, none⟩) K cap)).p _ wc
        exact (by rw [eval_tmp]; exact e0)
      case s5 =>
        intro ac wc hU
        have e31 : (Gd.eq (.slice (some ⟨bb, o, none⟩) K cap)).p (slot ac 31) wc := hU.dep 4 31 (by kernel_rfl)
        refine step_val (wanted_none rfl) (v := .pointer (some ⟨bb, o + 1, none⟩)) ?_ rfl
        have e31 : slot ac 31 = .slice (some ⟨bb, o, none⟩) K cap := e31
        simp [execOp, eval_tmp, eval_const, e31] <;> go_simp
      case s6 =>
        intro ac wc hU
        have e32 : (Gd.eq (.pointer (some ⟨bb, o + 1, none⟩))).p (slot ac 32) wc := hU.dep 5 32 (by kernel_rfl)
        refine step_val (wanted_none rfl) (v := .int .u8 (k1 : Int)) ?_ rfl
        have c := cell_keep HC1.out hU.below
        have e32 : slot ac 32 = .pointer (some ⟨bb, o + 1, none⟩) := e32
        simp [execOp, eval_tmp, e32] <;> go_simp
      case s7 =>
        intro ac wc hU
        have e33 : (Gd.eq (.int .u8 (k1 : Int))).p (slot ac 33) wc := hU.dep 6 33 (by kernel_rfl)
        refine step_val (wanted_none rfl) (v := .int .i64 (k1 : Int)) ?_ rfl
        have e33 : slot ac 33 = .int .u8 (k1 : Int) := e33
        simp [execOp, eval_tmp, e33] <;> go_simp
        exact HW01.out.2
      case s8 =>
        intro ac wc hU
        have e0 : slot ac 0 = .slice (some ⟨bb, o, none⟩) K cap := (hU.keep 0 (by kernel_rfl)).trans rfl
        refine step_val (wanted_none rfl) (run_move rfl) ?_
        show (Gd.eq (.slice (some ⟨bb, o, none⟩) K cap)).p _ wc
        exact (by rw [eval_tmp]; exact e0)
      case s9 =>
        intro ac wc hU
        have e35 : (Gd.eq (.slice (some ⟨bb, o, none⟩) K cap)).p (slot ac 35) wc := hU.dep 8 35 (by kernel_rfl)
        refine step_val (wanted_none rfl) (v := vS) ?_ rfl
        have f := HFS.out wc
        have e35 : slot ac 35 = .slice (some ⟨bb, o, none⟩) K cap := e35
        simp [execOp, eval_tmp, eval_const, e35] <;> go_simp
      case s10 =>
        intro ac wc hU
        have e36 : (Gd.eq (vS)).p (slot ac 36) wc := hU.dep 9 36 (by kernel_rfl)
        refine step_call (wanted_none rfl) (f := 37) (args := #[(vS)]) ?_ ?_
        · have e36 : slot ac 36 = vS := e36
          simp [execOp, resolve, invoke, eval_tmp, e36] <;> go_simp
        · refine (get_any _ _ wc (HRS.out.later hU.below)).mono ?_
          rintro e w' ⟨rfl, rfl⟩; exact ⟨_, rfl, Below.refl _ _, rfl⟩
      case s11 =>
        intro ac wc hU
        have e7 : slot ac 7 = vBody := (hU.keep 7 (by kernel_rfl)).trans rfl
        refine step_val (wanted_none rfl) (run_move rfl) ?_
        show (Gd.eq (vBody)).p _ wc
        exact (by rw [eval_tmp]; exact e7)
      case s12 =>
        intro ac wc hU
        have e38 : (Gd.eq (vBody)).p (slot ac 38) wc := hU.dep 11 38 (by kernel_rfl)
        refine step_call (wanted_none rfl) (f := 36) (args := #[(vBody)]) ?_ ?_
        · have e38 : slot ac 38 = vBody := e38
          simp [execOp, resolve, invoke, eval_tmp, e38] <;> go_simp
        · refine (clone_any BODY _ wc (HRB.out.later hU.below) HBL.out).mono ?_
          rintro e w' ⟨v', rfl, ho, hb⟩; exact ⟨v', rfl, hb, ho.mono (Nat.le_trans HSZ.out hU.below.size)⟩
      case s13 =>
        intro ac wc hU
        have e30 : (Gd.eq (.int .i64 (k0 : Int))).p (slot ac 30) wc := hU.dep 3 30 (by kernel_rfl)
        have e34 : (Gd.eq (.int .i64 (k1 : Int))).p (slot ac 34) wc := hU.dep 7 34 (by kernel_rfl)
        have e37 : (Gd.eq (.int .u64 ((getB ((l.drop 2).take 6) : Nat) : Int))).p (slot ac 37) wc := hU.dep 10 37 (by kernel_rfl)
        have e39 : (Gd.own (w.heap.size + 1) BODY).p (slot ac 39) wc := hU.dep 12 39 (by kernel_rfl)
        have e30 : slot ac 30 = .int .i64 (k0 : Int) := e30
        have e34 : slot ac 34 = .int .i64 (k1 : Int) := e34
        have e37 : slot ac 37 = .int .u64 ((getB ((l.drop 2).take 6) : Nat) : Int) := e37
        obtain ⟨a39, c39, hv39, -⟩ := (OwnB.rd e39).len
        have e39' : OwnB wc (w.heap.size + 1) (.slice a39 BODY.length c39) BODY := by rw [← hv39]; exact e39
        refine step_val (wanted_none rfl) (v := .agg #[.int .i64 (k0 : Int), .int .i64 (k1 : Int), .int .u64 ((getB ((l.drop 2).take 6) : Nat) : Int), .slice a39 BODY.length c39]) ?_ ⟨_, rfl, e39'⟩
        simp [execOp, eval_tmp, e30, e34, e37, hv39] <;> go_simp
      case s14 =>
        intro ac wc hU
        refine step_mem (wanted_none rfl) (v := .pointer (some ⟨wc.heap.size, 0, none⟩)) (w' := wc.alloc (.cells zp 45)) ?_ ((Below.refl _ _).alloc (Nat.le_refl _) _) ⟨_, rfl, Box.new _ _, Nat.le_trans HSZ.out hU.below.size⟩
        simp [execOp, zp] <;> go_simp
    · intro ac wc hU
      have hlit := act_puts hU (by kernel_rfl) [27, 28, 29, 30, 31, 32, 33, 34, 35, 36, 37, 38, 39, 40, 9] (by kernel_rfl)
      have f27 : slot ac 27 = .slice (some ⟨bb, o, none⟩) K cap := hU.last 0 27 (by kernel_rfl)
      have f28 : slot ac 28 = .pointer (some ⟨bb, o, none⟩) := hU.last 1 28 (by kernel_rfl)
      have f29 : slot ac 29 = .int .u8 (k0 : Int) := hU.last 2 29 (by kernel_rfl)
      have f30 : slot ac 30 = .int .i64 (k0 : Int) := hU.last 3 30 (by kernel_rfl)
      have f31 : slot ac 31 = .slice (some ⟨bb, o, none⟩) K cap := hU.last 4 31 (by kernel_rfl)
      have f32 : slot ac 32 = .pointer (some ⟨bb, o + 1, none⟩) := hU.last 5 32 (by kernel_rfl)
      have f33 : slot ac 33 = .int .u8 (k1 : Int) := hU.last 6 33 (by kernel_rfl)
      have f34 : slot ac 34 = .int .i64 (k1 : Int) := hU.last 7 34 (by kernel_rfl)
      have f35 : slot ac 35 = .slice (some ⟨bb, o, none⟩) K cap := hU.last 8 35 (by kernel_rfl)
      have f36 : slot ac 36 = vS := hU.last 9 36 (by kernel_rfl)
      have f37 : slot ac 37 = .int .u64 ((getB ((l.drop 2).take 6) : Nat) : Int) := hU.last 10 37 (by kernel_rfl)
      have f38 : slot ac 38 = vBody := hU.last 11 38 (by kernel_rfl)
      have f39 : (Gd.own (w.heap.size + 1) BODY).p (slot ac 39) wc := hU.last 12 39 (by kernel_rfl)
      have f40 : (Gd.page (w.heap.size + 1) k0 k1 (getB ((l.drop 2).take 6)) BODY).p (slot ac 40) wc := hU.last 13 40 (by kernel_rfl)
      have f9 : (Gd.box (w.heap.size + 1)).p (slot ac 9) wc := hU.last 14 9 (by kernel_rfl)
      have B5 := Lib.hid (B1.out.trans (hU.below.mono B1.out.size))
      have HX5 := Lib.hid (HX1.out.later hU.below)
      simp only [puts, List.foldl, Act.put, List.setIfInBounds_toArray, List.set_cons_zero, List.set_cons_succ, f27, f28, f29, f30, f31, f32, f33, f34, f35, f36, f37, f38] at hlit
      rw [hlit]
      clear hlit hU f27 f28 f29 f30 f31 f32 f33 f34 f35 f36 f37 f38
      obtain ⟨B9, hB9, hbx9, hlt9⟩ := f9
      obtain ⟨u, hu, hou⟩ := f40
      rw [hB9, hu]
      clear hB9 hu f39
      have st9 := hbx9.store rfl ⟨(k0 : Int), (k1 : Int), getB ((l.drop 2).take 6), BODY⟩ (RdB.one hou.rd)
      have hgr := grown_row wc B9 (pgC ⟨(k0 : Int), (k1 : Int), getB ((l.drop 2).take 6), BODY⟩ u)
      have HO6 := Lib.hid (World.ownsRow.kept hou hgr (.inr (own_apart hou hbx9 (by decide))))
      have HB6 := Lib.hid (below_row B5.out B5.out.size (show w.heap.size ≤ B9 by omega) (pgC ⟨(k0 : Int), (k1 : Int), getB ((l.drop 2).take 6), BODY⟩ u))
      have HX6 : Hid (Box (wc.setRow B9 (pgC ⟨(k0 : Int), (k1 : Int), getB ((l.drop 2).take 6), BODY⟩ u)) w.heap.size zp) := (setRow_other _ _ _ _ (by omega)).trans HX5.out
      have HBX6 := Lib.hid (hbx9.row (pgC ⟨(k0 : Int), (k1 : Int), getB ((l.drop 2).take 6), BODY⟩ u))
      obtain ⟨W6, hW6⟩ : ∃ W, wc.setRow B9 (pgC ⟨(k0 : Int), (k1 : Int), getB ((l.drop 2).take 6), BODY⟩ u) = W := ⟨_, rfl⟩
      rw [hW6] at st9 HO6 HB6 HX6 HBX6
      obtain ⟨G, hG⟩ : ∃ G, getB ((l.drop 2).take 6) = G := ⟨_, rfl⟩
      rw [hG] at st9 HBX6 HP ⊢
      have ld6 := HBX6.out.load rfl
      have HM6 := may_any ⟨(k0 : Int), (k1 : Int), G, BODY⟩ u n W6 (OwnB.rd HO6.out)
      have HGM2 : Hid (goodB l n = (mayB ⟨(k0 : Int), (k1 : Int), G, BODY⟩ (n : Int) && allB (l.drop (10 + m)) 0)) := by show _ = _; rw [HGM.out, HP.out]
      have HBEH := HRH.out.later HB6.out
      have HL6 : Hid (∀ W, Below W6.heap.size W6 W → Below w.heap.size w W ∧ Box W w.heap.size zp ∧ Box W B9 (pgC ⟨(k0 : Int), (k1 : Int), G, BODY⟩ u) ∧ OwnB W (w.heap.size + 1) u BODY ∧ RdB W vBeh (l.drop (10 + m))) := fun W hW =>
        ⟨HB6.out.trans (hW.mono HB6.out.size), HX6.out.later hW, HBX6.out.later hW, OwnB.later HO6.out hW, HBEH.later hW⟩
      have HONE := Lib.hid (RdB.one (OwnB.rd HO6.out))
      unfold pgV at HM6
      unfold pgC at st9 ld6 HM6
      dsimp only at st9 ld6 HM6
      clear hgr hbx9 hW6 hou HBEH hG
      cases hmb : mayB ⟨(k0 : Int), (k1 : Int), G, BODY⟩ (n : Int) with
      | false =>
        rw [hmb] at HM6
        have HM7 := Lib.hid HM6
        have HGF : Hid (goodB l n = false) := by show _ = _; rw [HGM2.out, hmb]; rfl
        clear HM6 hmb
        go_wp2_with fail
        with_reducible refine HM7.out.mono ?_
        rintro e w7 ⟨rfl, hb⟩
        obtain ⟨hB7, hX7, -, -, -⟩ := HL6.out w7 hb
        have st8 := hX7.store rfl zeroP (v := .slice none 0 0) rfl
        have ld8 := (hX7.row (pgC zeroP (.slice none 0 0))).load rfl
        have HB8 := Lib.hid (below_row hB7 hB7.size (Nat.le_refl _) (pgC zeroP (.slice none 0 0)))
        obtain ⟨W8, hW8⟩ : ∃ W, w7.setRow w.heap.size (pgC zeroP (.slice none 0 0)) = W := ⟨_, rfl⟩
        rw [hW8] at st8 ld8 HB8
        rw [← zp_is] at st8 ld8
        unfold zp at st8 ld8
        clear hB7 hX7 hW8 hb ld6
        go_wp2
        exact bodyPost_ret (v := .tuple #[.agg zp, .bool false]) (results_row_tmp rfl _ _ _ _ rfl rfl ld8) rfl (opened_no HGF.out _ _ _ rfl HB8.out)
      | true =>
        rw [hmb] at HM6
        have HM7 := Lib.hid HM6
        have HGC : Hid (goodB l n = allB (l.drop (10 + m)) 0) := by show _ = _; rw [HGM2.out, hmb]; rfl
        clear HM6 hmb
        go_wp2_with fail
        with_reducible refine HM7.out.mono ?_
        rintro e w7 ⟨rfl, hb⟩
        obtain ⟨-, -, hx9, -, hR7⟩ := HL6.out w7 hb
        have HA := all_any (l.drop (10 + m)) vBeh 0 w7 hR7
        have e0 : byV 0 = .int .u8 0 := rfl
        rw [e0] at HA
        have HBB := Lib.hid hb
        clear hx9 hR7 hb e0
        cases hall : allB (l.drop (10 + m)) 0 with
        | false =>
          rw [hall] at HA
          have HA7 := Lib.hid HA
          have HGF : Hid (goodB l n = false) := by show _ = _; rw [HGC.out, hall]
          clear HA hall
          go_wp2_with fail
          with_reducible refine HA7.out.mono ?_
          rintro e w8 ⟨rfl, hb8⟩
          have hb : Below W6.heap.size W6 w8 := HBB.out.trans (hb8.mono HBB.out.size)
          clear hb8
          obtain ⟨hB7, hX7, -, -, -⟩ := HL6.out w8 hb
          have st8 := hX7.store rfl zeroP (v := .slice none 0 0) rfl
          have ld8 := (hX7.row (pgC zeroP (.slice none 0 0))).load rfl
          have HB8 := Lib.hid (below_row hB7 hB7.size (Nat.le_refl _) (pgC zeroP (.slice none 0 0)))
          obtain ⟨W8, hW8⟩ : ∃ W, w8.setRow w.heap.size (pgC zeroP (.slice none 0 0)) = W := ⟨_, rfl⟩
          rw [hW8] at st8 ld8 HB8
          rw [← zp_is] at st8 ld8
          unfold zp at st8 ld8
          clear hB7 hX7 hW8 hb ld6
          go_wp2
          exact bodyPost_ret (v := .tuple #[.agg zp, .bool false]) (results_row_tmp rfl _ _ _ _ rfl rfl ld8) rfl (opened_no HGF.out _ _ _ rfl HB8.out)
        | true =>
          rw [hall] at HA
          have HA7 := Lib.hid HA
          have HGT : Hid (goodB l n = true) := by show _ = _; rw [HGC.out, hall]
          clear HA hall
          go_wp2_with fail
          with_reducible refine HA7.out.mono ?_
          rintro e w8 ⟨rfl, hb8⟩
          obtain ⟨hB7, hX7, hX9, hO7, -⟩ := HL6.out w8 (HBB.out.trans (hb8.mono HBB.out.size))
          have st8 := hX7.store rfl ⟨(k0 : Int), (k1 : Int), G, BODY⟩ HONE.out
          have ld8 := (hX7.row (pgC ⟨(k0 : Int), (k1 : Int), G, BODY⟩ u)).load rfl
          have ld9 := hX9.load rfl
          have HB8 := Lib.hid (below_row hB7 hB7.size (Nat.le_refl _) (pgC ⟨(k0 : Int), (k1 : Int), G, BODY⟩ u))
          have HO8 := Lib.hid (own_row hO7 (pgC ⟨(k0 : Int), (k1 : Int), G, BODY⟩ u) (Nat.lt_succ_self _))
          obtain ⟨W8, hW8⟩ : ∃ W, w8.setRow w.heap.size (pgC ⟨(k0 : Int), (k1 : Int), G, BODY⟩ u) = W := ⟨_, rfl⟩
          rw [hW8] at st8 ld8 HB8 HO8
          unfold pgC at st8 ld8 ld9
          clear hB7 hX7 hX9 hO7 hW8 hb8 ld6
          go_wp2
          refine bodyPost_ret (v := .tuple #[.agg #[.int .i64 (k0 : Int), .int .i64 (k1 : Int), .int .u64 (G : Int), u], .bool true]) (results_row_tmp rfl _ _ _ _ rfl rfl ld8) rfl ?_
          unfold OpenedPost
          rw [HGT.out, if_pos rfl, HP.out]
          exact ⟨u, rfl, HO8.out.mono (Nat.le_succ _), HB8.out⟩
end Go.Proofs.Ytjlmkhomedoolaa.Page
