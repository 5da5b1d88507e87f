/- The document's Put of layer 7: what it hands back. -/
import Derived.Test.YtkbnffjkilpdaaaPageOpened
namespace Go.Proofs.Ytkbnffjkilpdaaa.Page
open Go.RowKit Go.Sort
attribute [local go_sem ↓] slice_bytes

set_option maxHeartbeats 1000000 in
theorem rput_no (p : Pg) (v : Value) (n : Int) (w : World) (hR : RdB w v p.body) (h : mayB p n = false) : Calls Try.prog 8 #[pgV p v, .int .i64 n] w (PutPost p n w) := by
  have HB : Hid (Below w.heap.size w (w.alloc (.cells (pgC p v) 25))) := (Below.refl _ _).alloc (Nat.le_refl _) _
  have HM0 := rmay_any p v n (w.alloc (.cells (pgC p v) 25)) (hR.later HB.out)
  rw [h] at HM0
  have HM := Lib.hid HM0
  clear HM0
  have HE : Hid (putE p n = 1) := by show _ = _; unfold putE; rw [h]; rfl
  have HL : Hid (putR p n = []) := by show _ = _; unfold putR; rw [h]; rfl
  unfold PutPost
  rw [HE.out, HL.out]
  clear hR h HE HL
  unfold pgV pgC at *
  go_enter Try.func8, Try.ntmps8
  go_wp2_with fail
  refine HM.out.mono ?_
  rintro e w1 ⟨rfl, hb⟩
  have FIN := Lib.hid (HB.out.trans (hb.mono HB.out.size))
  clear hb
  go_wp2
  go_ret2
  exact ⟨_, rfl, OwnB.nil _ _, FIN.out⟩

set_option maxHeartbeats 1000000 in
set_option maxRecDepth 100000 in
theorem rput_yes (p : Pg) (v : Value) (N : Nat) (w : World) (hR : RdB w v p.body) (h : mayB p N = true) : Calls Try.prog 8 #[pgV p v, .int .i64 (N : Int)] w (PutPost p N w) := by
  have HB : Hid (Below w.heap.size w (w.alloc (.cells (pgC p v) 25))) := (Below.refl _ _).alloc (Nat.le_refl _) _
  have HM0 := rmay_any p v N (w.alloc (.cells (pgC p v) 25)) (hR.later HB.out)
  rw [h] at HM0
  have HM := Lib.hid HM0
  clear HM0
  have HE : Hid (putE p N = 0) := by show _ = _; unfold putE; rw [h]; rfl
  have HL : Hid (putR p N = headL p N ++ sealB (headL p N)) := by show _ = _; unfold putR; rw [h, Int.toNat_natCast]; rfl
  unfold PutPost
  rw [HE.out, HL.out]
  have hlen := head_length h
  obtain ⟨⟨h1, h2⟩, h3, ⟨h4, h5⟩, h6, h7⟩ := may_iff.1 h
  have HC : Hid (∀ W, Below (w.alloc (.cells (pgC p v) 25)).heap.size (w.alloc (.cells (pgC p v) 25)) W → (W.cell? ⟨w.heap.size, 0, none⟩ = some (.int .i64 p.kind) ∧ W.cell? ⟨w.heap.size, 1, none⟩ = some (.int .i64 p.id) ∧
    W.cell? ⟨w.heap.size, 2, none⟩ = some (.int .u64 (p.gen : Int)) ∧ W.cell? ⟨w.heap.size, 3, none⟩ = some v) ∧ RdB W v p.body ∧ Below w.heap.size w W) := fun W hW => by
    obtain ⟨c0, c1, c2, c3⟩ := box_page w p v
    exact ⟨⟨cell_keep c0 hW, cell_keep c1 hW, cell_keep c2 hW, cell_keep c3 hW⟩, (hR.later HB.out).later hW, HB.out.trans (hW.mono HB.out.size)⟩
  obtain ⟨W0, hW0⟩ : ∃ W, W = w.alloc (.cells (pgC p v) 25) := ⟨_, rfl⟩
  rw [← hW0] at HM HB HC
  have HW0 := Lib.hid hW0
  have hk0 : 0 ≤ p.kind := by omega
  have hk1 : p.kind ≤ 255 := by omega
  have HK : Hid (0 ≤ p.kind ∧ p.kind ≤ 255 ∧ 0 ≤ p.id ∧ p.id ≤ 255) := ⟨hk0, hk1, h4, by omega⟩
  have hw1 : IntKind.u8.wrap p.kind = p.kind := by rw [IntKind.wrap_u8]; omega
  have hw2 : IntKind.u8.wrap p.id = p.id := by rw [IntKind.wrap_u8]; omega
  have HWR := Lib.hid (And.intro hw1 hw2)
  have HHEAD : Hid (headL p N = [UInt8.ofNat p.kind.toNat, UInt8.ofNat p.id.toNat] ++ (putB p.gen 6 ++ (putB p.body.length 2 ++ (p.body ++ List.replicate (N - 14 - p.body.length) 0)))) := rfl
  obtain ⟨H, hH⟩ : ∃ H, headL p N = H := ⟨_, rfl⟩
  rw [hH] at hlen HHEAD ⊢
  have HLEN := Lib.hid hlen
  have HPG : Hid (∀ W, Calls Try.prog 21 #[.int .u64 (p.gen : Int), .int .i64 6] W fun e w' => ∃ v, e = .returned v ∧ OwnB w' W.heap.size v (putB p.gen 6) ∧ Below W.heap.size W w') := fun W => rput_any p.gen (by omega) 6 W
  have HPL : Hid (∀ W, Calls Try.prog 21 #[.int .u64 (p.body.length : Int), .int .i64 2] W fun e w' => ∃ v, e = .returned v ∧ OwnB w' W.heap.size v (putB p.body.length 2) ∧ Below W.heap.size W w') := fun W => rput_any p.body.length (by omega) 2 W
  obtain ⟨a, cap, hv, -⟩ := hR.len
  obtain ⟨m, hm⟩ : ∃ m, p.body.length = m := ⟨_, rfl⟩
  rw [hm] at hv h7 HPL HHEAD
  obtain ⟨z, hz⟩ : ∃ z, N - 14 - m = z := ⟨_, rfl⟩
  rw [hz] at HHEAD
  have hmI : (m : Int) ≤ 240 := by omega
  have hzN : N = z + 14 + m := by omega
  have HZN := Lib.hid hzN
  have HML := Lib.hid hm
  obtain ⟨L2, hL2⟩ : ∃ L, [UInt8.ofNat p.kind.toNat, UInt8.ofNat p.id.toNat] = L := ⟨_, rfl⟩
  rw [hL2] at HHEAD
  have HL2 := Lib.hid hL2
  have HL2L : Hid (L2.length = 2) := by show _ = _; rw [← hL2]; rfl
  have HP6 : Hid ((putB p.gen 6).length = 6) := putB_length _ _
  have HP2 : Hid ((putB m 2).length = 2) := putB_length _ _
  have HSE : Hid (∀ W u, RdB W u H → Calls Try.prog 22 #[u] W fun e w' => ∃ v', e = .returned v' ∧ OwnB w' W.heap.size v' (H ++ sealB H) ∧ Below W.heap.size W w') := fun W u hu => rsealed_any H u W hu (by rw [HLEN.out]; omega)
  subst hv
  unfold pgV pgC at *
  clear hR h hW0 hlen hm hz h3 h6 hH hL2 hw1 hw2 hzN
  go_enter Try.func8, Try.ntmps8
  go_upto_region 1 with fail
  rw [← HW0.out]
  obtain ⟨⟨c0, c1, c2, c3⟩, -⟩ := HC.out W0 (Below.refl _ _)
  go_wp2_with fail
  refine HM.out.mono ?_
  rintro e w1 ⟨rfl, hb⟩
  have B1 := Lib.hid hb
  clear hb c0 c1 c2 c3
  go_wp2_with fail
  refine region_slots_tail 10 (by kernel_rfl) (by kernel_rfl) (by kernel_rfl) (Gof [Gd.eq (.pointer (some ⟨w.heap.size, 0, none⟩)), Gd.eq (.int .i64 p.kind), Gd.eq (.int .u8 p.kind), Gd.eq (.pointer (some ⟨w.heap.size, 1, none⟩)), Gd.eq (.int .i64 p.id), Gd.eq (.int .u8 p.id), Gd.own W0.heap.size L2, Gd.eq (.pointer (some ⟨w.heap.size, 2, none⟩)), Gd.eq (.int .u64 (p.gen : Int)), Gd.own W0.heap.size (putB p.gen 6)]) (Gof_st _) (steps_all ?_) ?_
  · dsimp only [headOps, List.take]
    refine StepsFrom.cons ?s0 (StepsFrom.cons ?s1 (StepsFrom.cons ?s2 (StepsFrom.cons ?s3 (StepsFrom.cons ?s4 (StepsFrom.cons ?s5 (StepsFrom.cons ?s6 (StepsFrom.cons ?s7 (StepsFrom.cons ?s8 (StepsFrom.cons ?s9 StepsFrom.nil)))))))))
    case s0 =>
      intro ac wc hU
      have e2 : slot ac 2 = .pointer (some ⟨w.heap.size, 0, none⟩) := (hU.keep 2 (by kernel_rfl)).trans rfl
      refine step_val (wanted_none rfl) (v := .pointer (some ⟨w.heap.size, 0, none⟩)) ?_ rfl
      have e2 : slot ac 2 = .pointer (some ⟨w.heap.size, 0, none⟩) := e2
      simp [execOp, eval_tmp, e2] <;> go_simp
    case s1 =>
      intro ac wc hU
      have e11 : (Gd.eq (.pointer (some ⟨w.heap.size, 0, none⟩))).p (slot ac 11) wc := hU.dep 0 11 (by kernel_rfl)
      refine step_val (wanted_none rfl) (v := .int .i64 p.kind) ?_ rfl
      have c := (HC.out wc (B1.out.trans (hU.below.mono B1.out.size))).1.1
      have e11 : slot ac 11 = .pointer (some ⟨w.heap.size, 0, none⟩) := e11
      simp [execOp, eval_tmp, e11] <;> go_simp
    case s2 =>
      intro ac wc hU
      have e12 : (Gd.eq (.int .i64 p.kind)).p (slot ac 12) wc := hU.dep 1 12 (by kernel_rfl)
      refine step_val (wanted_none rfl) (v := .int .u8 p.kind) ?_ rfl
      have c := HWR.out.1
      have e12 : slot ac 12 = .int .i64 p.kind := e12
      simp [execOp, eval_tmp, e12] <;> go_simp
    case s3 =>
      intro ac wc hU
      have e2 : slot ac 2 = .pointer (some ⟨w.heap.size, 0, none⟩) := (hU.keep 2 (by kernel_rfl)).trans rfl
      refine step_val (wanted_none rfl) (v := .pointer (some ⟨w.heap.size, 1, none⟩)) ?_ rfl
      have e2 : slot ac 2 = .pointer (some ⟨w.heap.size, 0, none⟩) := e2
      simp [execOp, eval_tmp, e2] <;> go_simp
    case s4 =>
      intro ac wc hU
      have e14 : (Gd.eq (.pointer (some ⟨w.heap.size, 1, none⟩))).p (slot ac 14) wc := hU.dep 3 14 (by kernel_rfl)
      refine step_val (wanted_none rfl) (v := .int .i64 p.id) ?_ rfl
      have c := (HC.out wc (B1.out.trans (hU.below.mono B1.out.size))).1.2.1
      have e14 : slot ac 14 = .pointer (some ⟨w.heap.size, 1, none⟩) := e14
      simp [execOp, eval_tmp, e14] <;> go_simp
    case s5 =>
      intro ac wc hU
      have e15 : (Gd.eq (.int .i64 p.id)).p (slot ac 15) wc := hU.dep 4 15 (by kernel_rfl)
      refine step_val (wanted_none rfl) (v := .int .u8 p.id) ?_ rfl
      have c := HWR.out.2
      have e15 : slot ac 15 = .int .i64 p.id := e15
      simp [execOp, eval_tmp, e15] <;> go_simp
    case s6 =>
      intro ac wc hU
      have e13 : (Gd.eq (.int .u8 p.kind)).p (slot ac 13) wc := hU.dep 2 13 (by kernel_rfl)
      have e16 : (Gd.eq (.int .u8 p.id)).p (slot ac 16) wc := hU.dep 5 16 (by kernel_rfl)
      refine step_mem (wanted_none rfl) (v := .slice (some ⟨wc.heap.size, 0, none⟩) 2 2) (w' := wc.alloc (.cells #[.int .u8 p.kind, .int .u8 p.id] 5)) ?_ ((Below.refl _ _).alloc (Nat.le_refl _) _) ?_
      · have e13 : slot ac 13 = .int .u8 p.kind := e13
        have e16 : slot ac 16 = .int .u8 p.id := e16
        simp [execOp, eval_tmp, e13, e16] <;> go_simp
      · show OwnB _ W0.heap.size _ L2
        have h := (OwnB.made wc L2).resolve_right (fun h => h (by rw [HL2L.out]; decide))
        have e : cellsB L2 = [.int .u8 p.kind, .int .u8 p.id] := by
          rw [← HL2.out]
          show [byV _, byV _] = _
          rw [byte_int HK.out.1 HK.out.2.1, byte_int HK.out.2.2.1 HK.out.2.2.2]
        rw [e, HL2L.out] at h
        exact h.mono (Nat.le_trans B1.out.size hU.below.size)
    case s7 =>
      intro ac wc hU
      have e2 : slot ac 2 = .pointer (some ⟨w.heap.size, 0, none⟩) := (hU.keep 2 (by kernel_rfl)).trans rfl
      refine step_val (wanted_none rfl) (v := .pointer (some ⟨w.heap.size, 2, none⟩)) ?_ rfl
      have e2 : slot ac 2 = .pointer (some ⟨w.heap.size, 0, none⟩) := e2
      simp [execOp, eval_tmp, e2] <;> go_simp
    case s8 =>
      intro ac wc hU
      have e18 : (Gd.eq (.pointer (some ⟨w.heap.size, 2, none⟩))).p (slot ac 18) wc := hU.dep 7 18 (by kernel_rfl)
      refine step_val (wanted_none rfl) (v := .int .u64 (p.gen : Int)) ?_ rfl
      have c := (HC.out wc (B1.out.trans (hU.below.mono B1.out.size))).1.2.2.1
      have e18 : slot ac 18 = .pointer (some ⟨w.heap.size, 2, none⟩) := e18
      simp [execOp, eval_tmp, e18] <;> go_simp
    case s9 =>
      intro ac wc hU
      have e19 : (Gd.eq (.int .u64 (p.gen : Int))).p (slot ac 19) wc := hU.dep 8 19 (by kernel_rfl)
      refine step_call (wanted_none rfl) (f := 21) (args := #[(.int .u64 (p.gen : Int)), (Value.int IntKind.i64 6)]) ?_ ?_
      · have e19 : slot ac 19 = .int .u64 (p.gen : Int) := e19
        simp [execOp, resolve, invoke, eval_tmp, eval_const, e19] <;> go_simp
      · refine (HPG.out wc).mono ?_
        rintro e w' ⟨v', rfl, ho, hb⟩; exact ⟨v', rfl, hb, ho.mono (Nat.le_trans B1.out.size hU.below.size)⟩
  · intro ac wc hU
    have hlit := act_puts hU (by kernel_rfl) [11, 12, 13, 14, 15, 16, 17, 18, 19, 20] (by kernel_rfl)
    have f11 : slot ac 11 = .pointer (some ⟨w.heap.size, 0, none⟩) := hU.last 0 11 (by kernel_rfl)
    have f12 : slot ac 12 = .int .i64 p.kind := hU.last 1 12 (by kernel_rfl)
    have f13 : slot ac 13 = .int .u8 p.kind := hU.last 2 13 (by kernel_rfl)
    have f14 : slot ac 14 = .pointer (some ⟨w.heap.size, 1, none⟩) := hU.last 3 14 (by kernel_rfl)
    have f15 : slot ac 15 = .int .i64 p.id := hU.last 4 15 (by kernel_rfl)
    have f16 : slot ac 16 = .int .u8 p.id := hU.last 5 16 (by kernel_rfl)
    have f17 : (Gd.own W0.heap.size L2).p (slot ac 17) wc := hU.last 6 17 (by kernel_rfl)
    have f18 : slot ac 18 = .pointer (some ⟨w.heap.size, 2, none⟩) := hU.last 7 18 (by kernel_rfl)
    have f19 : slot ac 19 = .int .u64 (p.gen : Int) := hU.last 8 19 (by kernel_rfl)
    have f20 : (Gd.own W0.heap.size (putB p.gen 6)).p (slot ac 20) wc := hU.last 9 20 (by kernel_rfl)
    have B2 := Lib.hid (B1.out.trans (hU.below.mono B1.out.size))
    simp only [puts, List.foldl, Act.put, List.setIfInBounds_toArray, List.set_cons_zero, List.set_cons_succ, f11, f12, f13, f14, f15, f16, f18, f19] at hlit
    rw [hlit]
    clear hlit hU f11 f12 f13 f14 f15 f16 f18 f19
    have F17 := Lib.hid f17
    have F20 := Lib.hid f20
    have HAP : Hid (W0.heap.size ≤ wc.heap.size) := B2.out.size
    clear f17 f20
    simp only [List.drop_succ_cons, List.drop_zero]
    go_wp2_with (at_builtin; refine wpList_appendB rfl _ _ rfl rfl rfl F17.out (OwnB.rd F20.out) HAP.out (by rw [HL2L.out, HP6.out]; omega) ?_; intro v' w' hx hy; have B3 := Lib.hid (B2.out.trans ((OwnB.below F17.out hy HAP.out))); have O3 := Lib.hid hx; clear hx hy; obtain ⟨⟨-, -, -, c3⟩, -⟩ := HC.out w' B3.out)
    refine (HPL.out w').mono ?_
    rintro e w4 ⟨v7, rfl, ho, hb⟩
    have B4 := Lib.hid (B3.out.trans (hb.mono B3.out.size))
    have HA4 := Lib.hid (And.intro (O3.out.later hb) (And.intro (OwnB.rd ho) B4.out.size))
    clear ho hb c3
    go_upto_region 5 with (at_builtin; refine wpList_appendB rfl _ _ rfl rfl rfl HA4.out.1 HA4.out.2.1 HA4.out.2.2 (by rw [List.length_append, HL2L.out, HP6.out, HP2.out]; omega) ?_; intro v5 w5 hx hy; have B5 := Lib.hid (B4.out.trans (OwnB.below HA4.out.1 hy HA4.out.2.2)); have O5 := Lib.hid hx; clear hx hy)
    obtain ⟨⟨-, -, -, c5⟩, r5, -⟩ := HC.out w5 B5.out
    have HA5 := Lib.hid (And.intro O5.out (And.intro r5 B5.out.size))
    clear r5
    go_wp2_with (at_builtin; refine wpList_appendB rfl _ _ rfl rfl rfl HA5.out.1 HA5.out.2.1 HA5.out.2.2 (by rw [List.length_append, List.length_append, HL2L.out, HP6.out, HP2.out, HML.out]; omega) ?_; intro v6 w6 hx hy; have B6 := Lib.hid (B5.out.trans (OwnB.below HA5.out.1 hy HA5.out.2.2)); have O6 := Lib.hid hx; clear hx hy c5)
    have HLE : Hid ((((L2 ++ putB p.gen 6) ++ putB m 2) ++ p.body).length = 10 + m) := by show _ = _; rw [List.length_append, List.length_append, List.length_append, HL2L.out, HP6.out, HP2.out, HML.out]
    have HHE : Hid (H = (((L2 ++ putB p.gen 6) ++ putB m 2) ++ p.body) ++ List.replicate z 0) := by show _ = _; rw [HHEAD.out]; simp only [List.append_assoc]
    obtain ⟨L10, hL10⟩ : ∃ L, ((L2 ++ putB p.gen 6) ++ putB m 2) ++ p.body = L := ⟨_, rfl⟩
    rw [hL10] at O6 HLE HHE
    have HB0 := Lib.hid (And.intro (Nat.le_refl W0.heap.size) HB.out.size)
    clear hL10
    go_loopw [6] (fun t wr => ∃ j : Nat, j ≤ z ∧ OwnB wr W0.heap.size t (L10 ++ List.replicate j 0) ∧ Below W0.heap.size W0 wr) (fun t _ => N - (match t with | .slice _ l _ => l | _ => 0))
    case atStart => exact ⟨0, Nat.zero_le _, by simpa using O6.out, B6.out⟩
    case round =>
      obtain ⟨j, hj, ho, hb⟩ := hrel
      obtain ⟨at0, ct, hvt, -⟩ := ho.rd.len
      obtain ⟨T, hT⟩ : ∃ T, (L10 ++ List.replicate j (0 : UInt8)).length = T := ⟨_, rfl⟩
      have hT2 : T = 10 + m + j := by rw [← hT, List.length_append, HLE.out, List.length_replicate]
      rw [hT] at hvt
      have HT := Lib.hid hT
      have HO := Lib.hid (And.intro ho hb)
      by_cases hlt : j < z
      · have q : (T : Int) < (N : Int) - 4 := by have := HZN.out; omega
        have hs : W0.heap.size ≤ wr.heap.size := hb.size
        have hal : Below wr.heap.size wr (wr.alloc (.cells #[.int .u8 0] 5)) := (Below.refl _ _).alloc (Nat.le_refl _) _
        have h0 : RdB (wr.alloc (.cells #[.int .u8 0] 5)) (.slice (some ⟨wr.heap.size, 0, none⟩) 1 1) [0] := rd_new wr [0] (0, 0) (by decide)
        have HW := Lib.hid (And.intro (ho.later hal) (And.intro h0 (And.intro (Nat.le_trans hs hal.size) (hb.trans (hal.mono hs)))))
        have HLT : Hid ((L10 ++ List.replicate j (0 : UInt8)).length + [(0 : UInt8)].length ≤ 1000000) := by show _ ≤ _; rw [HT.out]; simp; have := HZN.out; omega
        have HNX : Hid ((L10 ++ List.replicate j (0 : UInt8)) ++ [0] = L10 ++ List.replicate (j + 1) 0) := by show _ = _; rw [List.append_assoc, List.replicate_succ']
        have HTN : Hid (T < N) := by show _ < _; have := HZN.out; omega
        subst hvt
        clear ho hb hT hT2 hs hal h0
        go_wp2_with (at_builtin; refine wpList_appendB rfl _ _ rfl rfl rfl HW.out.1 HW.out.2.1 HW.out.2.2.1 HLT.out ?_; intro v7' w7 hx hy; rw [HNX.out] at hx; have FIN := Lib.hid (And.intro hx (HW.out.2.2.2.trans (OwnB.below HW.out.1 hy HW.out.2.2.1))); clear hx hy)
        obtain ⟨a7, c7, hv7, -⟩ := (OwnB.rd FIN.out.1).len
        subst hv7
        go_roundw
        case rel => exact ⟨j + 1, by omega, FIN.out.1, FIN.out.2⟩
        case measure =>
          have h1 : (L10 ++ List.replicate (j + 1) (0 : UInt8)).length = T + 1 := by rw [← HNX.out, List.length_append, HT.out]; rfl
          have h2 := HTN.out
          simp only [h1]; omega
      · obtain rfl : j = z := by omega
        have q : ¬ (T : Int) < (N : Int) - 4 := by have := HZN.out; omega
        rw [← HHE.out] at ho
        have HRD := Lib.hid ho.rd
        subst hvt
        clear ho hb hT hT2 hlt
        go_wp2_with fail
        refine (HSE.out wr _ HRD.out).mono ?_
        rintro e w8 ⟨v8, rfl, ho, hb⟩
        have FIN := Lib.hid (And.intro (ho.mono (Nat.le_trans HB.out.size HO.out.2.size)) (HB.out.trans ((HO.out.2.trans (hb.mono HO.out.2.size)).mono HB.out.size)))
        clear ho hb
        go_wp2
        go_ret2
        exact ⟨_, rfl, FIN.out⟩
theorem rput_any' (p : Pg) (v : Value) (n : Int) (w : World) (hR : RdB w v p.body) : Calls Try.prog 8 #[pgV p v, .int .i64 n] w (PutPost p n w) := by
  cases h : mayB p n with
  | false => exact rput_no p v n w hR h
  | true =>
    obtain ⟨N, rfl⟩ : ∃ N : Nat, n = N := ⟨n.toNat, by have := (may_iff.1 h).1; omega⟩
    exact rput_yes p v N w hR h
end Go.Proofs.Ytkbnffjkilpdaaa.Page
