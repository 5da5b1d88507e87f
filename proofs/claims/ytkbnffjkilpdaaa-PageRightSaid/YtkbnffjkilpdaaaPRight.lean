/- The statement PageRight, walked: every call of it hands back true. -/
import Derived.Test.YtkbnffjkilpdaaaPageAwake
import Derived.Test.YtkbnffjkilpdaaaPageRRead
namespace Go.Proofs.Ytkbnffjkilpdaaa.Page.pageRight
open Go.RowKit Go.Sort
attribute [local go_sem ↓] slice_bytes text_bytes eq_text ne_text loadVar_page storeVar_page

set_option maxHeartbeats 4000000 in
set_option maxRecDepth 100000 in
theorem walkAll (p : Pg) (u vb : Value) (n : Int) (b : List UInt8) (w : World) (hp : RdB w u p.body) (hb : RdB w vb b) :
    Calls Try.prog 3 #[pgV p u, .int .i64 n, vb] w fun e w' => e = .returned (.bool true) ∧ Below w.heap.size w w' := by
  have hb0 : Below w.heap.size w (w.alloc (.cells (pgC p u) 25)) := (Below.refl _ _).alloc (Nat.le_refl _) _
  have hx3 := Box.new w (pgC p u)
  have HW : Hid (∀ W, Below (w.alloc (.cells (pgC p u) 25)).heap.size (w.alloc (.cells (pgC p u) 25)) W →
      (pageLoad ⟨w.heap.size, 0, none⟩).run Try.prog W = .ok (.agg (pgC p u)) W ∧ RdB W u p.body ∧ RdB W vb b ∧ Below w.heap.size w W ∧ W.cell? ⟨w.heap.size, 3, none⟩ = some u) := fun W hW =>
    ⟨(hx3.later hW).load rfl, (hp.later hb0).later hW, (hb.later hb0).later hW, hb0.trans (hW.mono hb0.size), by rw [(hx3.later hW).cell]; rfl⟩
  have H1 := Lib.hid (awake_any (w.alloc (.cells (pgC p u) 25)))
  obtain ⟨W0, hW0⟩ : ∃ W, W = w.alloc (.cells (pgC p u) 25) := ⟨_, rfl⟩
  rw [← hW0] at HW H1
  have HW0 := Lib.hid hW0
  obtain ⟨ep, hep⟩ : ∃ e, putE p n = e := ⟨_, rfl⟩
  obtain ⟨X, hX⟩ : ∃ X, putR p n = X := ⟨_, rfl⟩
  have HPUT : Hid (∀ W, RdB W u p.body → Calls Try.prog 7 #[.agg (pgC p u), .int .i64 n] W fun e w' => ∃ v', e = .returned (.tuple #[v', .int .i64 ep]) ∧ OwnB w' W.heap.size v' X ∧ Below W.heap.size W w') := fun W h => by
    have := put_any' p u n W h
    unfold PutPost at this
    rw [hep, hX] at this
    exact this
  have HRPU : Hid (∀ W, RdB W u p.body → Calls Try.prog 8 #[.agg (pgC p u), .int .i64 n] W fun e w' => ∃ v', e = .returned (.tuple #[v', .int .i64 ep]) ∧ OwnB w' W.heap.size v' X ∧ Below W.heap.size W w') := fun W h => by
    have := rput_any' p u n W h
    unfold PutPost at this
    rw [hep, hX] at this
    exact this
  obtain ⟨q, hq⟩ : ∃ q, (readL b).1 = q := ⟨_, rfl⟩
  obtain ⟨f, hf⟩ : ∃ f, (readL b).2 = f := ⟨_, rfl⟩
  have HREA : Hid (∀ W, RdB W vb b → Calls Try.prog 9 #[vb] W fun e w' => ∃ v', e = .returned (.tuple #[.agg (pgC q v'), .int .i64 f]) ∧ RdB w' v' q.body ∧ Below W.heap.size W w') := fun W h => by
    have := read_any b vb W h
    unfold ReadPost at this
    rw [hq, hf] at this
    exact this.mono fun e w' ⟨v', a, c, d⟩ => ⟨v', a, c.rd, d⟩
  have HRRE : Hid (∀ W, RdB W vb b → Calls Try.prog 10 #[vb] W fun e w' => ∃ v', e = .returned (.tuple #[.agg (pgC q v'), .int .i64 f]) ∧ RdB w' v' q.body ∧ Below W.heap.size W w') := fun W h => by
    have := rread_any b vb W h
    unfold RReadPost at this
    rw [hq, hf] at this
    exact this
  obtain ⟨mb, hmb⟩ : ∃ m, mayB p n = m := ⟨_, rfl⟩
  have HMA : Hid (∀ W, RdB W u p.body → Calls Try.prog 12 #[.agg (pgC p u), .int .i64 n] W fun e w' => e = .returned (.bool mb) ∧ Below W.heap.size W w') := fun W h => by rw [← hmb]; exact may_any p u n W h
  have HRM : Hid (∀ W, RdB W u p.body → Calls Try.prog 13 #[.agg (pgC p u), .int .i64 n] W fun e w' => e = .returned (.bool mb) ∧ Below W.heap.size W w') := fun W h => by rw [← hmb]; exact rmay_any p u n W h
  obtain ⟨rm, hrm⟩ : ∃ m, roomI n = m := ⟨_, rfl⟩
  have HRO : Hid (∀ W, Calls Try.prog 14 #[.int .i64 n] W fun e w' => e = .returned (.int .i64 rm) ∧ W = w') := fun W => by rw [← hrm]; exact room_any n W
  have HRR : Hid (∀ W, Calls Try.prog 15 #[.int .i64 n] W fun e w' => e = .returned (.int .i64 rm) ∧ W = w') := fun W => by rw [← hrm]; exact rroom_any n W
  obtain ⟨bl, hbl⟩ : ∃ m, allB b 255 = m := ⟨_, rfl⟩
  have HBL : Hid (∀ W, RdB W vb b → Calls Try.prog 16 #[vb] W fun e w' => e = .returned (.bool bl) ∧ Below W.heap.size W w') := fun W h => by rw [← hbl]; exact blank_any b vb W h
  have HRB : Hid (∀ W, RdB W vb b → Calls Try.prog 17 #[vb] W fun e w' => e = .returned (.bool bl) ∧ W = w') := fun W h => by rw [← hbl]; exact rblank_any b vb W h
  have HSAME : Hid (∀ (q r : Pg) (x y : Value) W, RdB W x q.body → RdB W y r.body → Calls Try.prog 11 #[.agg (pgC q x), .agg (pgC r y)] W fun e w' => e = .returned (.bool (sameB q r)) ∧ Below W.heap.size W w') := fun q r x y W h1 h2 => same_any q r x y W h1 h2
  have HSTORE : Hid (∀ W (q : Pg) (x : Value) l, RdB W x l → (pageStore ⟨W.heap.size, 0, none⟩ (.agg (pgC q x))).run Try.prog (W.alloc (.cells #[.int .i64 0, .int .i64 0, .int .u64 0, .slice none 0 0] 25)) = .ok () (W.alloc (.cells (pgC q x) 25)) ∧
      Below W.heap.size W (W.alloc (.cells (pgC q x) 25)) ∧ Box (W.alloc (.cells (pgC q x) 25)) W.heap.size (pgC q x)) := fun W q x l h => ⟨store_new W q (RdB.one h), (Below.refl _ _).alloc (Nat.le_refl _) _, Box.new _ _⟩
  obtain ⟨au, cu, hvu, hcu1, hcu2⟩ := hp.len
  obtain ⟨ab, cb, hvb, hcb1, hcb2⟩ := hb.len
  unfold maxLen at hcu2 hcb2
  obtain ⟨lu, hlu⟩ : ∃ m, p.body.length = m := ⟨_, rfl⟩
  obtain ⟨lb, hlb⟩ : ∃ m, b.length = m := ⟨_, rfl⟩
  rw [hlu] at hvu hcu1
  rw [hlb] at hvb hcb1
  have hlu63 : (lu : Int) ≤ 9223372036854775807 := by omega
  have hlb63 : (lb : Int) ≤ 9223372036854775807 := by omega
  subst hvb
  have HVU := Lib.hid hvu
  unfold pgV
  clear hb0 hx3 hp hb hcu1 hcu2 hcb1 hcb2 hlu hlb hep hX hq hf hmb hrm hbl hvu
  go_enter Try.func3, Try.ntmps3
  go_upto_region 1 with fail
  rw [← HW0.out]
  clear hW0
  go_wp2_with fail
  with_reducible refine H1.out.mono ?_
  rintro e w1 ⟨rfl, hb1⟩
  have B1 := Lib.hid hb1
  obtain ⟨ld3, rp, rb, hbw, c3⟩ := HW.out w1 hb1
  rw [HVU.out] at c3
  have FIN1 := Lib.hid hbw
  by_cases g1 : (400 : Int) < lu
  · clear ld3 rp rb hb1 hbw
    go_wp2
    go_ret
    exact ⟨rfl, FIN1.out⟩
  · by_cases g2 : (400 : Int) < lb
    · clear ld3 rp rb hb1 hbw
      go_wp2
      go_ret
      exact ⟨rfl, FIN1.out⟩
    · have RP := Lib.hid rp
      clear rp rb hb1 hbw
      go_wp2_with fail
      refine (HPUT.out w1 RP.out).mono ?_
      rintro e w2 ⟨vx, rfl, hox, hbx⟩
      have B2 := Lib.hid (B1.out.trans (hbx.mono B1.out.size))
      have X2 := Lib.hid hox.rd
      obtain ⟨ld3', rp, -⟩ := HW.out w2 B2.out
      have RP2 := Lib.hid rp
      clear ld3 c3 hox hbx rp
      go_wp2_with fail
      refine (HRPU.out w2 RP2.out).mono ?_
      rintro e w3 ⟨vy, rfl, hoy, hby⟩
      have B3 := Lib.hid (B2.out.trans (hby.mono B2.out.size))
      have X3 := Lib.hid (And.intro (X2.out.later hby) hoy.rd)
      have RB3 := Lib.hid (HW.out w3 B3.out).2.2.1
      clear ld3' hoy hby
      go_wp2_with fail
      refine (HREA.out w3 RB3.out).mono ?_
      rintro e w4 ⟨vq, rfl, hoq, hbq⟩
      have B4 := B3.out.trans (hbq.mono B3.out.size)
      obtain ⟨st4, hb5, hx5⟩ := HSTORE.out w4 q vq _ hoq
      have B5 := Lib.hid (B4.trans (hb5.mono B4.size))
      have X5 := Lib.hid (And.intro ((X3.out.1.later hbq).later hb5) ((X3.out.2.later hbq).later hb5))
      have Q5 := Lib.hid (hoq.later hb5)
      obtain ⟨W5, hW5⟩ : ∃ W, w4.alloc (.cells (pgC q vq) 25) = W := ⟨_, rfl⟩
      rw [hW5] at st4 hx5 B5 X5 Q5
      have HX5 := Lib.hid hx5
      have RB5 := Lib.hid (HW.out W5 B5.out).2.2.1
      clear hoq hbq B4 hb5 hW5 hx5
      go_wp2_with fail
      refine (HRRE.out W5 RB5.out).mono ?_
      rintro e w6 ⟨vr, rfl, hor, hbr⟩
      have B6 := B5.out.trans (hbr.mono B5.out.size)
      obtain ⟨st6, hb7, hx7⟩ := HSTORE.out w6 q vr _ hor
      have B7 := Lib.hid (B6.trans (hb7.mono B6.size))
      have hb57 : Below W5.heap.size W5 (w6.alloc (.cells (pgC q vr) 25)) := hbr.trans (hb7.mono hbr.size)
      have HL : Hid (∀ W, Below (w6.alloc (.cells (pgC q vr) 25)).heap.size (w6.alloc (.cells (pgC q vr) 25)) W → (pageLoad ⟨w4.heap.size, 0, none⟩).run Try.prog W = .ok (.agg (pgC q vq)) W ∧ (pageLoad ⟨w6.heap.size, 0, none⟩).run Try.prog W = .ok (.agg (pgC q vr)) W ∧ (pageLoad ⟨w.heap.size, 0, none⟩).run Try.prog W = .ok (.agg (pgC p u)) W ∧
          RdB W vx X ∧ RdB W vy X ∧ RdB W u p.body ∧ RdB W (.slice ab lb cb) b ∧ Below w.heap.size w W) := fun W hW => by
        obtain ⟨l1, r1, r2, bw, -⟩ := HW.out W (B7.out.trans (hW.mono B7.out.size))
        have h5W : Below W5.heap.size W5 W := hb57.trans (hW.mono hb57.size)
        exact ⟨(HX5.out.later h5W).load rfl, (hx7.later hW).load rfl, l1, X5.out.1.later h5W, X5.out.2.later h5W, r1, r2, bw⟩
      have HSA : Hid (∀ W, Below (w6.alloc (.cells (pgC q vr) 25)).heap.size (w6.alloc (.cells (pgC q vr) 25)) W → Calls Try.prog 11 #[.agg (pgC q vq), .agg (pgC q vr)] W fun e w' => e = .returned (.bool true) ∧ Below W.heap.size W w') := fun W hW => by
        have h5W : Below W5.heap.size W5 W := hb57.trans (hW.mono hb57.size)
        have := HSAME.out q q vq vr W (Q5.out.later h5W) ((hor.later hb7).later hW)
        rw [same_refl] at this
        exact this
      obtain ⟨W7, hW7⟩ : ∃ W, w6.alloc (.cells (pgC q vr) 25) = W := ⟨_, rfl⟩
      rw [hW7] at st6 HL HSA
      clear hor hbr B6 hb7 hx7 hb57 hW7 B7
      go_wp2_with fail
      refine region_slots (by kernel_rfl) (by kernel_rfl) (Gof [Gd.eq (vx), Gd.eq (.string (bs X)), Gd.eq (vy), Gd.eq (.string (bs X)), Gd.eq (.bool true), Gd.eq (.bool true), Gd.eq (.int .i64 ep), Gd.eq (.int .i64 ep), Gd.eq (.bool true), Gd.eq (.bool true), Gd.eq (.bool true), Gd.eq (.agg (pgC q vq)), Gd.eq (.agg (pgC q vr)), Gd.eq (.bool true), Gd.eq (.bool true), Gd.eq (.bool true), Gd.eq (.int .i64 f), Gd.eq (.int .i64 f), Gd.eq (.bool true), Gd.eq (.bool true), Gd.eq (.bool true), Gd.eq (.agg (pgC p u)), Gd.eq (.int .i64 n), Gd.eq (.bool mb), Gd.eq (.agg (pgC p u)), Gd.eq (.int .i64 n), Gd.eq (.bool mb), Gd.eq (.bool true), Gd.eq (.bool true), Gd.eq (.bool true), Gd.eq (.int .i64 n), Gd.eq (.int .i64 rm), Gd.eq (.int .i64 n), Gd.eq (.int .i64 rm), Gd.eq (.bool true), Gd.eq (.bool true), Gd.eq (.bool true), Gd.eq (.slice ab lb cb), Gd.eq (.bool bl), Gd.eq (.slice ab lb cb), Gd.eq (.bool bl), Gd.eq (.bool true), Gd.eq (.bool true), Gd.eq (.bool true)]) (Gof_st _) (steps_all ?_) ?_
      · dsimp only
        refine StepsFrom.cons ?s0 (StepsFrom.cons ?s1 (StepsFrom.cons ?s2 (StepsFrom.cons ?s3 (StepsFrom.cons ?s4 (StepsFrom.cons ?s5 (StepsFrom.cons ?s6 (StepsFrom.cons ?s7 (StepsFrom.cons ?s8 (StepsFrom.cons ?s9 (StepsFrom.cons ?s10 (StepsFrom.cons ?s11 (StepsFrom.cons ?s12 (StepsFrom.cons ?s13 (StepsFrom.cons ?s14 (StepsFrom.cons ?s15 (StepsFrom.cons ?s16 (StepsFrom.cons ?s17 (StepsFrom.cons ?s18 (StepsFrom.cons ?s19 (StepsFrom.cons ?s20 (StepsFrom.cons ?s21 (StepsFrom.cons ?s22 (StepsFrom.cons ?s23 (StepsFrom.cons ?s24 (StepsFrom.cons ?s25 (StepsFrom.cons ?s26 (StepsFrom.cons ?s27 (StepsFrom.cons ?s28 (StepsFrom.cons ?s29 (StepsFrom.cons ?s30 (StepsFrom.cons ?s31 (StepsFrom.cons ?s32 (StepsFrom.cons ?s33 (StepsFrom.cons ?s34 (StepsFrom.cons ?s35 (StepsFrom.cons ?s36 (StepsFrom.cons ?s37 (StepsFrom.cons ?s38 (StepsFrom.cons ?s39 (StepsFrom.cons ?s40 (StepsFrom.cons ?s41 (StepsFrom.cons ?s42 (StepsFrom.cons ?s43 StepsFrom.nil)))))))))))))))))))))))))))))))))))))))))))
        case s0 =>
          intro ac wc hU
          have e7 : slot ac 7 = vx := (hU.keep 7 (by kernel_rfl)).trans rfl
          refine step_val (wanted_none rfl) (run_move rfl) ?_
          show (Gd.eq (vx)).p _ wc
          exact (by rw [eval_tmp]; exact e7)
        case s1 =>
          intro ac wc hU
          have e48 : (Gd.eq (vx)).p (slot ac 48) wc := hU.dep 0 48 (by kernel_rfl)
          refine step_val (wanted_none rfl) (run_conv rfl (by rw [eval_tmp, show slot ac 48 = _ from e48]; exact run_text (HL.out wc hU.below).2.2.2.1)) rfl
        case s2 =>
          intro ac wc hU
          have e9 : slot ac 9 = vy := (hU.keep 9 (by kernel_rfl)).trans rfl
          refine step_val (wanted_none rfl) (run_move rfl) ?_
          show (Gd.eq (vy)).p _ wc
          exact (by rw [eval_tmp]; exact e9)
        case s3 =>
          intro ac wc hU
          have e50 : (Gd.eq (vy)).p (slot ac 50) wc := hU.dep 2 50 (by kernel_rfl)
          refine step_val (wanted_none rfl) (run_conv rfl (by rw [eval_tmp, show slot ac 50 = _ from e50]; exact run_text (HL.out wc hU.below).2.2.2.2.1)) rfl
        case s4 =>
          intro ac wc hU
          have e49 : (Gd.eq (.string (bs X))).p (slot ac 49) wc := hU.dep 1 49 (by kernel_rfl)
          have e51 : (Gd.eq (.string (bs X))).p (slot ac 51) wc := hU.dep 3 51 (by kernel_rfl)
          refine step_val (wanted_none rfl) (v := .bool true) ?_ rfl
          have e49 : slot ac 49 = .string (bs X) := e49
          have e51 : slot ac 51 = .string (bs X) := e51
          have tq := run_textEq (X) (X) wc
          rw [decide_eq_true rfl] at tq
          simp [execOp, eval_tmp, e49, e51] <;> go_simp
        case s5 =>
          intro ac wc hU
          have e52 : (Gd.eq (.bool true)).p (slot ac 52) wc := hU.dep 4 52 (by kernel_rfl)
          refine step_val (wanted_none rfl) (run_move rfl) ?_
          show (Gd.eq (.bool true)).p _ wc
          exact (by rw [eval_tmp]; exact e52)
        case s6 =>
          intro ac wc hU
          have e8 : slot ac 8 = .int .i64 ep := (hU.keep 8 (by kernel_rfl)).trans rfl
          have e53 : (Gd.eq (.bool true)).p (slot ac 53) wc := hU.dep 5 53 (by kernel_rfl)
          refine step_val ((wanted_some rfl rfl e53).trans rfl) (run_move rfl) ?_
          show (Gd.eq (.int .i64 ep)).p _ wc
          exact (by rw [eval_tmp]; exact e8)
        case s7 =>
          intro ac wc hU
          have e10 : slot ac 10 = .int .i64 ep := (hU.keep 10 (by kernel_rfl)).trans rfl
          have e53 : (Gd.eq (.bool true)).p (slot ac 53) wc := hU.dep 5 53 (by kernel_rfl)
          refine step_val ((wanted_some rfl rfl e53).trans rfl) (run_move rfl) ?_
          show (Gd.eq (.int .i64 ep)).p _ wc
          exact (by rw [eval_tmp]; exact e10)
        case s8 =>
          intro ac wc hU
          have e54 : (Gd.eq (.int .i64 ep)).p (slot ac 54) wc := hU.dep 6 54 (by kernel_rfl)
          have e55 : (Gd.eq (.int .i64 ep)).p (slot ac 55) wc := hU.dep 7 55 (by kernel_rfl)
          have e53 : (Gd.eq (.bool true)).p (slot ac 53) wc := hU.dep 5 53 (by kernel_rfl)
          refine step_val ((wanted_some rfl rfl e53).trans rfl) (v := .bool true) ?_ rfl
          have e54 : slot ac 54 = .int .i64 ep := e54
          have e55 : slot ac 55 = .int .i64 ep := e55
          simp [execOp, eval_tmp, e54, e55] <;> go_simp
        case s9 =>
          intro ac wc hU
          have e53 : (Gd.eq (.bool true)).p (slot ac 53) wc := hU.dep 5 53 (by kernel_rfl)
          have e56 : (Gd.eq (.bool true)).p (slot ac 56) wc := hU.dep 8 56 (by kernel_rfl)
          refine step_val (wanted_none rfl) (run_pick (b := true) rfl (by rw [eval_tmp]; exact e53)) ?_
          show (Gd.eq (.bool true)).p (if true = true then _ else _) wc
          rw [if_pos rfl]
          exact (by rw [eval_tmp]; exact e56)
        case s10 =>
          intro ac wc hU
          have e57 : (Gd.eq (.bool true)).p (slot ac 57) wc := hU.dep 9 57 (by kernel_rfl)
          refine step_val (wanted_none rfl) (run_move rfl) ?_
          show (Gd.eq (.bool true)).p _ wc
          exact (by rw [eval_tmp]; exact e57)
        case s11 =>
          intro ac wc hU
          have e11 : slot ac 11 = .pointer (some ⟨w4.heap.size, 0, none⟩) := (hU.keep 11 (by kernel_rfl)).trans rfl
          have e58 : (Gd.eq (.bool true)).p (slot ac 58) wc := hU.dep 10 58 (by kernel_rfl)
          refine step_val ((wanted_some rfl rfl e58).trans rfl) (v := .agg (pgC q vq)) ?_ rfl
          have ld := (HL.out wc hU.below).1
          have e11 : slot ac 11 = .pointer (some ⟨w4.heap.size, 0, none⟩) := e11
          simp [execOp, eval_tmp, e11] <;> go_simp
        case s12 =>
          intro ac wc hU
          have e13 : slot ac 13 = .pointer (some ⟨w6.heap.size, 0, none⟩) := (hU.keep 13 (by kernel_rfl)).trans rfl
          have e58 : (Gd.eq (.bool true)).p (slot ac 58) wc := hU.dep 10 58 (by kernel_rfl)
          refine step_val ((wanted_some rfl rfl e58).trans rfl) (v := .agg (pgC q vr)) ?_ rfl
          have ld := (HL.out wc hU.below).2.1
          have e13 : slot ac 13 = .pointer (some ⟨w6.heap.size, 0, none⟩) := e13
          simp [execOp, eval_tmp, e13] <;> go_simp
        case s13 =>
          intro ac wc hU
          have e59 : (Gd.eq (.agg (pgC q vq))).p (slot ac 59) wc := hU.dep 11 59 (by kernel_rfl)
          have e60 : (Gd.eq (.agg (pgC q vr))).p (slot ac 60) wc := hU.dep 12 60 (by kernel_rfl)
          have e58 : (Gd.eq (.bool true)).p (slot ac 58) wc := hU.dep 10 58 (by kernel_rfl)
          refine step_call ((wanted_some rfl rfl e58).trans rfl) (f := 11) (args := #[(.agg (pgC q vq)), (.agg (pgC q vr))]) ?_ ?_
          · have e59 : slot ac 59 = .agg (pgC q vq) := e59
            have e60 : slot ac 60 = .agg (pgC q vr) := e60
            simp [execOp, resolve, invoke, eval_tmp, e59, e60] <;> go_simp
          · refine (HSA.out wc hU.below).mono ?_
            rintro e w' ⟨rfl, hb⟩; exact ⟨_, rfl, hb, rfl⟩
        case s14 =>
          intro ac wc hU
          have e58 : (Gd.eq (.bool true)).p (slot ac 58) wc := hU.dep 10 58 (by kernel_rfl)
          have e61 : (Gd.eq (.bool true)).p (slot ac 61) wc := hU.dep 13 61 (by kernel_rfl)
          refine step_val (wanted_none rfl) (run_pick (b := true) rfl (by rw [eval_tmp]; exact e58)) ?_
          show (Gd.eq (.bool true)).p (if true = true then _ else _) wc
          rw [if_pos rfl]
          exact (by rw [eval_tmp]; exact e61)
        case s15 =>
          intro ac wc hU
          have e62 : (Gd.eq (.bool true)).p (slot ac 62) wc := hU.dep 14 62 (by kernel_rfl)
          refine step_val (wanted_none rfl) (run_move rfl) ?_
          show (Gd.eq (.bool true)).p _ wc
          exact (by rw [eval_tmp]; exact e62)
        case s16 =>
          intro ac wc hU
          have e12 : slot ac 12 = .int .i64 f := (hU.keep 12 (by kernel_rfl)).trans rfl
          have e63 : (Gd.eq (.bool true)).p (slot ac 63) wc := hU.dep 15 63 (by kernel_rfl)
          refine step_val ((wanted_some rfl rfl e63).trans rfl) (run_move rfl) ?_
          show (Gd.eq (.int .i64 f)).p _ wc
          exact (by rw [eval_tmp]; exact e12)
        case s17 =>
          intro ac wc hU
          have e14 : slot ac 14 = .int .i64 f := (hU.keep 14 (by kernel_rfl)).trans rfl
          have e63 : (Gd.eq (.bool true)).p (slot ac 63) wc := hU.dep 15 63 (by kernel_rfl)
          refine step_val ((wanted_some rfl rfl e63).trans rfl) (run_move rfl) ?_
          show (Gd.eq (.int .i64 f)).p _ wc
          exact (by rw [eval_tmp]; exact e14)
        case s18 =>
          intro ac wc hU
          have e64 : (Gd.eq (.int .i64 f)).p (slot ac 64) wc := hU.dep 16 64 (by kernel_rfl)
          have e65 : (Gd.eq (.int .i64 f)).p (slot ac 65) wc := hU.dep 17 65 (by kernel_rfl)
          have e63 : (Gd.eq (.bool true)).p (slot ac 63) wc := hU.dep 15 63 (by kernel_rfl)
          refine step_val ((wanted_some rfl rfl e63).trans rfl) (v := .bool true) ?_ rfl
          have e64 : slot ac 64 = .int .i64 f := e64
          have e65 : slot ac 65 = .int .i64 f := e65
          simp [execOp, eval_tmp, e64, e65] <;> go_simp
        case s19 =>
          intro ac wc hU
          have e63 : (Gd.eq (.bool true)).p (slot ac 63) wc := hU.dep 15 63 (by kernel_rfl)
          have e66 : (Gd.eq (.bool true)).p (slot ac 66) wc := hU.dep 18 66 (by kernel_rfl)
          refine step_val (wanted_none rfl) (run_pick (b := true) rfl (by rw [eval_tmp]; exact e63)) ?_
          show (Gd.eq (.bool true)).p (if true = true then _ else _) wc
          rw [if_pos rfl]
          exact (by rw [eval_tmp]; exact e66)
        case s20 =>
          intro ac wc hU
          have e67 : (Gd.eq (.bool true)).p (slot ac 67) wc := hU.dep 19 67 (by kernel_rfl)
          refine step_val (wanted_none rfl) (run_move rfl) ?_
          show (Gd.eq (.bool true)).p _ wc
          exact (by rw [eval_tmp]; exact e67)
        case s21 =>
          intro ac wc hU
          have e3 : slot ac 3 = .pointer (some ⟨w.heap.size, 0, none⟩) := (hU.keep 3 (by kernel_rfl)).trans rfl
          have e68 : (Gd.eq (.bool true)).p (slot ac 68) wc := hU.dep 20 68 (by kernel_rfl)
          refine step_val ((wanted_some rfl rfl e68).trans rfl) (v := .agg (pgC p u)) ?_ rfl
          have ld := (HL.out wc hU.below).2.2.1
          have e3 : slot ac 3 = .pointer (some ⟨w.heap.size, 0, none⟩) := e3
          simp [execOp, eval_tmp, e3] <;> go_simp
        case s22 =>
          intro ac wc hU
          have e1 : slot ac 1 = .int .i64 n := (hU.keep 1 (by kernel_rfl)).trans rfl
          have e68 : (Gd.eq (.bool true)).p (slot ac 68) wc := hU.dep 20 68 (by kernel_rfl)
          refine step_val ((wanted_some rfl rfl e68).trans rfl) (run_move rfl) ?_
          show (Gd.eq (.int .i64 n)).p _ wc
          exact (by rw [eval_tmp]; exact e1)
        case s23 =>
          intro ac wc hU
          have e69 : (Gd.eq (.agg (pgC p u))).p (slot ac 69) wc := hU.dep 21 69 (by kernel_rfl)
          have e70 : (Gd.eq (.int .i64 n)).p (slot ac 70) wc := hU.dep 22 70 (by kernel_rfl)
          have e68 : (Gd.eq (.bool true)).p (slot ac 68) wc := hU.dep 20 68 (by kernel_rfl)
          refine step_call ((wanted_some rfl rfl e68).trans rfl) (f := 12) (args := #[(.agg (pgC p u)), (.int .i64 n)]) ?_ ?_
          · have e69 : slot ac 69 = .agg (pgC p u) := e69
            have e70 : slot ac 70 = .int .i64 n := e70
            simp [execOp, resolve, invoke, eval_tmp, e69, e70] <;> go_simp
          · refine (HMA.out wc (HL.out wc hU.below).2.2.2.2.2.1).mono ?_
            rintro e w' ⟨rfl, hb⟩; exact ⟨_, rfl, hb, rfl⟩
        case s24 =>
          intro ac wc hU
          have e3 : slot ac 3 = .pointer (some ⟨w.heap.size, 0, none⟩) := (hU.keep 3 (by kernel_rfl)).trans rfl
          have e68 : (Gd.eq (.bool true)).p (slot ac 68) wc := hU.dep 20 68 (by kernel_rfl)
          refine step_val ((wanted_some rfl rfl e68).trans rfl) (v := .agg (pgC p u)) ?_ rfl
          have ld := (HL.out wc hU.below).2.2.1
          have e3 : slot ac 3 = .pointer (some ⟨w.heap.size, 0, none⟩) := e3
          simp [execOp, eval_tmp, e3] <;> go_simp
        case s25 =>
          intro ac wc hU
          have e1 : slot ac 1 = .int .i64 n := (hU.keep 1 (by kernel_rfl)).trans rfl
          have e68 : (Gd.eq (.bool true)).p (slot ac 68) wc := hU.dep 20 68 (by kernel_rfl)
          refine step_val ((wanted_some rfl rfl e68).trans rfl) (run_move rfl) ?_
          show (Gd.eq (.int .i64 n)).p _ wc
          exact (by rw [eval_tmp]; exact e1)
        case s26 =>
          intro ac wc hU
          have e72 : (Gd.eq (.agg (pgC p u))).p (slot ac 72) wc := hU.dep 24 72 (by kernel_rfl)
          have e73 : (Gd.eq (.int .i64 n)).p (slot ac 73) wc := hU.dep 25 73 (by kernel_rfl)
          have e68 : (Gd.eq (.bool true)).p (slot ac 68) wc := hU.dep 20 68 (by kernel_rfl)
          refine step_call ((wanted_some rfl rfl e68).trans rfl) (f := 13) (args := #[(.agg (pgC p u)), (.int .i64 n)]) ?_ ?_
          · have e72 : slot ac 72 = .agg (pgC p u) := e72
            have e73 : slot ac 73 = .int .i64 n := e73
            simp [execOp, resolve, invoke, eval_tmp, e72, e73] <;> go_simp
          · refine (HRM.out wc (HL.out wc hU.below).2.2.2.2.2.1).mono ?_
            rintro e w' ⟨rfl, hb⟩; exact ⟨_, rfl, hb, rfl⟩
        case s27 =>
          intro ac wc hU
          have e71 : (Gd.eq (.bool mb)).p (slot ac 71) wc := hU.dep 23 71 (by kernel_rfl)
          have e74 : (Gd.eq (.bool mb)).p (slot ac 74) wc := hU.dep 26 74 (by kernel_rfl)
          have e68 : (Gd.eq (.bool true)).p (slot ac 68) wc := hU.dep 20 68 (by kernel_rfl)
          refine step_val ((wanted_some rfl rfl e68).trans rfl) (v := .bool true) ?_ rfl
          have e71 : slot ac 71 = .bool mb := e71
          have e74 : slot ac 74 = .bool mb := e74
          simp [execOp, eval_tmp, e71, e74] <;> go_simp
        case s28 =>
          intro ac wc hU
          have e68 : (Gd.eq (.bool true)).p (slot ac 68) wc := hU.dep 20 68 (by kernel_rfl)
          have e75 : (Gd.eq (.bool true)).p (slot ac 75) wc := hU.dep 27 75 (by kernel_rfl)
          refine step_val (wanted_none rfl) (run_pick (b := true) rfl (by rw [eval_tmp]; exact e68)) ?_
          show (Gd.eq (.bool true)).p (if true = true then _ else _) wc
          rw [if_pos rfl]
          exact (by rw [eval_tmp]; exact e75)
        case s29 =>
          intro ac wc hU
          have e76 : (Gd.eq (.bool true)).p (slot ac 76) wc := hU.dep 28 76 (by kernel_rfl)
          refine step_val (wanted_none rfl) (run_move rfl) ?_
          show (Gd.eq (.bool true)).p _ wc
          exact (by rw [eval_tmp]; exact e76)
        case s30 =>
          intro ac wc hU
          have e1 : slot ac 1 = .int .i64 n := (hU.keep 1 (by kernel_rfl)).trans rfl
          have e77 : (Gd.eq (.bool true)).p (slot ac 77) wc := hU.dep 29 77 (by kernel_rfl)
          refine step_val ((wanted_some rfl rfl e77).trans rfl) (run_move rfl) ?_
          show (Gd.eq (.int .i64 n)).p _ wc
          exact (by rw [eval_tmp]; exact e1)
        case s31 =>
          intro ac wc hU
          have e78 : (Gd.eq (.int .i64 n)).p (slot ac 78) wc := hU.dep 30 78 (by kernel_rfl)
          have e77 : (Gd.eq (.bool true)).p (slot ac 77) wc := hU.dep 29 77 (by kernel_rfl)
          refine step_call ((wanted_some rfl rfl e77).trans rfl) (f := 14) (args := #[(.int .i64 n)]) ?_ ?_
          · have e78 : slot ac 78 = .int .i64 n := e78
            simp [execOp, resolve, invoke, eval_tmp, e78] <;> go_simp
          · refine (HRO.out wc).mono ?_
            rintro e w' ⟨rfl, rfl⟩; exact ⟨_, rfl, Below.refl _ _, rfl⟩
        case s32 =>
          intro ac wc hU
          have e1 : slot ac 1 = .int .i64 n := (hU.keep 1 (by kernel_rfl)).trans rfl
          have e77 : (Gd.eq (.bool true)).p (slot ac 77) wc := hU.dep 29 77 (by kernel_rfl)
          refine step_val ((wanted_some rfl rfl e77).trans rfl) (run_move rfl) ?_
          show (Gd.eq (.int .i64 n)).p _ wc
          exact (by rw [eval_tmp]; exact e1)
        case s33 =>
          intro ac wc hU
          have e80 : (Gd.eq (.int .i64 n)).p (slot ac 80) wc := hU.dep 32 80 (by kernel_rfl)
          have e77 : (Gd.eq (.bool true)).p (slot ac 77) wc := hU.dep 29 77 (by kernel_rfl)
          refine step_call ((wanted_some rfl rfl e77).trans rfl) (f := 15) (args := #[(.int .i64 n)]) ?_ ?_
          · have e80 : slot ac 80 = .int .i64 n := e80
            simp [execOp, resolve, invoke, eval_tmp, e80] <;> go_simp
          · refine (HRR.out wc).mono ?_
            rintro e w' ⟨rfl, rfl⟩; exact ⟨_, rfl, Below.refl _ _, rfl⟩
        case s34 =>
          intro ac wc hU
          have e79 : (Gd.eq (.int .i64 rm)).p (slot ac 79) wc := hU.dep 31 79 (by kernel_rfl)
          have e81 : (Gd.eq (.int .i64 rm)).p (slot ac 81) wc := hU.dep 33 81 (by kernel_rfl)
          have e77 : (Gd.eq (.bool true)).p (slot ac 77) wc := hU.dep 29 77 (by kernel_rfl)
          refine step_val ((wanted_some rfl rfl e77).trans rfl) (v := .bool true) ?_ rfl
          have e79 : slot ac 79 = .int .i64 rm := e79
          have e81 : slot ac 81 = .int .i64 rm := e81
          simp [execOp, eval_tmp, e79, e81] <;> go_simp
        case s35 =>
          intro ac wc hU
          have e77 : (Gd.eq (.bool true)).p (slot ac 77) wc := hU.dep 29 77 (by kernel_rfl)
          have e82 : (Gd.eq (.bool true)).p (slot ac 82) wc := hU.dep 34 82 (by kernel_rfl)
          refine step_val (wanted_none rfl) (run_pick (b := true) rfl (by rw [eval_tmp]; exact e77)) ?_
          show (Gd.eq (.bool true)).p (if true = true then _ else _) wc
          rw [if_pos rfl]
          exact (by rw [eval_tmp]; exact e82)
        case s36 =>
          intro ac wc hU
          have e83 : (Gd.eq (.bool true)).p (slot ac 83) wc := hU.dep 35 83 (by kernel_rfl)
          refine step_val (wanted_none rfl) (run_move rfl) ?_
          show (Gd.eq (.bool true)).p _ wc
          exact (by rw [eval_tmp]; exact e83)
        case s37 =>
          intro ac wc hU
          have e2 : slot ac 2 = .slice ab lb cb := (hU.keep 2 (by kernel_rfl)).trans rfl
          have e84 : (Gd.eq (.bool true)).p (slot ac 84) wc := hU.dep 36 84 (by kernel_rfl)
          refine step_val ((wanted_some rfl rfl e84).trans rfl) (run_move rfl) ?_
          show (Gd.eq (.slice ab lb cb)).p _ wc
          exact (by rw [eval_tmp]; exact e2)
        case s38 =>
          intro ac wc hU
          have e85 : (Gd.eq (.slice ab lb cb)).p (slot ac 85) wc := hU.dep 37 85 (by kernel_rfl)
          have e84 : (Gd.eq (.bool true)).p (slot ac 84) wc := hU.dep 36 84 (by kernel_rfl)
          refine step_call ((wanted_some rfl rfl e84).trans rfl) (f := 16) (args := #[(.slice ab lb cb)]) ?_ ?_
          · have e85 : slot ac 85 = .slice ab lb cb := e85
            simp [execOp, resolve, invoke, eval_tmp, e85] <;> go_simp
          · refine (HBL.out wc (HL.out wc hU.below).2.2.2.2.2.2.1).mono ?_
            rintro e w' ⟨rfl, hb⟩; exact ⟨_, rfl, hb, rfl⟩
        case s39 =>
          intro ac wc hU
          have e2 : slot ac 2 = .slice ab lb cb := (hU.keep 2 (by kernel_rfl)).trans rfl
          have e84 : (Gd.eq (.bool true)).p (slot ac 84) wc := hU.dep 36 84 (by kernel_rfl)
          refine step_val ((wanted_some rfl rfl e84).trans rfl) (run_move rfl) ?_
          show (Gd.eq (.slice ab lb cb)).p _ wc
          exact (by rw [eval_tmp]; exact e2)
        case s40 =>
          intro ac wc hU
          have e87 : (Gd.eq (.slice ab lb cb)).p (slot ac 87) wc := hU.dep 39 87 (by kernel_rfl)
          have e84 : (Gd.eq (.bool true)).p (slot ac 84) wc := hU.dep 36 84 (by kernel_rfl)
          refine step_call ((wanted_some rfl rfl e84).trans rfl) (f := 17) (args := #[(.slice ab lb cb)]) ?_ ?_
          · have e87 : slot ac 87 = .slice ab lb cb := e87
            simp [execOp, resolve, invoke, eval_tmp, e87] <;> go_simp
          · refine (HRB.out wc (HL.out wc hU.below).2.2.2.2.2.2.1).mono ?_
            rintro e w' ⟨rfl, rfl⟩; exact ⟨_, rfl, Below.refl _ _, rfl⟩
        case s41 =>
          intro ac wc hU
          have e86 : (Gd.eq (.bool bl)).p (slot ac 86) wc := hU.dep 38 86 (by kernel_rfl)
          have e88 : (Gd.eq (.bool bl)).p (slot ac 88) wc := hU.dep 40 88 (by kernel_rfl)
          have e84 : (Gd.eq (.bool true)).p (slot ac 84) wc := hU.dep 36 84 (by kernel_rfl)
          refine step_val ((wanted_some rfl rfl e84).trans rfl) (v := .bool true) ?_ rfl
          have e86 : slot ac 86 = .bool bl := e86
          have e88 : slot ac 88 = .bool bl := e88
          simp [execOp, eval_tmp, e86, e88] <;> go_simp
        case s42 =>
          intro ac wc hU
          have e84 : (Gd.eq (.bool true)).p (slot ac 84) wc := hU.dep 36 84 (by kernel_rfl)
          have e89 : (Gd.eq (.bool true)).p (slot ac 89) wc := hU.dep 41 89 (by kernel_rfl)
          refine step_val (wanted_none rfl) (run_pick (b := true) rfl (by rw [eval_tmp]; exact e84)) ?_
          show (Gd.eq (.bool true)).p (if true = true then _ else _) wc
          rw [if_pos rfl]
          exact (by rw [eval_tmp]; exact e89)
        case s43 =>
          intro ac wc hU
          have e90 : (Gd.eq (.bool true)).p (slot ac 90) wc := hU.dep 42 90 (by kernel_rfl)
          refine step_val (wanted_none rfl) (run_assign rfl) ?_
          show (Gd.eq (.bool true)).p _ wc
          exact (by rw [eval_tmp]; exact e90)
      · intro ac wc hU
        have e6 : slot ac 6 = .bool true := hU.last 43 6 (by kernel_rfl)
        have hd : ac.defers = [] := hU.defers.trans rfl
        have FIN := Lib.hid (HL.out wc hU.below).2.2.2.2.2.2.2
        clear hU
        go_wp2
        exact ret_slot (by kernel_rfl) e6 hd ⟨rfl, FIN.out⟩
end Go.Proofs.Ytkbnffjkilpdaaa.Page.pageRight
