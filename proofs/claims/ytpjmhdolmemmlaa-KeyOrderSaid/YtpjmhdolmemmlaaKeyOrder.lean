/-
  The statement KeyOrder of layer 1 holds: of two prefixes that may be, and aren't the same, just one is ahead of the other one; who is ahead of who is ahead is ahead. For every three prefixes, whatever lies in memory, without a condition.
-/
import Derived.Test.YtpjmhdolmemmlaaKeyAwake
import Derived.Test.YtpjmhdolmemmlaaKeyPreEq
import Derived.Test.YtpjmhdolmemmlaaKeyOpen
import Derived.Carry
namespace Go.Proofs.Ytpjmhdolmemmlaa
open Go.ChangeShapes Go.WideShapes Go.ChangeAt Go.RowKit Go.Sort
attribute [local go_sem ↓] loadVar_key loadVar_pre storeVar_key storeVar_pre binOp_preEql

/-- What is known of a world in which three prefixes lie, one block behind the other. -/
structure ThreePre (w : World) (B : Nat) (p q r : Pre) : Prop where
  lp : (preLoad ⟨B, 0, none⟩).run Try.prog w = .ok (.agg (pc p)) w
  lq : (preLoad ⟨B + 1, 0, none⟩).run Try.prog w = .ok (.agg (pc q)) w
  lr : (preLoad ⟨B + 1 + 1, 0, none⟩).run Try.prog w = .ok (.agg (pc r)) w

theorem rows_three (w : World) (a b c : Array Value) (s t u : TypeId) : RowAt (((w.alloc (.cells a s)).alloc (.cells b t)).alloc (.cells c u)) w.heap.size 0 a ∧ RowAt (((w.alloc (.cells a s)).alloc (.cells b t)).alloc (.cells c u)) (w.heap.size + 1) 0 b ∧
    RowAt (((w.alloc (.cells a s)).alloc (.cells b t)).alloc (.cells c u)) (w.heap.size + 1 + 1) 0 c ∧
    Below w.heap.size w (((w.alloc (.cells a s)).alloc (.cells b t)).alloc (.cells c u)) ∧ (((w.alloc (.cells a s)).alloc (.cells b t)).alloc (.cells c u)).heap.size = w.heap.size + 3 := by
  obtain ⟨h1, h2, h3, h4⟩ := rows_two w a b s t
  have hb : Below (w.heap.size + 2) ((w.alloc (.cells a s)).alloc (.cells b t)) (((w.alloc (.cells a s)).alloc (.cells b t)).alloc (.cells c u)) := (Below.refl _ _).alloc (by rw [h4]; exact Nat.le_refl _) _
  exact ⟨h1.below hb (by omega), h2.below hb (by omega), by have := rowAt_new ((w.alloc (.cells a s)).alloc (.cells b t)) c u; rwa [h4] at this, h3.trans (hb.mono (by omega)), by simp⟩

namespace keyOrder

theorem less_iff {p q : Pre} (mp : mayB p = true) (mq : mayB q = true) : lessB p q = true ↔ p.bits < q.bits ∨ (p.bits = q.bits ∧ (num p.key < num q.key ∨ (num p.key = num q.key ∧ p.len < q.len))) := by
  unfold lessB
  rw [mp, mq]
  by_cases e1 : p.bits = q.bits
  · by_cases e2 : num p.key = num q.key
    · simp [e1, e2]
    · simp [e1, e2]
  · simp [e1]

theorem pre_iff {p q : Pre} (hp : Bytes16 p.key) (hq : Bytes16 q.key) : preEq p q = true ↔ p.bits = q.bits ∧ p.len = q.len ∧ num p.key = num q.key := by
  unfold preEq
  simp only [Bool.and_eq_true, beq_iff_eq, keyEq_iff, num_eq hp hq, and_assoc]

/-- The laws of an order, of what the calls hand back. -/
theorem order_eq {p q : Pre} (hp : Bytes16 p.key) (hq : Bytes16 q.key) (mp : mayB p = true) (mq : mayB q = true) : preEq p q = (!lessB p q && !lessB q p) ∧ (lessB p q && lessB q p) = false := by
  have h1 := less_iff mp mq
  have h2 := less_iff mq mp
  have h3 := pre_iff hp hq
  generalize lessB p q = x at *
  generalize lessB q p = y at *
  generalize preEq p q = e at *
  generalize num p.key = a at *
  generalize num q.key = b at *
  cases x <;> cases y <;> cases e <;> simp at h1 h2 h3 ⊢ <;> omega

theorem order_trans {p q r : Pre} (mp : mayB p = true) (mq : mayB q = true) (mr : mayB r = true) (h1 : lessB p q = true) (h2 : lessB q r = true) : lessB p r = true := by
  rw [less_iff mp mq] at h1
  rw [less_iff mq mr] at h2
  rw [less_iff mp mr]
  omega

set_option maxHeartbeats 4000000 in
set_option maxRecDepth 100000 in
/-- Not all three may be. -/
theorem walk_no (p q r : Pre) (hp : Bytes16 p.key) (hq : Bytes16 q.key) (hr : Bytes16 r.key) (hno : ¬ (mayB p = true ∧ mayB q = true ∧ mayB r = true)) (w : World) :
    Calls Try.prog 5 #[.agg (pc p), .agg (pc q), .agg (pc r)] w fun e w' => e = .returned (.bool true) ∧ Below w.heap.size w w' := by
  obtain ⟨rp, rq, rr, hb, hz⟩ := rows_three w (pc p) (pc q) (pc r) 25 25 25
  have C0 := Lib.hid awake_any
  have C1 := fun w => may_any p hp w
  have C2 := fun w => may_any q hq w
  have C3 := fun w => may_any r hr w
  generalize hW : ((w.alloc (.cells (pc p) 25)).alloc (.cells (pc q) 25)).alloc (.cells (pc r) 25) = W at *
  have T : ∀ w1, Below W.heap.size W w1 → ThreePre w1 w.heap.size p q r :=
    fun w1 h => ⟨run_preLoad (rp.below h (by omega)), run_preLoad (rq.below h (by omega)), run_preLoad (rr.below h (by omega))⟩
  have HT := Lib.hid T
  have HW := Lib.hid hW
  clear T hW hz rp rq rr
  cases m1 : mayB p with
  | false =>
    simp only [m1] at C1
    have H1 := Lib.hid C1
    clear C1 C2 C3 m1 hno
    go_enter Try.func5, Try.ntmps5
    go_wp2_with fail
    rw [HW.out]
    refine (C0.out _).mono ?_
    rintro e w1 ⟨rfl, h1⟩
    obtain ⟨lp, lq, lr⟩ := HT.out w1 h1
    go_wp2_with fail
    refine (H1.out _).mono ?_
    rintro e w2 ⟨rfl, h2⟩
    go_wp2
    go_ret
    exact ⟨rfl, hb.trans ((h1.trans (h2.mono h1.size)).mono hb.size)⟩
  | true =>
    simp only [m1] at C1
    have H1 := Lib.hid C1
    cases m2 : mayB q with
    | false =>
      simp only [m2] at C2
      have H2 := Lib.hid C2
      clear C1 C2 C3 m1 m2 hno
      go_enter Try.func5, Try.ntmps5
      go_wp2_with fail
      rw [HW.out]
      refine (C0.out _).mono ?_
      rintro e w1 ⟨rfl, h1⟩
      obtain ⟨lp, lq, lr⟩ := HT.out w1 h1
      go_wp2_with fail
      refine (H1.out _).mono ?_
      rintro e w2 ⟨rfl, h2⟩
      have h2 := h1.trans (h2.mono h1.size)
      obtain ⟨lp, lq, lr⟩ := HT.out w2 h2
      go_wp2_with fail
      refine (H2.out _).mono ?_
      rintro e w3 ⟨rfl, h3⟩
      have h3 := h2.trans (h3.mono h2.size)
      go_wp2
      go_ret
      exact ⟨rfl, hb.trans (h3.mono hb.size)⟩
    | true =>
      simp only [m2] at C2
      have H2 := Lib.hid C2
      cases m3 : mayB r with
      | true => exact absurd ⟨m1, m2, m3⟩ hno
      | false =>
        simp only [m3] at C3
        have H3 := Lib.hid C3
        clear C1 C2 C3 m1 m2 m3 hno
        go_enter Try.func5, Try.ntmps5
        go_wp2_with fail
        rw [HW.out]
        refine (C0.out _).mono ?_
        rintro e w1 ⟨rfl, h1⟩
        obtain ⟨lp, lq, lr⟩ := HT.out w1 h1
        go_wp2_with fail
        refine (H1.out _).mono ?_
        rintro e w2 ⟨rfl, h2⟩
        have h2 := h1.trans (h2.mono h1.size)
        obtain ⟨lp, lq, lr⟩ := HT.out w2 h2
        go_wp2_with fail
        refine (H2.out _).mono ?_
        rintro e w3 ⟨rfl, h3⟩
        have h3 := h2.trans (h3.mono h2.size)
        obtain ⟨lp, lq, lr⟩ := HT.out w3 h3
        go_wp2_with fail
        refine (H3.out _).mono ?_
        rintro e w4 ⟨rfl, h4⟩
        have h4 := h3.trans (h4.mono h3.size)
        go_wp2
        go_ret
        exact ⟨rfl, hb.trans (h4.mono hb.size)⟩

set_option maxHeartbeats 4000000 in
set_option maxRecDepth 100000 in
/-- All three may be: what the comparisons hand back as truths x, y, z, u, e. -/
theorem walk_yes (p q r : Pre) (x y z u e : Bool) (hcond : (e == (!x && !y)) = true ∧ (x && y) = false ∧ (x = true → z = true → u = true)) (w : World)
    (H1 : Hid (∀ w, Calls Try.prog 17 #[.agg (pc p)] w fun e w' => e = .returned (.bool true) ∧ Below w.heap.size w w'))
    (H2 : Hid (∀ w, Calls Try.prog 17 #[.agg (pc q)] w fun e w' => e = .returned (.bool true) ∧ Below w.heap.size w w'))
    (H3 : Hid (∀ w, Calls Try.prog 17 #[.agg (pc r)] w fun e w' => e = .returned (.bool true) ∧ Below w.heap.size w w'))
    (HX : Hid (∀ w, Calls Try.prog 23 #[.agg (pc p), .agg (pc q)] w fun e w' => e = .returned (.bool x) ∧ Below w.heap.size w w'))
    (HY : Hid (∀ w, Calls Try.prog 23 #[.agg (pc q), .agg (pc p)] w fun e w' => e = .returned (.bool y) ∧ Below w.heap.size w w'))
    (HV : Hid (∀ w, Calls Try.prog 23 #[.agg (pc q), .agg (pc r)] w fun e w' => e = .returned (.bool z) ∧ Below w.heap.size w w'))
    (HU : Hid (∀ w, Calls Try.prog 23 #[.agg (pc p), .agg (pc r)] w fun e w' => e = .returned (.bool u) ∧ Below w.heap.size w w'))
    (HE : ∀ w, (preEql (.agg (pc p)) (.agg (pc q))).run Try.prog w = .ok (.bool e) w) :
    Calls Try.prog 5 #[.agg (pc p), .agg (pc q), .agg (pc r)] w fun e w' => e = .returned (.bool true) ∧ Below w.heap.size w w' := by
  obtain ⟨rp, rq, rr, hb, hz⟩ := rows_three w (pc p) (pc q) (pc r) 25 25 25
  have C0 := Lib.hid awake_any
  generalize hW : ((w.alloc (.cells (pc p) 25)).alloc (.cells (pc q) 25)).alloc (.cells (pc r) 25) = W at *
  have T : ∀ w1, Below W.heap.size W w1 → ThreePre w1 w.heap.size p q r :=
    fun w1 h => ⟨run_preLoad (rp.below h (by omega)), run_preLoad (rq.below h (by omega)), run_preLoad (rr.below h (by omega))⟩
  have TR : ∀ w1, Below W.heap.size W w1 → RowAt w1 w.heap.size 0 (pc p) ∧ RowAt w1 (w.heap.size + 1) 0 (pc q) ∧ RowAt w1 (w.heap.size + 1 + 1) 0 (pc r) :=
    fun w1 h => ⟨rp.below h (by omega), rq.below h (by omega), rr.below h (by omega)⟩
  have HT := Lib.hid T
  have HR := Lib.hid TR
  have HW := Lib.hid hW
  clear T TR hW hz rp rq rr
  go_enter Try.func5, Try.ntmps5
  go_wp2_with fail
  rw [HW.out]
  refine (C0.out _).mono ?_
  rintro e w1 ⟨rfl, h1⟩
  obtain ⟨lp, lq, lr⟩ := HT.out w1 h1
  go_wp2_with fail
  refine (H1.out _).mono ?_
  rintro e w2 ⟨rfl, h2⟩
  have h2 := h1.trans (h2.mono h1.size)
  obtain ⟨lp, lq, lr⟩ := HT.out w2 h2
  go_wp2_with fail
  refine (H2.out _).mono ?_
  rintro e w3 ⟨rfl, h3⟩
  have h3 := h2.trans (h3.mono h2.size)
  obtain ⟨lp, lq, lr⟩ := HT.out w3 h3
  go_wp2_with fail
  refine (H3.out _).mono ?_
  rintro e w4 ⟨rfl, h4⟩
  have h4 := h3.trans (h4.mono h3.size)
  obtain ⟨rp, rq, rr⟩ := HR.out w4 h4
  clear h1 h2 h3 lp lq lr
  go_wp2
  have lp := fun d os => run_preLoad (rowAt_regrown rp d os)
  have lq := fun d os => run_preLoad (rowAt_regrown rq d os)
  have lr := fun d os => run_preLoad (rowAt_regrown rr d os)
  have cx := fun d os => Calls.regrown_of (HX.out (grow (redrawn w4 d) os))
  have cy := fun d os => Calls.regrown_of (HY.out (grow (redrawn w4 d) os))
  have cz := fun d os => Calls.regrown_of (HV.out (grow (redrawn w4 d) os))
  have cu := fun d os => Calls.regrown_of (HU.out (grow (redrawn w4 d) os))
  have fin : ∀ w5, (∃ p : Regrown, w5 = grow (redrawn w4 p.d) p.os) → Below w.heap.size w w5 := by
    rintro w5 ⟨p, rfl⟩
    exact hb.trans ((h4.trans ((below_regrown w4 p.d p.os).mono h4.size)).mono hb.size)
  have HF := Lib.hid fin
  clear fin
  cases x with
  | false =>
    cases y with
    | false =>
      obtain rfl : e = true := by revert hcond; cases e <;> simp
      clear hcond
      refine wp_region_quiet_below (by kernel_rfl) (by kernel_rfl) ?_
      repeat (go_big_quiet_step ((with_reducible first | exact cx _ _ | exact cy _ _ | exact cz _ _ | exact cu _ _)))
      refine wpQuiet_nil fun w5 hw5 => ?_
      have hb5 := HF.out w5 hw5
      clear hw5 cx cy cz cu lp lq lr
      go_wp2
      go_ret
      exact ⟨rfl, hb5⟩
    | true =>
      obtain rfl : e = false := by revert hcond; cases e <;> simp
      clear hcond
      refine wp_region_quiet_below (by kernel_rfl) (by kernel_rfl) ?_
      repeat (go_big_quiet_step ((with_reducible first | exact cx _ _ | exact cy _ _ | exact cz _ _ | exact cu _ _)))
      refine wpQuiet_nil fun w5 hw5 => ?_
      have hb5 := HF.out w5 hw5
      clear hw5 cx cy cz cu lp lq lr
      go_wp2
      go_ret
      exact ⟨rfl, hb5⟩
  | true =>
    obtain rfl : y = false := by revert hcond; cases y <;> simp
    obtain rfl : e = false := by revert hcond; cases e <;> simp
    cases z with
    | false =>
      clear hcond
      refine wp_region_quiet_below (by kernel_rfl) (by kernel_rfl) ?_
      repeat (go_big_quiet_step ((with_reducible first | exact cx _ _ | exact cy _ _ | exact cz _ _ | exact cu _ _)))
      refine wpQuiet_nil fun w5 hw5 => ?_
      have hb5 := HF.out w5 hw5
      clear hw5 cx cy cz cu lp lq lr
      go_wp2
      go_ret
      exact ⟨rfl, hb5⟩
    | true =>
      obtain rfl : u = true := hcond.2.2 rfl rfl
      clear hcond
      refine wp_region_quiet_below (by kernel_rfl) (by kernel_rfl) ?_
      repeat (go_big_quiet_step ((with_reducible first | exact cx _ _ | exact cy _ _ | exact cz _ _ | exact cu _ _)))
      refine wpQuiet_nil fun w5 hw5 => ?_
      have hb5 := HF.out w5 hw5
      clear hw5 cx cy cz cu lp lq lr
      go_wp2
      go_ret
      exact ⟨rfl, hb5⟩

theorem walk (p q r : Pre) (hp : Bytes16 p.key) (_ : I64 p.bits) (_ : I64 p.len) (hq : Bytes16 q.key) (_ : I64 q.bits) (_ : I64 q.len) (hr : Bytes16 r.key) (_ : I64 r.bits) (_ : I64 r.len) (w : World) :
    Calls Try.prog 5 #[.agg (pc p), .agg (pc q), .agg (pc r)] w fun e w' => e = .returned (.bool true) ∧ Below w.heap.size w w' := by
  by_cases h : mayB p = true ∧ mayB q = true ∧ mayB r = true
  · obtain ⟨m1, m2, m3⟩ := h
    have ho := order_eq hp hq m1 m2
    refine walk_yes p q r (lessB p q) (lessB q p) (lessB q r) (lessB p r) (preEq p q) ⟨by rw [ho.1]; simp, ho.2, order_trans m1 m2 m3⟩ w ?_ ?_ ?_ (fun w => less_any p q hp hq w) (fun w => less_any q p hq hp w) (fun w => less_any q r hq hr w) (fun w => less_any p r hp hr w) (fun w => run_preEql p q w)
    · intro w; have := may_any p hp w; rwa [m1] at this
    · intro w; have := may_any q hq w; rwa [m2] at this
    · intro w; have := may_any r hr w; rwa [m3] at this
  · exact walk_no p q r hp hq hr h w

end keyOrder
end Go.Proofs.Ytpjmhdolmemmlaa
