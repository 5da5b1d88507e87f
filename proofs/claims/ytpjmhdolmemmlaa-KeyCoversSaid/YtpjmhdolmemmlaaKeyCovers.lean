/-
  The walks of the statement KeyCovers of layer 1: one theorem a way through it.
-/
import Derived.Test.YtpjmhdolmemmlaaKeyAwake
import Derived.Test.YtpjmhdolmemmlaaKeyPreEq
import Derived.Test.YtpjmhdolmemmlaaKeyOpen
import Derived.Test.YtpjmhdolmemmlaaPureLaws
namespace Go.Proofs.Ytpjmhdolmemmlaa
open Go.RowKit Go.Sort
attribute [local go_sem ↓] loadVar_key loadVar_pre storeVar_key storeVar_pre binOp_preEql

/-- What is known of a world in which two prefixes and a key lie, one block behind the other. -/
structure TwoKey (w : World) (B : Nat) (p q : Pre) (k : Nat → Nat) : Prop where
  lp : (preLoad ⟨B, 0, none⟩).run Try.prog w = .ok (.agg (pc p)) w
  lq : (preLoad ⟨B + 1, 0, none⟩).run Try.prog w = .ok (.agg (pc q)) w
  lk : (keyLoad ⟨B + 1 + 1, 0, none⟩).run Try.prog w = .ok (.agg (kc k)) w
  bp : w.cell? ⟨B, 0, none⟩ = some (.int .i64 p.bits)
  bq : w.cell? ⟨B + 1, 0, none⟩ = some (.int .i64 q.bits)

theorem rows_three' (w : World) (a b c : Array Value) (s t u : TypeId) : RowAt (((w.alloc (.cells a s)).alloc (.cells b t)).alloc (.cells c u)) w.heap.size 0 a ∧ RowAt (((w.alloc (.cells a s)).alloc (.cells b t)).alloc (.cells c u)) (w.heap.size + 1) 0 b ∧
    RowAt (((w.alloc (.cells a s)).alloc (.cells b t)).alloc (.cells c u)) (w.heap.size + 1 + 1) 0 c ∧
    Below w.heap.size w (((w.alloc (.cells a s)).alloc (.cells b t)).alloc (.cells c u)) ∧ (((w.alloc (.cells a s)).alloc (.cells b t)).alloc (.cells c u)).heap.size = w.heap.size + 3 := by
  obtain ⟨h1, h2, h3, h4⟩ := rows_two w a b s t
  have hb : Below (w.heap.size + 2) ((w.alloc (.cells a s)).alloc (.cells b t)) (((w.alloc (.cells a s)).alloc (.cells b t)).alloc (.cells c u)) := (Below.refl _ _).alloc (by rw [h4]; exact Nat.le_refl _) _
  exact ⟨h1.below hb (by omega), h2.below hb (by omega), by have := rowAt_new ((w.alloc (.cells a s)).alloc (.cells b t)) c u; rwa [h4] at this, h3.trans (hb.mono (by omega)), by simp⟩

namespace keyCovers

set_option maxHeartbeats 4000000 in
set_option maxRecDepth 100000 in
theorem n1 (p q : Pre) (k : Nat → Nat) (w : World) (HMp : Hid (∀ w, Calls Try.prog 17 #[.agg (pc p)] w fun e w' => e = .returned (.bool false) ∧ Below w.heap.size w w')) (HCpq : Hid (∀ w, Calls Try.prog 21 #[.agg (pc p), .agg (pc q)] w fun e w' => e = .returned (.bool false) ∧ Below w.heap.size w w')) (HLpq : Hid (∀ w, Calls Try.prog 23 #[.agg (pc p), .agg (pc q)] w fun e w' => e = .returned (.bool false) ∧ Below w.heap.size w w')) (HFp : Hid (∀ w, Calls Try.prog 19 #[.agg (pc p), .agg (kc k)] w fun e w' => e = .returned (.bool false) ∧ Below w.heap.size w w')) :
    Calls Try.prog 4 #[.agg (pc p), .agg (pc q), .agg (kc k)] w fun e w' => e = .returned (.bool true) ∧ Below w.heap.size w w' := by
  obtain ⟨rp, rq, rk, hb, hz⟩ := rows_three' w (pc p) (pc q) (kc k) 25 25 23
  have C0 := Lib.hid awake_any
  generalize hW : ((w.alloc (.cells (pc p) 25)).alloc (.cells (pc q) 25)).alloc (.cells (kc k) 23) = W at *
  have T : ∀ w1, Below W.heap.size W w1 → TwoKey w1 w.heap.size p q k :=
    fun w1 h => ⟨run_preLoad (rp.below h (by omega)), run_preLoad (rq.below h (by omega)), run_keyLoad (rk.below h (by omega)), (rp.below h (by omega)).bits, (rq.below h (by omega)).bits⟩
  have HT := Lib.hid T
  have HW := Lib.hid hW
  clear T hW hz rp rq rk
  go_enter Try.func4, Try.ntmps4
  go_wp2_with fail
  rw [HW.out]
  refine (C0.out _).mono ?_
  rintro e w1 ⟨rfl, h1⟩
  obtain ⟨lp, lq, lk, bp, bq⟩ := HT.out w1 h1
  go_wp2_with fail
  refine (HMp.out _).mono ?_
  clear lp lq lk bp bq
  rintro e w2 ⟨rfl, g2⟩
  have h2 := h1.trans (g2.mono h1.size)
  clear g2 h1
  obtain ⟨lp, lq, lk, bp, bq⟩ := HT.out w2 h2
  go_wp2_with fail
  refine (HCpq.out _).mono ?_
  clear lp lq lk bp bq
  rintro e w3 ⟨rfl, g3⟩
  have h3 := h2.trans (g3.mono h2.size)
  clear g3 h2
  obtain ⟨lp, lq, lk, bp, bq⟩ := HT.out w3 h3
  go_wp2_with fail
  refine (HLpq.out _).mono ?_
  clear lp lq lk bp bq
  rintro e w4 ⟨rfl, g4⟩
  have h4 := h3.trans (g4.mono h3.size)
  clear g4 h3
  obtain ⟨lp, lq, lk, bp, bq⟩ := HT.out w4 h4
  go_wp2_with fail
  refine (HFp.out _).mono ?_
  clear lp lq lk bp bq
  rintro e w5 ⟨rfl, g5⟩
  have h5 := h4.trans (g5.mono h4.size)
  clear g5 h4
  obtain ⟨lp, lq, lk, bp, bq⟩ := HT.out w5 h5
  go_wp2
  go_ret
  exact ⟨rfl, hb.trans (h5.mono hb.size)⟩

set_option maxHeartbeats 4000000 in
set_option maxRecDepth 100000 in
theorem n2 (p q : Pre) (k : Nat → Nat) (w : World) (HMp : Hid (∀ w, Calls Try.prog 17 #[.agg (pc p)] w fun e w' => e = .returned (.bool true) ∧ Below w.heap.size w w')) (HMq : Hid (∀ w, Calls Try.prog 17 #[.agg (pc q)] w fun e w' => e = .returned (.bool false) ∧ Below w.heap.size w w')) (HCpq : Hid (∀ w, Calls Try.prog 21 #[.agg (pc p), .agg (pc q)] w fun e w' => e = .returned (.bool false) ∧ Below w.heap.size w w')) (HLpq : Hid (∀ w, Calls Try.prog 23 #[.agg (pc p), .agg (pc q)] w fun e w' => e = .returned (.bool false) ∧ Below w.heap.size w w')) (HFp : Hid (∀ w, Calls Try.prog 19 #[.agg (pc p), .agg (kc k)] w fun e w' => e = .returned (.bool false) ∧ Below w.heap.size w w')) :
    Calls Try.prog 4 #[.agg (pc p), .agg (pc q), .agg (kc k)] w fun e w' => e = .returned (.bool true) ∧ Below w.heap.size w w' := by
  obtain ⟨rp, rq, rk, hb, hz⟩ := rows_three' w (pc p) (pc q) (kc k) 25 25 23
  have C0 := Lib.hid awake_any
  generalize hW : ((w.alloc (.cells (pc p) 25)).alloc (.cells (pc q) 25)).alloc (.cells (kc k) 23) = W at *
  have T : ∀ w1, Below W.heap.size W w1 → TwoKey w1 w.heap.size p q k :=
    fun w1 h => ⟨run_preLoad (rp.below h (by omega)), run_preLoad (rq.below h (by omega)), run_keyLoad (rk.below h (by omega)), (rp.below h (by omega)).bits, (rq.below h (by omega)).bits⟩
  have HT := Lib.hid T
  have HW := Lib.hid hW
  clear T hW hz rp rq rk
  go_enter Try.func4, Try.ntmps4
  go_wp2_with fail
  rw [HW.out]
  refine (C0.out _).mono ?_
  rintro e w1 ⟨rfl, h1⟩
  obtain ⟨lp, lq, lk, bp, bq⟩ := HT.out w1 h1
  go_wp2_with fail
  refine (HMp.out _).mono ?_
  clear lp lq lk bp bq
  rintro e w2 ⟨rfl, g2⟩
  have h2 := h1.trans (g2.mono h1.size)
  clear g2 h1
  obtain ⟨lp, lq, lk, bp, bq⟩ := HT.out w2 h2
  go_wp2_with fail
  refine (HMq.out _).mono ?_
  clear lp lq lk bp bq
  rintro e w3 ⟨rfl, g3⟩
  have h3 := h2.trans (g3.mono h2.size)
  clear g3 h2
  obtain ⟨lp, lq, lk, bp, bq⟩ := HT.out w3 h3
  go_wp2_with fail
  refine (HCpq.out _).mono ?_
  clear lp lq lk bp bq
  rintro e w4 ⟨rfl, g4⟩
  have h4 := h3.trans (g4.mono h3.size)
  clear g4 h3
  obtain ⟨lp, lq, lk, bp, bq⟩ := HT.out w4 h4
  go_wp2_with fail
  refine (HLpq.out _).mono ?_
  clear lp lq lk bp bq
  rintro e w5 ⟨rfl, g5⟩
  have h5 := h4.trans (g5.mono h4.size)
  clear g5 h4
  obtain ⟨lp, lq, lk, bp, bq⟩ := HT.out w5 h5
  go_wp2_with fail
  refine (HFp.out _).mono ?_
  clear lp lq lk bp bq
  rintro e w6 ⟨rfl, g6⟩
  have h6 := h5.trans (g6.mono h5.size)
  clear g6 h5
  obtain ⟨lp, lq, lk, bp, bq⟩ := HT.out w6 h6
  go_wp2
  go_ret
  exact ⟨rfl, hb.trans (h6.mono hb.size)⟩

set_option maxHeartbeats 4000000 in
set_option maxRecDepth 100000 in
theorem n3 (p q : Pre) (k : Nat → Nat) (w : World) (HMp : Hid (∀ w, Calls Try.prog 17 #[.agg (pc p)] w fun e w' => e = .returned (.bool true) ∧ Below w.heap.size w w')) (HMq : Hid (∀ w, Calls Try.prog 17 #[.agg (pc q)] w fun e w' => e = .returned (.bool false) ∧ Below w.heap.size w w')) (HCpq : Hid (∀ w, Calls Try.prog 21 #[.agg (pc p), .agg (pc q)] w fun e w' => e = .returned (.bool false) ∧ Below w.heap.size w w')) (HLpq : Hid (∀ w, Calls Try.prog 23 #[.agg (pc p), .agg (pc q)] w fun e w' => e = .returned (.bool false) ∧ Below w.heap.size w w')) (HFp : Hid (∀ w, Calls Try.prog 19 #[.agg (pc p), .agg (kc k)] w fun e w' => e = .returned (.bool true) ∧ Below w.heap.size w w')) :
    Calls Try.prog 4 #[.agg (pc p), .agg (pc q), .agg (kc k)] w fun e w' => e = .returned (.bool true) ∧ Below w.heap.size w w' := by
  obtain ⟨rp, rq, rk, hb, hz⟩ := rows_three' w (pc p) (pc q) (kc k) 25 25 23
  have C0 := Lib.hid awake_any
  generalize hW : ((w.alloc (.cells (pc p) 25)).alloc (.cells (pc q) 25)).alloc (.cells (kc k) 23) = W at *
  have T : ∀ w1, Below W.heap.size W w1 → TwoKey w1 w.heap.size p q k :=
    fun w1 h => ⟨run_preLoad (rp.below h (by omega)), run_preLoad (rq.below h (by omega)), run_keyLoad (rk.below h (by omega)), (rp.below h (by omega)).bits, (rq.below h (by omega)).bits⟩
  have HT := Lib.hid T
  have HW := Lib.hid hW
  clear T hW hz rp rq rk
  go_enter Try.func4, Try.ntmps4
  go_wp2_with fail
  rw [HW.out]
  refine (C0.out _).mono ?_
  rintro e w1 ⟨rfl, h1⟩
  obtain ⟨lp, lq, lk, bp, bq⟩ := HT.out w1 h1
  go_wp2_with fail
  refine (HMp.out _).mono ?_
  clear lp lq lk bp bq
  rintro e w2 ⟨rfl, g2⟩
  have h2 := h1.trans (g2.mono h1.size)
  clear g2 h1
  obtain ⟨lp, lq, lk, bp, bq⟩ := HT.out w2 h2
  go_wp2_with fail
  refine (HMq.out _).mono ?_
  clear lp lq lk bp bq
  rintro e w3 ⟨rfl, g3⟩
  have h3 := h2.trans (g3.mono h2.size)
  clear g3 h2
  obtain ⟨lp, lq, lk, bp, bq⟩ := HT.out w3 h3
  go_wp2_with fail
  refine (HCpq.out _).mono ?_
  clear lp lq lk bp bq
  rintro e w4 ⟨rfl, g4⟩
  have h4 := h3.trans (g4.mono h3.size)
  clear g4 h3
  obtain ⟨lp, lq, lk, bp, bq⟩ := HT.out w4 h4
  go_wp2_with fail
  refine (HLpq.out _).mono ?_
  clear lp lq lk bp bq
  rintro e w5 ⟨rfl, g5⟩
  have h5 := h4.trans (g5.mono h4.size)
  clear g5 h4
  obtain ⟨lp, lq, lk, bp, bq⟩ := HT.out w5 h5
  go_wp2_with fail
  refine (HFp.out _).mono ?_
  clear lp lq lk bp bq
  rintro e w6 ⟨rfl, g6⟩
  have h6 := h5.trans (g6.mono h5.size)
  clear g6 h5
  obtain ⟨lp, lq, lk, bp, bq⟩ := HT.out w6 h6
  go_wp2_with fail
  refine (HMp.out _).mono ?_
  clear lp lq lk bp bq
  rintro e w7 ⟨rfl, g7⟩
  have h7 := h6.trans (g7.mono h6.size)
  clear g7 h6
  obtain ⟨lp, lq, lk, bp, bq⟩ := HT.out w7 h7
  go_wp2
  go_ret
  exact ⟨rfl, hb.trans (h7.mono hb.size)⟩

set_option maxHeartbeats 4000000 in
set_option maxRecDepth 100000 in
theorem a0 (p q : Pre) (k : Nat → Nat) (w : World) (HMp : Hid (∀ w, Calls Try.prog 17 #[.agg (pc p)] w fun e w' => e = .returned (.bool true) ∧ Below w.heap.size w w')) (HMq : Hid (∀ w, Calls Try.prog 17 #[.agg (pc q)] w fun e w' => e = .returned (.bool true) ∧ Below w.heap.size w w')) (HFp : Hid (∀ w, Calls Try.prog 19 #[.agg (pc p), .agg (kc k)] w fun e w' => e = .returned (.bool false) ∧ Below w.heap.size w w')) (HCpq : Hid (∀ w, Calls Try.prog 21 #[.agg (pc p), .agg (pc q)] w fun e w' => e = .returned (.bool false) ∧ Below w.heap.size w w')) :
    Calls Try.prog 4 #[.agg (pc p), .agg (pc q), .agg (kc k)] w fun e w' => e = .returned (.bool true) ∧ Below w.heap.size w w' := by
  obtain ⟨rp, rq, rk, hb, hz⟩ := rows_three' w (pc p) (pc q) (kc k) 25 25 23
  have C0 := Lib.hid awake_any
  generalize hW : ((w.alloc (.cells (pc p) 25)).alloc (.cells (pc q) 25)).alloc (.cells (kc k) 23) = W at *
  have T : ∀ w1, Below W.heap.size W w1 → TwoKey w1 w.heap.size p q k :=
    fun w1 h => ⟨run_preLoad (rp.below h (by omega)), run_preLoad (rq.below h (by omega)), run_keyLoad (rk.below h (by omega)), (rp.below h (by omega)).bits, (rq.below h (by omega)).bits⟩
  have HT := Lib.hid T
  have HW := Lib.hid hW
  clear T hW hz rp rq rk
  go_enter Try.func4, Try.ntmps4
  go_wp2_with fail
  rw [HW.out]
  refine (C0.out _).mono ?_
  rintro e w1 ⟨rfl, h1⟩
  obtain ⟨lp, lq, lk, bp, bq⟩ := HT.out w1 h1
  go_wp2_with fail
  refine (HMp.out _).mono ?_
  clear lp lq lk bp bq
  rintro e w2 ⟨rfl, g2⟩
  have h2 := h1.trans (g2.mono h1.size)
  clear g2 h1
  obtain ⟨lp, lq, lk, bp, bq⟩ := HT.out w2 h2
  go_wp2_with fail
  refine (HMq.out _).mono ?_
  clear lp lq lk bp bq
  rintro e w3 ⟨rfl, g3⟩
  have h3 := h2.trans (g3.mono h2.size)
  clear g3 h2
  obtain ⟨lp, lq, lk, bp, bq⟩ := HT.out w3 h3
  go_wp2_with fail
  refine (HFp.out _).mono ?_
  clear lp lq lk bp bq
  rintro e w4 ⟨rfl, g4⟩
  have h4 := h3.trans (g4.mono h3.size)
  clear g4 h3
  obtain ⟨lp, lq, lk, bp, bq⟩ := HT.out w4 h4
  go_wp2_with fail
  refine (HCpq.out _).mono ?_
  clear lp lq lk bp bq
  rintro e w5 ⟨rfl, g5⟩
  have h5 := h4.trans (g5.mono h4.size)
  clear g5 h4
  obtain ⟨lp, lq, lk, bp, bq⟩ := HT.out w5 h5
  go_wp2
  go_ret
  exact ⟨rfl, hb.trans (h5.mono hb.size)⟩

set_option maxHeartbeats 4000000 in
set_option maxRecDepth 100000 in
theorem a1 (p q : Pre) (k : Nat → Nat) (w : World) (HMp : Hid (∀ w, Calls Try.prog 17 #[.agg (pc p)] w fun e w' => e = .returned (.bool true) ∧ Below w.heap.size w w')) (HMq : Hid (∀ w, Calls Try.prog 17 #[.agg (pc q)] w fun e w' => e = .returned (.bool true) ∧ Below w.heap.size w w')) (HFp : Hid (∀ w, Calls Try.prog 19 #[.agg (pc p), .agg (kc k)] w fun e w' => e = .returned (.bool false) ∧ Below w.heap.size w w')) (HCpq : Hid (∀ w, Calls Try.prog 21 #[.agg (pc p), .agg (pc q)] w fun e w' => e = .returned (.bool true) ∧ Below w.heap.size w w')) (HLqp : Hid (∀ w, Calls Try.prog 23 #[.agg (pc q), .agg (pc p)] w fun e w' => e = .returned (.bool false) ∧ Below w.heap.size w w')) (HFq : Hid (∀ w, Calls Try.prog 19 #[.agg (pc q), .agg (kc k)] w fun e w' => e = .returned (.bool false) ∧ Below w.heap.size w w')) (HE : ∀ w, (preEql (.agg (pc p)) (.agg (pc q))).run Try.prog w = .ok (.bool true) w) :
    Calls Try.prog 4 #[.agg (pc p), .agg (pc q), .agg (kc k)] w fun e w' => e = .returned (.bool true) ∧ Below w.heap.size w w' := by
  obtain ⟨rp, rq, rk, hb, hz⟩ := rows_three' w (pc p) (pc q) (kc k) 25 25 23
  have C0 := Lib.hid awake_any
  generalize hW : ((w.alloc (.cells (pc p) 25)).alloc (.cells (pc q) 25)).alloc (.cells (kc k) 23) = W at *
  have T : ∀ w1, Below W.heap.size W w1 → TwoKey w1 w.heap.size p q k :=
    fun w1 h => ⟨run_preLoad (rp.below h (by omega)), run_preLoad (rq.below h (by omega)), run_keyLoad (rk.below h (by omega)), (rp.below h (by omega)).bits, (rq.below h (by omega)).bits⟩
  have HT := Lib.hid T
  have HW := Lib.hid hW
  clear T hW hz rp rq rk
  go_enter Try.func4, Try.ntmps4
  go_wp2_with fail
  rw [HW.out]
  refine (C0.out _).mono ?_
  rintro e w1 ⟨rfl, h1⟩
  obtain ⟨lp, lq, lk, bp, bq⟩ := HT.out w1 h1
  go_wp2_with fail
  refine (HMp.out _).mono ?_
  clear lp lq lk bp bq
  rintro e w2 ⟨rfl, g2⟩
  have h2 := h1.trans (g2.mono h1.size)
  clear g2 h1
  obtain ⟨lp, lq, lk, bp, bq⟩ := HT.out w2 h2
  go_wp2_with fail
  refine (HMq.out _).mono ?_
  clear lp lq lk bp bq
  rintro e w3 ⟨rfl, g3⟩
  have h3 := h2.trans (g3.mono h2.size)
  clear g3 h2
  obtain ⟨lp, lq, lk, bp, bq⟩ := HT.out w3 h3
  go_wp2_with fail
  refine (HFp.out _).mono ?_
  clear lp lq lk bp bq
  rintro e w4 ⟨rfl, g4⟩
  have h4 := h3.trans (g4.mono h3.size)
  clear g4 h3
  obtain ⟨lp, lq, lk, bp, bq⟩ := HT.out w4 h4
  go_wp2_with fail
  refine (HCpq.out _).mono ?_
  clear lp lq lk bp bq
  rintro e w5 ⟨rfl, g5⟩
  have h5 := h4.trans (g5.mono h4.size)
  clear g5 h4
  obtain ⟨lp, lq, lk, bp, bq⟩ := HT.out w5 h5
  go_wp2_with fail
  refine (HLqp.out _).mono ?_
  clear lp lq lk bp bq
  rintro e w6 ⟨rfl, g6⟩
  have h6 := h5.trans (g6.mono h5.size)
  clear g6 h5
  obtain ⟨lp, lq, lk, bp, bq⟩ := HT.out w6 h6
  go_wp2_with fail
  refine (HFq.out _).mono ?_
  clear lp lq lk bp bq
  rintro e w7 ⟨rfl, g7⟩
  have h7 := h6.trans (g7.mono h6.size)
  clear g7 h6
  obtain ⟨lp, lq, lk, bp, bq⟩ := HT.out w7 h7
  go_wp2
  go_ret
  exact ⟨rfl, hb.trans (h7.mono hb.size)⟩

set_option maxHeartbeats 4000000 in
set_option maxRecDepth 100000 in
theorem a2 (p q : Pre) (k : Nat → Nat) (w : World) (HMp : Hid (∀ w, Calls Try.prog 17 #[.agg (pc p)] w fun e w' => e = .returned (.bool true) ∧ Below w.heap.size w w')) (HMq : Hid (∀ w, Calls Try.prog 17 #[.agg (pc q)] w fun e w' => e = .returned (.bool true) ∧ Below w.heap.size w w')) (HFp : Hid (∀ w, Calls Try.prog 19 #[.agg (pc p), .agg (kc k)] w fun e w' => e = .returned (.bool false) ∧ Below w.heap.size w w')) (HCpq : Hid (∀ w, Calls Try.prog 21 #[.agg (pc p), .agg (pc q)] w fun e w' => e = .returned (.bool true) ∧ Below w.heap.size w w')) (HLqp : Hid (∀ w, Calls Try.prog 23 #[.agg (pc q), .agg (pc p)] w fun e w' => e = .returned (.bool false) ∧ Below w.heap.size w w')) (HFq : Hid (∀ w, Calls Try.prog 19 #[.agg (pc q), .agg (kc k)] w fun e w' => e = .returned (.bool false) ∧ Below w.heap.size w w')) (HCqp : Hid (∀ w, Calls Try.prog 21 #[.agg (pc q), .agg (pc p)] w fun e w' => e = .returned (.bool false) ∧ Below w.heap.size w w')) (HE : ∀ w, (preEql (.agg (pc p)) (.agg (pc q))).run Try.prog w = .ok (.bool false) w) :
    Calls Try.prog 4 #[.agg (pc p), .agg (pc q), .agg (kc k)] w fun e w' => e = .returned (.bool true) ∧ Below w.heap.size w w' := by
  obtain ⟨rp, rq, rk, hb, hz⟩ := rows_three' w (pc p) (pc q) (kc k) 25 25 23
  have C0 := Lib.hid awake_any
  generalize hW : ((w.alloc (.cells (pc p) 25)).alloc (.cells (pc q) 25)).alloc (.cells (kc k) 23) = W at *
  have T : ∀ w1, Below W.heap.size W w1 → TwoKey w1 w.heap.size p q k :=
    fun w1 h => ⟨run_preLoad (rp.below h (by omega)), run_preLoad (rq.below h (by omega)), run_keyLoad (rk.below h (by omega)), (rp.below h (by omega)).bits, (rq.below h (by omega)).bits⟩
  have HT := Lib.hid T
  have HW := Lib.hid hW
  clear T hW hz rp rq rk
  go_enter Try.func4, Try.ntmps4
  go_wp2_with fail
  rw [HW.out]
  refine (C0.out _).mono ?_
  rintro e w1 ⟨rfl, h1⟩
  obtain ⟨lp, lq, lk, bp, bq⟩ := HT.out w1 h1
  go_wp2_with fail
  refine (HMp.out _).mono ?_
  clear lp lq lk bp bq
  rintro e w2 ⟨rfl, g2⟩
  have h2 := h1.trans (g2.mono h1.size)
  clear g2 h1
  obtain ⟨lp, lq, lk, bp, bq⟩ := HT.out w2 h2
  go_wp2_with fail
  refine (HMq.out _).mono ?_
  clear lp lq lk bp bq
  rintro e w3 ⟨rfl, g3⟩
  have h3 := h2.trans (g3.mono h2.size)
  clear g3 h2
  obtain ⟨lp, lq, lk, bp, bq⟩ := HT.out w3 h3
  go_wp2_with fail
  refine (HFp.out _).mono ?_
  clear lp lq lk bp bq
  rintro e w4 ⟨rfl, g4⟩
  have h4 := h3.trans (g4.mono h3.size)
  clear g4 h3
  obtain ⟨lp, lq, lk, bp, bq⟩ := HT.out w4 h4
  go_wp2_with fail
  refine (HCpq.out _).mono ?_
  clear lp lq lk bp bq
  rintro e w5 ⟨rfl, g5⟩
  have h5 := h4.trans (g5.mono h4.size)
  clear g5 h4
  obtain ⟨lp, lq, lk, bp, bq⟩ := HT.out w5 h5
  go_wp2_with fail
  refine (HLqp.out _).mono ?_
  clear lp lq lk bp bq
  rintro e w6 ⟨rfl, g6⟩
  have h6 := h5.trans (g6.mono h5.size)
  clear g6 h5
  obtain ⟨lp, lq, lk, bp, bq⟩ := HT.out w6 h6
  go_wp2_with fail
  refine (HFq.out _).mono ?_
  clear lp lq lk bp bq
  rintro e w7 ⟨rfl, g7⟩
  have h7 := h6.trans (g7.mono h6.size)
  clear g7 h6
  obtain ⟨lp, lq, lk, bp, bq⟩ := HT.out w7 h7
  go_wp2_with fail
  refine (HCqp.out _).mono ?_
  clear lp lq lk bp bq
  rintro e w8 ⟨rfl, g8⟩
  have h8 := h7.trans (g8.mono h7.size)
  clear g8 h7
  obtain ⟨lp, lq, lk, bp, bq⟩ := HT.out w8 h8
  go_wp2
  go_ret
  exact ⟨rfl, hb.trans (h8.mono hb.size)⟩

set_option maxHeartbeats 4000000 in
set_option maxRecDepth 100000 in
theorem b0 (p q : Pre) (k : Nat → Nat) (w : World) (HMp : Hid (∀ w, Calls Try.prog 17 #[.agg (pc p)] w fun e w' => e = .returned (.bool true) ∧ Below w.heap.size w w')) (HMq : Hid (∀ w, Calls Try.prog 17 #[.agg (pc q)] w fun e w' => e = .returned (.bool true) ∧ Below w.heap.size w w')) (HFp : Hid (∀ w, Calls Try.prog 19 #[.agg (pc p), .agg (kc k)] w fun e w' => e = .returned (.bool true) ∧ Below w.heap.size w w')) (HFq : Hid (∀ w, Calls Try.prog 19 #[.agg (pc q), .agg (kc k)] w fun e w' => e = .returned (.bool false) ∧ Below w.heap.size w w')) (HCpq : Hid (∀ w, Calls Try.prog 21 #[.agg (pc p), .agg (pc q)] w fun e w' => e = .returned (.bool false) ∧ Below w.heap.size w w')) :
    Calls Try.prog 4 #[.agg (pc p), .agg (pc q), .agg (kc k)] w fun e w' => e = .returned (.bool true) ∧ Below w.heap.size w w' := by
  obtain ⟨rp, rq, rk, hb, hz⟩ := rows_three' w (pc p) (pc q) (kc k) 25 25 23
  have C0 := Lib.hid awake_any
  generalize hW : ((w.alloc (.cells (pc p) 25)).alloc (.cells (pc q) 25)).alloc (.cells (kc k) 23) = W at *
  have T : ∀ w1, Below W.heap.size W w1 → TwoKey w1 w.heap.size p q k :=
    fun w1 h => ⟨run_preLoad (rp.below h (by omega)), run_preLoad (rq.below h (by omega)), run_keyLoad (rk.below h (by omega)), (rp.below h (by omega)).bits, (rq.below h (by omega)).bits⟩
  have HT := Lib.hid T
  have HW := Lib.hid hW
  clear T hW hz rp rq rk
  go_enter Try.func4, Try.ntmps4
  go_wp2_with fail
  rw [HW.out]
  refine (C0.out _).mono ?_
  rintro e w1 ⟨rfl, h1⟩
  obtain ⟨lp, lq, lk, bp, bq⟩ := HT.out w1 h1
  go_wp2_with fail
  refine (HMp.out _).mono ?_
  clear lp lq lk bp bq
  rintro e w2 ⟨rfl, g2⟩
  have h2 := h1.trans (g2.mono h1.size)
  clear g2 h1
  obtain ⟨lp, lq, lk, bp, bq⟩ := HT.out w2 h2
  go_wp2_with fail
  refine (HMq.out _).mono ?_
  clear lp lq lk bp bq
  rintro e w3 ⟨rfl, g3⟩
  have h3 := h2.trans (g3.mono h2.size)
  clear g3 h2
  obtain ⟨lp, lq, lk, bp, bq⟩ := HT.out w3 h3
  go_wp2_with fail
  refine (HFp.out _).mono ?_
  clear lp lq lk bp bq
  rintro e w4 ⟨rfl, g4⟩
  have h4 := h3.trans (g4.mono h3.size)
  clear g4 h3
  obtain ⟨lp, lq, lk, bp, bq⟩ := HT.out w4 h4
  go_wp2_with fail
  refine (HFq.out _).mono ?_
  clear lp lq lk bp bq
  rintro e w5 ⟨rfl, g5⟩
  have h5 := h4.trans (g5.mono h4.size)
  clear g5 h4
  obtain ⟨lp, lq, lk, bp, bq⟩ := HT.out w5 h5
  go_wp2_with fail
  refine (HCpq.out _).mono ?_
  clear lp lq lk bp bq
  rintro e w6 ⟨rfl, g6⟩
  have h6 := h5.trans (g6.mono h5.size)
  clear g6 h5
  obtain ⟨lp, lq, lk, bp, bq⟩ := HT.out w6 h6
  go_wp2
  go_ret
  exact ⟨rfl, hb.trans (h6.mono hb.size)⟩

set_option maxHeartbeats 4000000 in
set_option maxRecDepth 100000 in
theorem b1 (p q : Pre) (k : Nat → Nat) (w : World) (HMp : Hid (∀ w, Calls Try.prog 17 #[.agg (pc p)] w fun e w' => e = .returned (.bool true) ∧ Below w.heap.size w w')) (HMq : Hid (∀ w, Calls Try.prog 17 #[.agg (pc q)] w fun e w' => e = .returned (.bool true) ∧ Below w.heap.size w w')) (HFp : Hid (∀ w, Calls Try.prog 19 #[.agg (pc p), .agg (kc k)] w fun e w' => e = .returned (.bool true) ∧ Below w.heap.size w w')) (HFq : Hid (∀ w, Calls Try.prog 19 #[.agg (pc q), .agg (kc k)] w fun e w' => e = .returned (.bool false) ∧ Below w.heap.size w w')) (HCpq : Hid (∀ w, Calls Try.prog 21 #[.agg (pc p), .agg (pc q)] w fun e w' => e = .returned (.bool true) ∧ Below w.heap.size w w')) (HLqp : Hid (∀ w, Calls Try.prog 23 #[.agg (pc q), .agg (pc p)] w fun e w' => e = .returned (.bool false) ∧ Below w.heap.size w w')) (HE : ∀ w, (preEql (.agg (pc p)) (.agg (pc q))).run Try.prog w = .ok (.bool true) w) :
    Calls Try.prog 4 #[.agg (pc p), .agg (pc q), .agg (kc k)] w fun e w' => e = .returned (.bool true) ∧ Below w.heap.size w w' := by
  obtain ⟨rp, rq, rk, hb, hz⟩ := rows_three' w (pc p) (pc q) (kc k) 25 25 23
  have C0 := Lib.hid awake_any
  generalize hW : ((w.alloc (.cells (pc p) 25)).alloc (.cells (pc q) 25)).alloc (.cells (kc k) 23) = W at *
  have T : ∀ w1, Below W.heap.size W w1 → TwoKey w1 w.heap.size p q k :=
    fun w1 h => ⟨run_preLoad (rp.below h (by omega)), run_preLoad (rq.below h (by omega)), run_keyLoad (rk.below h (by omega)), (rp.below h (by omega)).bits, (rq.below h (by omega)).bits⟩
  have HT := Lib.hid T
  have HW := Lib.hid hW
  clear T hW hz rp rq rk
  go_enter Try.func4, Try.ntmps4
  go_wp2_with fail
  rw [HW.out]
  refine (C0.out _).mono ?_
  rintro e w1 ⟨rfl, h1⟩
  obtain ⟨lp, lq, lk, bp, bq⟩ := HT.out w1 h1
  go_wp2_with fail
  refine (HMp.out _).mono ?_
  clear lp lq lk bp bq
  rintro e w2 ⟨rfl, g2⟩
  have h2 := h1.trans (g2.mono h1.size)
  clear g2 h1
  obtain ⟨lp, lq, lk, bp, bq⟩ := HT.out w2 h2
  go_wp2_with fail
  refine (HMq.out _).mono ?_
  clear lp lq lk bp bq
  rintro e w3 ⟨rfl, g3⟩
  have h3 := h2.trans (g3.mono h2.size)
  clear g3 h2
  obtain ⟨lp, lq, lk, bp, bq⟩ := HT.out w3 h3
  go_wp2_with fail
  refine (HFp.out _).mono ?_
  clear lp lq lk bp bq
  rintro e w4 ⟨rfl, g4⟩
  have h4 := h3.trans (g4.mono h3.size)
  clear g4 h3
  obtain ⟨lp, lq, lk, bp, bq⟩ := HT.out w4 h4
  go_wp2_with fail
  refine (HFq.out _).mono ?_
  clear lp lq lk bp bq
  rintro e w5 ⟨rfl, g5⟩
  have h5 := h4.trans (g5.mono h4.size)
  clear g5 h4
  obtain ⟨lp, lq, lk, bp, bq⟩ := HT.out w5 h5
  go_wp2_with fail
  refine (HCpq.out _).mono ?_
  clear lp lq lk bp bq
  rintro e w6 ⟨rfl, g6⟩
  have h6 := h5.trans (g6.mono h5.size)
  clear g6 h5
  obtain ⟨lp, lq, lk, bp, bq⟩ := HT.out w6 h6
  go_wp2_with fail
  refine (HLqp.out _).mono ?_
  clear lp lq lk bp bq
  rintro e w7 ⟨rfl, g7⟩
  have h7 := h6.trans (g7.mono h6.size)
  clear g7 h6
  obtain ⟨lp, lq, lk, bp, bq⟩ := HT.out w7 h7
  go_wp2_with fail
  refine (HFq.out _).mono ?_
  clear lp lq lk bp bq
  rintro e w8 ⟨rfl, g8⟩
  have h8 := h7.trans (g8.mono h7.size)
  clear g8 h7
  obtain ⟨lp, lq, lk, bp, bq⟩ := HT.out w8 h8
  go_wp2
  go_ret
  exact ⟨rfl, hb.trans (h8.mono hb.size)⟩

set_option maxHeartbeats 4000000 in
set_option maxRecDepth 100000 in
theorem b2 (p q : Pre) (k : Nat → Nat) (w : World) (HMp : Hid (∀ w, Calls Try.prog 17 #[.agg (pc p)] w fun e w' => e = .returned (.bool true) ∧ Below w.heap.size w w')) (HMq : Hid (∀ w, Calls Try.prog 17 #[.agg (pc q)] w fun e w' => e = .returned (.bool true) ∧ Below w.heap.size w w')) (HFp : Hid (∀ w, Calls Try.prog 19 #[.agg (pc p), .agg (kc k)] w fun e w' => e = .returned (.bool true) ∧ Below w.heap.size w w')) (HFq : Hid (∀ w, Calls Try.prog 19 #[.agg (pc q), .agg (kc k)] w fun e w' => e = .returned (.bool false) ∧ Below w.heap.size w w')) (HCpq : Hid (∀ w, Calls Try.prog 21 #[.agg (pc p), .agg (pc q)] w fun e w' => e = .returned (.bool true) ∧ Below w.heap.size w w')) (HLqp : Hid (∀ w, Calls Try.prog 23 #[.agg (pc q), .agg (pc p)] w fun e w' => e = .returned (.bool false) ∧ Below w.heap.size w w')) (HCqp : Hid (∀ w, Calls Try.prog 21 #[.agg (pc q), .agg (pc p)] w fun e w' => e = .returned (.bool false) ∧ Below w.heap.size w w')) (HE : ∀ w, (preEql (.agg (pc p)) (.agg (pc q))).run Try.prog w = .ok (.bool false) w) :
    Calls Try.prog 4 #[.agg (pc p), .agg (pc q), .agg (kc k)] w fun e w' => e = .returned (.bool true) ∧ Below w.heap.size w w' := by
  obtain ⟨rp, rq, rk, hb, hz⟩ := rows_three' w (pc p) (pc q) (kc k) 25 25 23
  have C0 := Lib.hid awake_any
  generalize hW : ((w.alloc (.cells (pc p) 25)).alloc (.cells (pc q) 25)).alloc (.cells (kc k) 23) = W at *
  have T : ∀ w1, Below W.heap.size W w1 → TwoKey w1 w.heap.size p q k :=
    fun w1 h => ⟨run_preLoad (rp.below h (by omega)), run_preLoad (rq.below h (by omega)), run_keyLoad (rk.below h (by omega)), (rp.below h (by omega)).bits, (rq.below h (by omega)).bits⟩
  have HT := Lib.hid T
  have HW := Lib.hid hW
  clear T hW hz rp rq rk
  go_enter Try.func4, Try.ntmps4
  go_wp2_with fail
  rw [HW.out]
  refine (C0.out _).mono ?_
  rintro e w1 ⟨rfl, h1⟩
  obtain ⟨lp, lq, lk, bp, bq⟩ := HT.out w1 h1
  go_wp2_with fail
  refine (HMp.out _).mono ?_
  clear lp lq lk bp bq
  rintro e w2 ⟨rfl, g2⟩
  have h2 := h1.trans (g2.mono h1.size)
  clear g2 h1
  obtain ⟨lp, lq, lk, bp, bq⟩ := HT.out w2 h2
  go_wp2_with fail
  refine (HMq.out _).mono ?_
  clear lp lq lk bp bq
  rintro e w3 ⟨rfl, g3⟩
  have h3 := h2.trans (g3.mono h2.size)
  clear g3 h2
  obtain ⟨lp, lq, lk, bp, bq⟩ := HT.out w3 h3
  go_wp2_with fail
  refine (HFp.out _).mono ?_
  clear lp lq lk bp bq
  rintro e w4 ⟨rfl, g4⟩
  have h4 := h3.trans (g4.mono h3.size)
  clear g4 h3
  obtain ⟨lp, lq, lk, bp, bq⟩ := HT.out w4 h4
  go_wp2_with fail
  refine (HFq.out _).mono ?_
  clear lp lq lk bp bq
  rintro e w5 ⟨rfl, g5⟩
  have h5 := h4.trans (g5.mono h4.size)
  clear g5 h4
  obtain ⟨lp, lq, lk, bp, bq⟩ := HT.out w5 h5
  go_wp2_with fail
  refine (HCpq.out _).mono ?_
  clear lp lq lk bp bq
  rintro e w6 ⟨rfl, g6⟩
  have h6 := h5.trans (g6.mono h5.size)
  clear g6 h5
  obtain ⟨lp, lq, lk, bp, bq⟩ := HT.out w6 h6
  go_wp2_with fail
  refine (HLqp.out _).mono ?_
  clear lp lq lk bp bq
  rintro e w7 ⟨rfl, g7⟩
  have h7 := h6.trans (g7.mono h6.size)
  clear g7 h6
  obtain ⟨lp, lq, lk, bp, bq⟩ := HT.out w7 h7
  go_wp2_with fail
  refine (HFq.out _).mono ?_
  clear lp lq lk bp bq
  rintro e w8 ⟨rfl, g8⟩
  have h8 := h7.trans (g8.mono h7.size)
  clear g8 h7
  obtain ⟨lp, lq, lk, bp, bq⟩ := HT.out w8 h8
  go_wp2_with fail
  refine (HCqp.out _).mono ?_
  clear lp lq lk bp bq
  rintro e w9 ⟨rfl, g9⟩
  have h9 := h8.trans (g9.mono h8.size)
  clear g9 h8
  obtain ⟨lp, lq, lk, bp, bq⟩ := HT.out w9 h9
  go_wp2
  go_ret
  exact ⟨rfl, hb.trans (h9.mono hb.size)⟩

set_option maxHeartbeats 4000000 in
set_option maxRecDepth 100000 in
theorem c0 (p q : Pre) (k : Nat → Nat) (w : World) (HMp : Hid (∀ w, Calls Try.prog 17 #[.agg (pc p)] w fun e w' => e = .returned (.bool true) ∧ Below w.heap.size w w')) (HMq : Hid (∀ w, Calls Try.prog 17 #[.agg (pc q)] w fun e w' => e = .returned (.bool true) ∧ Below w.heap.size w w')) (HFp : Hid (∀ w, Calls Try.prog 19 #[.agg (pc p), .agg (kc k)] w fun e w' => e = .returned (.bool true) ∧ Below w.heap.size w w')) (HFq : Hid (∀ w, Calls Try.prog 19 #[.agg (pc q), .agg (kc k)] w fun e w' => e = .returned (.bool true) ∧ Below w.heap.size w w')) (HCpq : Hid (∀ w, Calls Try.prog 21 #[.agg (pc p), .agg (pc q)] w fun e w' => e = .returned (.bool false) ∧ Below w.heap.size w w')) (hbits : (p.bits == q.bits) = false) :
    Calls Try.prog 4 #[.agg (pc p), .agg (pc q), .agg (kc k)] w fun e w' => e = .returned (.bool true) ∧ Below w.heap.size w w' := by
  obtain ⟨rp, rq, rk, hb, hz⟩ := rows_three' w (pc p) (pc q) (kc k) 25 25 23
  have C0 := Lib.hid awake_any
  generalize hW : ((w.alloc (.cells (pc p) 25)).alloc (.cells (pc q) 25)).alloc (.cells (kc k) 23) = W at *
  have T : ∀ w1, Below W.heap.size W w1 → TwoKey w1 w.heap.size p q k :=
    fun w1 h => ⟨run_preLoad (rp.below h (by omega)), run_preLoad (rq.below h (by omega)), run_keyLoad (rk.below h (by omega)), (rp.below h (by omega)).bits, (rq.below h (by omega)).bits⟩
  have HT := Lib.hid T
  have HW := Lib.hid hW
  clear T hW hz rp rq rk
  go_enter Try.func4, Try.ntmps4
  go_wp2_with fail
  rw [HW.out]
  refine (C0.out _).mono ?_
  rintro e w1 ⟨rfl, h1⟩
  obtain ⟨lp, lq, lk, bp, bq⟩ := HT.out w1 h1
  go_wp2_with fail
  refine (HMp.out _).mono ?_
  clear lp lq lk bp bq
  rintro e w2 ⟨rfl, g2⟩
  have h2 := h1.trans (g2.mono h1.size)
  clear g2 h1
  obtain ⟨lp, lq, lk, bp, bq⟩ := HT.out w2 h2
  go_wp2_with fail
  refine (HMq.out _).mono ?_
  clear lp lq lk bp bq
  rintro e w3 ⟨rfl, g3⟩
  have h3 := h2.trans (g3.mono h2.size)
  clear g3 h2
  obtain ⟨lp, lq, lk, bp, bq⟩ := HT.out w3 h3
  go_wp2_with fail
  refine (HFp.out _).mono ?_
  clear lp lq lk bp bq
  rintro e w4 ⟨rfl, g4⟩
  have h4 := h3.trans (g4.mono h3.size)
  clear g4 h3
  obtain ⟨lp, lq, lk, bp, bq⟩ := HT.out w4 h4
  go_wp2_with fail
  refine (HFq.out _).mono ?_
  clear lp lq lk bp bq
  rintro e w5 ⟨rfl, g5⟩
  have h5 := h4.trans (g5.mono h4.size)
  clear g5 h4
  obtain ⟨lp, lq, lk, bp, bq⟩ := HT.out w5 h5
  go_wp2_with fail
  refine (HCpq.out _).mono ?_
  clear lp lq lk bp bq
  rintro e w6 ⟨rfl, g6⟩
  have h6 := h5.trans (g6.mono h5.size)
  clear g6 h5
  obtain ⟨lp, lq, lk, bp, bq⟩ := HT.out w6 h6
  go_wp2
  go_ret
  exact ⟨rfl, hb.trans (h6.mono hb.size)⟩

set_option maxHeartbeats 4000000 in
set_option maxRecDepth 100000 in
theorem d1 (p q : Pre) (k : Nat → Nat) (w : World) (HMp : Hid (∀ w, Calls Try.prog 17 #[.agg (pc p)] w fun e w' => e = .returned (.bool true) ∧ Below w.heap.size w w')) (HMq : Hid (∀ w, Calls Try.prog 17 #[.agg (pc q)] w fun e w' => e = .returned (.bool true) ∧ Below w.heap.size w w')) (HFp : Hid (∀ w, Calls Try.prog 19 #[.agg (pc p), .agg (kc k)] w fun e w' => e = .returned (.bool true) ∧ Below w.heap.size w w')) (HFq : Hid (∀ w, Calls Try.prog 19 #[.agg (pc q), .agg (kc k)] w fun e w' => e = .returned (.bool true) ∧ Below w.heap.size w w')) (HCpq : Hid (∀ w, Calls Try.prog 21 #[.agg (pc p), .agg (pc q)] w fun e w' => e = .returned (.bool true) ∧ Below w.heap.size w w')) (HLqp : Hid (∀ w, Calls Try.prog 23 #[.agg (pc q), .agg (pc p)] w fun e w' => e = .returned (.bool false) ∧ Below w.heap.size w w')) (hbits : (p.bits == q.bits) = true) (HE : ∀ w, (preEql (.agg (pc p)) (.agg (pc q))).run Try.prog w = .ok (.bool true) w) :
    Calls Try.prog 4 #[.agg (pc p), .agg (pc q), .agg (kc k)] w fun e w' => e = .returned (.bool true) ∧ Below w.heap.size w w' := by
  obtain ⟨rp, rq, rk, hb, hz⟩ := rows_three' w (pc p) (pc q) (kc k) 25 25 23
  have C0 := Lib.hid awake_any
  generalize hW : ((w.alloc (.cells (pc p) 25)).alloc (.cells (pc q) 25)).alloc (.cells (kc k) 23) = W at *
  have T : ∀ w1, Below W.heap.size W w1 → TwoKey w1 w.heap.size p q k :=
    fun w1 h => ⟨run_preLoad (rp.below h (by omega)), run_preLoad (rq.below h (by omega)), run_keyLoad (rk.below h (by omega)), (rp.below h (by omega)).bits, (rq.below h (by omega)).bits⟩
  have HT := Lib.hid T
  have HW := Lib.hid hW
  clear T hW hz rp rq rk
  go_enter Try.func4, Try.ntmps4
  go_wp2_with fail
  rw [HW.out]
  refine (C0.out _).mono ?_
  rintro e w1 ⟨rfl, h1⟩
  obtain ⟨lp, lq, lk, bp, bq⟩ := HT.out w1 h1
  go_wp2_with fail
  refine (HMp.out _).mono ?_
  clear lp lq lk bp bq
  rintro e w2 ⟨rfl, g2⟩
  have h2 := h1.trans (g2.mono h1.size)
  clear g2 h1
  obtain ⟨lp, lq, lk, bp, bq⟩ := HT.out w2 h2
  go_wp2_with fail
  refine (HMq.out _).mono ?_
  clear lp lq lk bp bq
  rintro e w3 ⟨rfl, g3⟩
  have h3 := h2.trans (g3.mono h2.size)
  clear g3 h2
  obtain ⟨lp, lq, lk, bp, bq⟩ := HT.out w3 h3
  go_wp2_with fail
  refine (HFp.out _).mono ?_
  clear lp lq lk bp bq
  rintro e w4 ⟨rfl, g4⟩
  have h4 := h3.trans (g4.mono h3.size)
  clear g4 h3
  obtain ⟨lp, lq, lk, bp, bq⟩ := HT.out w4 h4
  go_wp2_with fail
  refine (HFq.out _).mono ?_
  clear lp lq lk bp bq
  rintro e w5 ⟨rfl, g5⟩
  have h5 := h4.trans (g5.mono h4.size)
  clear g5 h4
  obtain ⟨lp, lq, lk, bp, bq⟩ := HT.out w5 h5
  go_wp2_with fail
  refine (HCpq.out _).mono ?_
  clear lp lq lk bp bq
  rintro e w6 ⟨rfl, g6⟩
  have h6 := h5.trans (g6.mono h5.size)
  clear g6 h5
  obtain ⟨lp, lq, lk, bp, bq⟩ := HT.out w6 h6
  go_wp2_with fail
  refine (HCpq.out _).mono ?_
  clear lp lq lk bp bq
  rintro e w7 ⟨rfl, g7⟩
  have h7 := h6.trans (g7.mono h6.size)
  clear g7 h6
  obtain ⟨lp, lq, lk, bp, bq⟩ := HT.out w7 h7
  go_wp2_with fail
  refine (HLqp.out _).mono ?_
  clear lp lq lk bp bq
  rintro e w8 ⟨rfl, g8⟩
  have h8 := h7.trans (g8.mono h7.size)
  clear g8 h7
  obtain ⟨lp, lq, lk, bp, bq⟩ := HT.out w8 h8
  go_wp2_with fail
  refine (HFq.out _).mono ?_
  clear lp lq lk bp bq
  rintro e w9 ⟨rfl, g9⟩
  have h9 := h8.trans (g9.mono h8.size)
  clear g9 h8
  obtain ⟨lp, lq, lk, bp, bq⟩ := HT.out w9 h9
  go_wp2_with fail
  refine (HFp.out _).mono ?_
  clear lp lq lk bp bq
  rintro e w10 ⟨rfl, g10⟩
  have h10 := h9.trans (g10.mono h9.size)
  clear g10 h9
  obtain ⟨lp, lq, lk, bp, bq⟩ := HT.out w10 h10
  go_wp2
  go_ret
  exact ⟨rfl, hb.trans (h10.mono hb.size)⟩

set_option maxHeartbeats 4000000 in
set_option maxRecDepth 100000 in
theorem d2 (p q : Pre) (k : Nat → Nat) (w : World) (HMp : Hid (∀ w, Calls Try.prog 17 #[.agg (pc p)] w fun e w' => e = .returned (.bool true) ∧ Below w.heap.size w w')) (HMq : Hid (∀ w, Calls Try.prog 17 #[.agg (pc q)] w fun e w' => e = .returned (.bool true) ∧ Below w.heap.size w w')) (HFp : Hid (∀ w, Calls Try.prog 19 #[.agg (pc p), .agg (kc k)] w fun e w' => e = .returned (.bool true) ∧ Below w.heap.size w w')) (HFq : Hid (∀ w, Calls Try.prog 19 #[.agg (pc q), .agg (kc k)] w fun e w' => e = .returned (.bool true) ∧ Below w.heap.size w w')) (HCpq : Hid (∀ w, Calls Try.prog 21 #[.agg (pc p), .agg (pc q)] w fun e w' => e = .returned (.bool true) ∧ Below w.heap.size w w')) (HLqp : Hid (∀ w, Calls Try.prog 23 #[.agg (pc q), .agg (pc p)] w fun e w' => e = .returned (.bool false) ∧ Below w.heap.size w w')) (HCqp : Hid (∀ w, Calls Try.prog 21 #[.agg (pc q), .agg (pc p)] w fun e w' => e = .returned (.bool false) ∧ Below w.heap.size w w')) (hbits : (p.bits == q.bits) = true) (HE : ∀ w, (preEql (.agg (pc p)) (.agg (pc q))).run Try.prog w = .ok (.bool false) w) :
    Calls Try.prog 4 #[.agg (pc p), .agg (pc q), .agg (kc k)] w fun e w' => e = .returned (.bool true) ∧ Below w.heap.size w w' := by
  obtain ⟨rp, rq, rk, hb, hz⟩ := rows_three' w (pc p) (pc q) (kc k) 25 25 23
  have C0 := Lib.hid awake_any
  generalize hW : ((w.alloc (.cells (pc p) 25)).alloc (.cells (pc q) 25)).alloc (.cells (kc k) 23) = W at *
  have T : ∀ w1, Below W.heap.size W w1 → TwoKey w1 w.heap.size p q k :=
    fun w1 h => ⟨run_preLoad (rp.below h (by omega)), run_preLoad (rq.below h (by omega)), run_keyLoad (rk.below h (by omega)), (rp.below h (by omega)).bits, (rq.below h (by omega)).bits⟩
  have HT := Lib.hid T
  have HW := Lib.hid hW
  clear T hW hz rp rq rk
  go_enter Try.func4, Try.ntmps4
  go_wp2_with fail
  rw [HW.out]
  refine (C0.out _).mono ?_
  rintro e w1 ⟨rfl, h1⟩
  obtain ⟨lp, lq, lk, bp, bq⟩ := HT.out w1 h1
  go_wp2_with fail
  refine (HMp.out _).mono ?_
  clear lp lq lk bp bq
  rintro e w2 ⟨rfl, g2⟩
  have h2 := h1.trans (g2.mono h1.size)
  clear g2 h1
  obtain ⟨lp, lq, lk, bp, bq⟩ := HT.out w2 h2
  go_wp2_with fail
  refine (HMq.out _).mono ?_
  clear lp lq lk bp bq
  rintro e w3 ⟨rfl, g3⟩
  have h3 := h2.trans (g3.mono h2.size)
  clear g3 h2
  obtain ⟨lp, lq, lk, bp, bq⟩ := HT.out w3 h3
  go_wp2_with fail
  refine (HFp.out _).mono ?_
  clear lp lq lk bp bq
  rintro e w4 ⟨rfl, g4⟩
  have h4 := h3.trans (g4.mono h3.size)
  clear g4 h3
  obtain ⟨lp, lq, lk, bp, bq⟩ := HT.out w4 h4
  go_wp2_with fail
  refine (HFq.out _).mono ?_
  clear lp lq lk bp bq
  rintro e w5 ⟨rfl, g5⟩
  have h5 := h4.trans (g5.mono h4.size)
  clear g5 h4
  obtain ⟨lp, lq, lk, bp, bq⟩ := HT.out w5 h5
  go_wp2_with fail
  refine (HCpq.out _).mono ?_
  clear lp lq lk bp bq
  rintro e w6 ⟨rfl, g6⟩
  have h6 := h5.trans (g6.mono h5.size)
  clear g6 h5
  obtain ⟨lp, lq, lk, bp, bq⟩ := HT.out w6 h6
  go_wp2_with fail
  refine (HCpq.out _).mono ?_
  clear lp lq lk bp bq
  rintro e w7 ⟨rfl, g7⟩
  have h7 := h6.trans (g7.mono h6.size)
  clear g7 h6
  obtain ⟨lp, lq, lk, bp, bq⟩ := HT.out w7 h7
  go_wp2_with fail
  refine (HLqp.out _).mono ?_
  clear lp lq lk bp bq
  rintro e w8 ⟨rfl, g8⟩
  have h8 := h7.trans (g8.mono h7.size)
  clear g8 h7
  obtain ⟨lp, lq, lk, bp, bq⟩ := HT.out w8 h8
  go_wp2_with fail
  refine (HFq.out _).mono ?_
  clear lp lq lk bp bq
  rintro e w9 ⟨rfl, g9⟩
  have h9 := h8.trans (g9.mono h8.size)
  clear g9 h8
  obtain ⟨lp, lq, lk, bp, bq⟩ := HT.out w9 h9
  go_wp2_with fail
  refine (HFp.out _).mono ?_
  clear lp lq lk bp bq
  rintro e w10 ⟨rfl, g10⟩
  have h10 := h9.trans (g10.mono h9.size)
  clear g10 h9
  obtain ⟨lp, lq, lk, bp, bq⟩ := HT.out w10 h10
  go_wp2_with fail
  refine (HCqp.out _).mono ?_
  clear lp lq lk bp bq
  rintro e w11 ⟨rfl, g11⟩
  have h11 := h10.trans (g11.mono h10.size)
  clear g11 h10
  obtain ⟨lp, lq, lk, bp, bq⟩ := HT.out w11 h11
  go_wp2
  go_ret
  exact ⟨rfl, hb.trans (h11.mono hb.size)⟩

set_option maxHeartbeats 4000000 in
set_option maxRecDepth 100000 in
theorem e0 (p q : Pre) (k : Nat → Nat) (w : World) (HMp : Hid (∀ w, Calls Try.prog 17 #[.agg (pc p)] w fun e w' => e = .returned (.bool true) ∧ Below w.heap.size w w')) (HMq : Hid (∀ w, Calls Try.prog 17 #[.agg (pc q)] w fun e w' => e = .returned (.bool true) ∧ Below w.heap.size w w')) (HFp : Hid (∀ w, Calls Try.prog 19 #[.agg (pc p), .agg (kc k)] w fun e w' => e = .returned (.bool true) ∧ Below w.heap.size w w')) (HFq : Hid (∀ w, Calls Try.prog 19 #[.agg (pc q), .agg (kc k)] w fun e w' => e = .returned (.bool true) ∧ Below w.heap.size w w')) (HCpq : Hid (∀ w, Calls Try.prog 21 #[.agg (pc p), .agg (pc q)] w fun e w' => e = .returned (.bool false) ∧ Below w.heap.size w w')) (HCqp : Hid (∀ w, Calls Try.prog 21 #[.agg (pc q), .agg (pc p)] w fun e w' => e = .returned (.bool true) ∧ Below w.heap.size w w')) (hbits : (p.bits == q.bits) = true) :
    Calls Try.prog 4 #[.agg (pc p), .agg (pc q), .agg (kc k)] w fun e w' => e = .returned (.bool true) ∧ Below w.heap.size w w' := by
  obtain ⟨rp, rq, rk, hb, hz⟩ := rows_three' w (pc p) (pc q) (kc k) 25 25 23
  have C0 := Lib.hid awake_any
  generalize hW : ((w.alloc (.cells (pc p) 25)).alloc (.cells (pc q) 25)).alloc (.cells (kc k) 23) = W at *
  have T : ∀ w1, Below W.heap.size W w1 → TwoKey w1 w.heap.size p q k :=
    fun w1 h => ⟨run_preLoad (rp.below h (by omega)), run_preLoad (rq.below h (by omega)), run_keyLoad (rk.below h (by omega)), (rp.below h (by omega)).bits, (rq.below h (by omega)).bits⟩
  have HT := Lib.hid T
  have HW := Lib.hid hW
  clear T hW hz rp rq rk
  go_enter Try.func4, Try.ntmps4
  go_wp2_with fail
  rw [HW.out]
  refine (C0.out _).mono ?_
  rintro e w1 ⟨rfl, h1⟩
  obtain ⟨lp, lq, lk, bp, bq⟩ := HT.out w1 h1
  go_wp2_with fail
  refine (HMp.out _).mono ?_
  clear lp lq lk bp bq
  rintro e w2 ⟨rfl, g2⟩
  have h2 := h1.trans (g2.mono h1.size)
  clear g2 h1
  obtain ⟨lp, lq, lk, bp, bq⟩ := HT.out w2 h2
  go_wp2_with fail
  refine (HMq.out _).mono ?_
  clear lp lq lk bp bq
  rintro e w3 ⟨rfl, g3⟩
  have h3 := h2.trans (g3.mono h2.size)
  clear g3 h2
  obtain ⟨lp, lq, lk, bp, bq⟩ := HT.out w3 h3
  go_wp2_with fail
  refine (HFp.out _).mono ?_
  clear lp lq lk bp bq
  rintro e w4 ⟨rfl, g4⟩
  have h4 := h3.trans (g4.mono h3.size)
  clear g4 h3
  obtain ⟨lp, lq, lk, bp, bq⟩ := HT.out w4 h4
  go_wp2_with fail
  refine (HFq.out _).mono ?_
  clear lp lq lk bp bq
  rintro e w5 ⟨rfl, g5⟩
  have h5 := h4.trans (g5.mono h4.size)
  clear g5 h4
  obtain ⟨lp, lq, lk, bp, bq⟩ := HT.out w5 h5
  go_wp2_with fail
  refine (HCpq.out _).mono ?_
  clear lp lq lk bp bq
  rintro e w6 ⟨rfl, g6⟩
  have h6 := h5.trans (g6.mono h5.size)
  clear g6 h5
  obtain ⟨lp, lq, lk, bp, bq⟩ := HT.out w6 h6
  go_wp2_with fail
  refine (HCqp.out _).mono ?_
  clear lp lq lk bp bq
  rintro e w7 ⟨rfl, g7⟩
  have h7 := h6.trans (g7.mono h6.size)
  clear g7 h6
  obtain ⟨lp, lq, lk, bp, bq⟩ := HT.out w7 h7
  go_wp2_with fail
  refine (HCpq.out _).mono ?_
  clear lp lq lk bp bq
  rintro e w8 ⟨rfl, g8⟩
  have h8 := h7.trans (g8.mono h7.size)
  clear g8 h7
  obtain ⟨lp, lq, lk, bp, bq⟩ := HT.out w8 h8
  go_wp2
  go_ret
  exact ⟨rfl, hb.trans (h8.mono hb.size)⟩

theorem walk (p q : Pre) (k : Nat → Nat) (hp : Bytes16 p.key) (_ : I64 p.bits) (_ : I64 p.len) (hq : Bytes16 q.key) (_ : I64 q.bits) (_ : I64 q.len) (hk : Bytes16 k) (w : World) :
    Calls Try.prog 4 #[.agg (pc p), .agg (pc q), .agg (kc k)] w fun e w' => e = .returned (.bool true) ∧ Below w.heap.size w w' := by
  cases mp : mayB p with
  | false => exact n1 p q k w (fun w => calls_of_eq (may_any p hp w) (congrArg Value.bool mp)) (fun w => calls_of_eq (covers_any p q hp hq w) (congrArg Value.bool (covers_not_left mp))) (fun w => calls_of_eq (less_any p q hp hq w) (congrArg Value.bool (less_not_left mp))) (fun w => calls_of_eq (fits_any p k hp hk w) (congrArg Value.bool (fits_not mp)))
  | true =>
    cases mq : mayB q with
    | false =>
      cases fp : fitsB p k with
      | false => exact n2 p q k w (fun w => calls_of_eq (may_any p hp w) (congrArg Value.bool mp)) (fun w => calls_of_eq (may_any q hq w) (congrArg Value.bool mq)) (fun w => calls_of_eq (covers_any p q hp hq w) (congrArg Value.bool (covers_not_right mq))) (fun w => calls_of_eq (less_any p q hp hq w) (congrArg Value.bool (less_not_right mq))) (fun w => calls_of_eq (fits_any p k hp hk w) (congrArg Value.bool fp))
      | true => exact n3 p q k w (fun w => calls_of_eq (may_any p hp w) (congrArg Value.bool mp)) (fun w => calls_of_eq (may_any q hq w) (congrArg Value.bool mq)) (fun w => calls_of_eq (covers_any p q hp hq w) (congrArg Value.bool (covers_not_right mq))) (fun w => calls_of_eq (less_any p q hp hq w) (congrArg Value.bool (less_not_right mq))) (fun w => calls_of_eq (fits_any p k hp hk w) (congrArg Value.bool fp))
    | true =>
      cases cpq : coversB p q with
      | false =>
        cases fp : fitsB p k with
        | false => exact a0 p q k w (fun w => calls_of_eq (may_any p hp w) (congrArg Value.bool mp)) (fun w => calls_of_eq (may_any q hq w) (congrArg Value.bool mq)) (fun w => calls_of_eq (fits_any p k hp hk w) (congrArg Value.bool fp)) (fun w => calls_of_eq (covers_any p q hp hq w) (congrArg Value.bool cpq))
        | true =>
          cases fq : fitsB q k with
          | false => exact b0 p q k w (fun w => calls_of_eq (may_any p hp w) (congrArg Value.bool mp)) (fun w => calls_of_eq (may_any q hq w) (congrArg Value.bool mq)) (fun w => calls_of_eq (fits_any p k hp hk w) (congrArg Value.bool fp)) (fun w => calls_of_eq (fits_any q k hq hk w) (congrArg Value.bool fq)) (fun w => calls_of_eq (covers_any p q hp hq w) (congrArg Value.bool cpq))
          | true =>
            cases hbits : p.bits == q.bits with
            | false => exact c0 p q k w (fun w => calls_of_eq (may_any p hp w) (congrArg Value.bool mp)) (fun w => calls_of_eq (may_any q hq w) (congrArg Value.bool mq)) (fun w => calls_of_eq (fits_any p k hp hk w) (congrArg Value.bool fp)) (fun w => calls_of_eq (fits_any q k hq hk w) (congrArg Value.bool fq)) (fun w => calls_of_eq (covers_any p q hp hq w) (congrArg Value.bool cpq)) hbits
            | true => exact e0 p q k w (fun w => calls_of_eq (may_any p hp w) (congrArg Value.bool mp)) (fun w => calls_of_eq (may_any q hq w) (congrArg Value.bool mq)) (fun w => calls_of_eq (fits_any p k hp hk w) (congrArg Value.bool fp)) (fun w => calls_of_eq (fits_any q k hq hk w) (congrArg Value.bool fq)) (fun w => calls_of_eq (covers_any p q hp hq w) (congrArg Value.bool cpq)) (fun w => calls_of_eq (covers_any q p hq hp w) (congrArg Value.bool (covers_one hp hq hk fp fq (by simpa using hbits) cpq))) hbits
      | true =>
        have hbits : (p.bits == q.bits) = true := by simpa using ((covers_iff p q).1 cpq).2.1
        cases he : preEq p q with
        | false =>
          cases fp : fitsB p k with
          | false =>
            have fq : fitsB q k = false := by
              cases e : fitsB q k with
              | false => rfl
              | true => rw [covers_fits hq hk cpq e] at fp; exact absurd fp (by simp)
            exact a2 p q k w (fun w => calls_of_eq (may_any p hp w) (congrArg Value.bool mp)) (fun w => calls_of_eq (may_any q hq w) (congrArg Value.bool mq)) (fun w => calls_of_eq (fits_any p k hp hk w) (congrArg Value.bool fp)) (fun w => calls_of_eq (covers_any p q hp hq w) (congrArg Value.bool cpq)) (fun w => calls_of_eq (less_any q p hq hp w) (congrArg Value.bool (covers_ahead hp hq cpq))) (fun w => calls_of_eq (fits_any q k hq hk w) (congrArg Value.bool fq)) (fun w => calls_of_eq (covers_any q p hq hp w) (congrArg Value.bool (covers_same hp hq cpq he))) (fun w => by have := run_preEql p q w; rwa [he] at this)
          | true =>
            cases fq : fitsB q k with
            | false => exact b2 p q k w (fun w => calls_of_eq (may_any p hp w) (congrArg Value.bool mp)) (fun w => calls_of_eq (may_any q hq w) (congrArg Value.bool mq)) (fun w => calls_of_eq (fits_any p k hp hk w) (congrArg Value.bool fp)) (fun w => calls_of_eq (fits_any q k hq hk w) (congrArg Value.bool fq)) (fun w => calls_of_eq (covers_any p q hp hq w) (congrArg Value.bool cpq)) (fun w => calls_of_eq (less_any q p hq hp w) (congrArg Value.bool (covers_ahead hp hq cpq))) (fun w => calls_of_eq (covers_any q p hq hp w) (congrArg Value.bool (covers_same hp hq cpq he))) (fun w => by have := run_preEql p q w; rwa [he] at this)
            | true => exact d2 p q k w (fun w => calls_of_eq (may_any p hp w) (congrArg Value.bool mp)) (fun w => calls_of_eq (may_any q hq w) (congrArg Value.bool mq)) (fun w => calls_of_eq (fits_any p k hp hk w) (congrArg Value.bool fp)) (fun w => calls_of_eq (fits_any q k hq hk w) (congrArg Value.bool fq)) (fun w => calls_of_eq (covers_any p q hp hq w) (congrArg Value.bool cpq)) (fun w => calls_of_eq (less_any q p hq hp w) (congrArg Value.bool (covers_ahead hp hq cpq))) (fun w => calls_of_eq (covers_any q p hq hp w) (congrArg Value.bool (covers_same hp hq cpq he))) hbits (fun w => by have := run_preEql p q w; rwa [he] at this)
        | true =>
          cases fp : fitsB p k with
          | false =>
            have fq : fitsB q k = false := by
              cases e : fitsB q k with
              | false => rfl
              | true => rw [covers_fits hq hk cpq e] at fp; exact absurd fp (by simp)
            exact a1 p q k w (fun w => calls_of_eq (may_any p hp w) (congrArg Value.bool mp)) (fun w => calls_of_eq (may_any q hq w) (congrArg Value.bool mq)) (fun w => calls_of_eq (fits_any p k hp hk w) (congrArg Value.bool fp)) (fun w => calls_of_eq (covers_any p q hp hq w) (congrArg Value.bool cpq)) (fun w => calls_of_eq (less_any q p hq hp w) (congrArg Value.bool (covers_ahead hp hq cpq))) (fun w => calls_of_eq (fits_any q k hq hk w) (congrArg Value.bool fq)) (fun w => by have := run_preEql p q w; rwa [he] at this)
          | true =>
            cases fq : fitsB q k with
            | false => exact b1 p q k w (fun w => calls_of_eq (may_any p hp w) (congrArg Value.bool mp)) (fun w => calls_of_eq (may_any q hq w) (congrArg Value.bool mq)) (fun w => calls_of_eq (fits_any p k hp hk w) (congrArg Value.bool fp)) (fun w => calls_of_eq (fits_any q k hq hk w) (congrArg Value.bool fq)) (fun w => calls_of_eq (covers_any p q hp hq w) (congrArg Value.bool cpq)) (fun w => calls_of_eq (less_any q p hq hp w) (congrArg Value.bool (covers_ahead hp hq cpq))) (fun w => by have := run_preEql p q w; rwa [he] at this)
            | true => exact d1 p q k w (fun w => calls_of_eq (may_any p hp w) (congrArg Value.bool mp)) (fun w => calls_of_eq (may_any q hq w) (congrArg Value.bool mq)) (fun w => calls_of_eq (fits_any p k hp hk w) (congrArg Value.bool fp)) (fun w => calls_of_eq (fits_any q k hq hk w) (congrArg Value.bool fq)) (fun w => calls_of_eq (covers_any p q hp hq w) (congrArg Value.bool cpq)) (fun w => calls_of_eq (less_any q p hq hp w) (congrArg Value.bool (covers_ahead hp hq cpq))) hbits (fun w => by have := run_preEql p q w; rwa [he] at this)

end keyCovers
end Go.Proofs.Ytpjmhdolmemmlaa
