/-
  The walk of the statement KeyRight of layer 1: the program's calls and the document's own, two by two.
-/
import Derived.Test.YtpjmhdolmemmlaaRefD
import Derived.Test.YtpjmhdolmemmlaaRefB
import Derived.Test.YtpjmhdolmemmlaaKeyAwake
import Derived.Test.YtpjmhdolmemmlaaKeyOpen
namespace Go.Proofs.Ytpjmhdolmemmlaa
open Go.RowKit Go.Sort
attribute [local go_sem ↓] loadVar_key loadVar_pre storeVar_key storeVar_pre

namespace keyRight

/-- What is known of a world in which two keys and two prefixes lie, one block behind the other. -/
structure Four (w : World) (B : Nat) (a b : Nat → Nat) (p q : Pre) : Prop where
  la : (keyLoad ⟨B, 0, none⟩).run Try.prog w = .ok (.agg (kc a)) w
  lb : (keyLoad ⟨B + 1, 0, none⟩).run Try.prog w = .ok (.agg (kc b)) w
  lp : (preLoad ⟨B + 1 + 1, 0, none⟩).run Try.prog w = .ok (.agg (pc p)) w
  lq : (preLoad ⟨B + 1 + 1 + 1, 0, none⟩).run Try.prog w = .ok (.agg (pc q)) w

theorem rows_four (w : World) (a b c d : Array Value) (s t u v : TypeId) :
    RowAt ((((w.alloc (.cells a s)).alloc (.cells b t)).alloc (.cells c u)).alloc (.cells d v)) w.heap.size 0 a ∧ RowAt ((((w.alloc (.cells a s)).alloc (.cells b t)).alloc (.cells c u)).alloc (.cells d v)) (w.heap.size + 1) 0 b ∧
    RowAt ((((w.alloc (.cells a s)).alloc (.cells b t)).alloc (.cells c u)).alloc (.cells d v)) (w.heap.size + 1 + 1) 0 c ∧ RowAt ((((w.alloc (.cells a s)).alloc (.cells b t)).alloc (.cells c u)).alloc (.cells d v)) (w.heap.size + 1 + 1 + 1) 0 d ∧
    Below w.heap.size w ((((w.alloc (.cells a s)).alloc (.cells b t)).alloc (.cells c u)).alloc (.cells d v)) ∧ ((((w.alloc (.cells a s)).alloc (.cells b t)).alloc (.cells c u)).alloc (.cells d v)).heap.size = w.heap.size + 4 := by
  obtain ⟨h1, h2, h3, h4⟩ := rows_two w a b s t
  have hb : Below (w.heap.size + 2) ((w.alloc (.cells a s)).alloc (.cells b t)) (((w.alloc (.cells a s)).alloc (.cells b t)).alloc (.cells c u)) := (Below.refl _ _).alloc (by rw [h4]; exact Nat.le_refl _) _
  have k3 := rowAt_new ((w.alloc (.cells a s)).alloc (.cells b t)) c u
  rw [h4] at k3
  have hz : (((w.alloc (.cells a s)).alloc (.cells b t)).alloc (.cells c u)).heap.size = w.heap.size + 3 := by simp
  have hc : Below (w.heap.size + 3) (((w.alloc (.cells a s)).alloc (.cells b t)).alloc (.cells c u)) ((((w.alloc (.cells a s)).alloc (.cells b t)).alloc (.cells c u)).alloc (.cells d v)) := (Below.refl _ _).alloc (by rw [hz]; exact Nat.le_refl _) _
  have k4 := rowAt_new (((w.alloc (.cells a s)).alloc (.cells b t)).alloc (.cells c u)) d v
  rw [hz] at k4
  exact ⟨(h1.below hb (by omega)).below hc (by omega), (h2.below hb (by omega)).below hc (by omega), k3.below hc (by omega), k4, (h3.trans (hb.mono (by omega))).trans (hc.mono (by omega)), by simp⟩

set_option maxHeartbeats 4000000 in
set_option maxRecDepth 100000 in
theorem walk_of (a b : Nat → Nat) (p q : Pre) (n : Int) (w : World) (x1 x3 x4 : Int) (k2 : Nat → Nat) (y5 y6 y7 y8 : Bool) (P1 : Hid (∀ w, Calls Try.prog 9 #[.agg (kc a), .int .i64 n] w fun e w' => e = .returned (.int .i64 x1) ∧ Below w.heap.size w w'))
    (R1 : Hid (∀ w, Calls Try.prog 10 #[.agg (kc a), .int .i64 n] w fun e w' => e = .returned (.int .i64 x1) ∧ Below w.heap.size w w'))
    (P2 : Hid (∀ w, Calls Try.prog 11 #[.agg (kc a), .int .i64 n] w fun e w' => e = .returned (.agg (kc k2)) ∧ Below w.heap.size w w'))
    (R2 : Hid (∀ w, Calls Try.prog 12 #[.agg (kc a), .int .i64 n] w fun e w' => e = .returned (.agg (kc k2)) ∧ Below w.heap.size w w'))
    (P3 : Hid (∀ w, Calls Try.prog 13 #[.agg (kc a), .agg (kc b)] w fun e w' => e = .returned (.int .i64 x3) ∧ Below w.heap.size w w'))
    (R3 : Hid (∀ w, Calls Try.prog 14 #[.agg (kc a), .agg (kc b)] w fun e w' => e = .returned (.int .i64 x3) ∧ Below w.heap.size w w'))
    (P4 : Hid (∀ w, Calls Try.prog 15 #[.agg (kc a), .int .i64 n] w fun e w' => e = .returned (.int .i64 x4) ∧ Below w.heap.size w w'))
    (R4 : Hid (∀ w, Calls Try.prog 16 #[.agg (kc a), .int .i64 n] w fun e w' => e = .returned (.int .i64 x4) ∧ Below w.heap.size w w'))
    (P5 : Hid (∀ w, Calls Try.prog 17 #[.agg (pc p)] w fun e w' => e = .returned (.bool y5) ∧ Below w.heap.size w w'))
    (R5 : Hid (∀ w, Calls Try.prog 18 #[.agg (pc p)] w fun e w' => e = .returned (.bool y5) ∧ Below w.heap.size w w'))
    (P6 : Hid (∀ w, Calls Try.prog 19 #[.agg (pc p), .agg (kc a)] w fun e w' => e = .returned (.bool y6) ∧ Below w.heap.size w w'))
    (R6 : Hid (∀ w, Calls Try.prog 20 #[.agg (pc p), .agg (kc a)] w fun e w' => e = .returned (.bool y6) ∧ Below w.heap.size w w'))
    (P7 : Hid (∀ w, Calls Try.prog 21 #[.agg (pc p), .agg (pc q)] w fun e w' => e = .returned (.bool y7) ∧ Below w.heap.size w w'))
    (R7 : Hid (∀ w, Calls Try.prog 22 #[.agg (pc p), .agg (pc q)] w fun e w' => e = .returned (.bool y7) ∧ Below w.heap.size w w'))
    (P8 : Hid (∀ w, Calls Try.prog 23 #[.agg (pc p), .agg (pc q)] w fun e w' => e = .returned (.bool y8) ∧ Below w.heap.size w w'))
    (R8 : Hid (∀ w, Calls Try.prog 24 #[.agg (pc p), .agg (pc q)] w fun e w' => e = .returned (.bool y8) ∧ Below w.heap.size w w')) :
    Calls Try.prog 3 #[.agg (kc a), .agg (kc b), .agg (pc p), .agg (pc q), .int .i64 n] w fun e w' => e = .returned (.bool true) ∧ Below w.heap.size w w' := by
  obtain ⟨ra, rb, rp, rq, hb, hz⟩ := rows_four w (kc a) (kc b) (pc p) (pc q) 23 23 25 25
  have C0 := Lib.hid awake_any
  have E := fun w => run_eqKey_top k2 k2 w
  have e0 : keyEq k2 k2 = true := by simp [keyEq]
  simp only [e0] at E
  clear e0
  generalize hW : (((w.alloc (.cells (kc a) 23)).alloc (.cells (kc b) 23)).alloc (.cells (pc p) 25)).alloc (.cells (pc q) 25) = W at *
  have HT := Lib.hid (fun w1 (h : Below W.heap.size W w1) => (⟨run_keyLoad (ra.below h (by omega)), run_keyLoad (rb.below h (by omega)), run_preLoad (rp.below h (by omega)), run_preLoad (rq.below h (by omega))⟩ : Four w1 w.heap.size a b p q))
  have HW := Lib.hid hW
  clear hW hz ra rb rp rq
  go_enter Try.func3, Try.ntmps3
  go_wp2_with fail
  rw [HW.out]
  refine (C0.out _).mono ?_
  rintro e w1 ⟨rfl, h1⟩
  obtain ⟨la, lb, lp, lq⟩ := HT.out w1 h1
  go_wp2_with fail
  have fin : ∀ w5, (∃ p : Regrown, w5 = grow (redrawn w1 p.d) p.os) → Below w.heap.size w w5 := by
    rintro w5 ⟨p, rfl⟩
    exact hb.trans ((h1.trans ((below_regrown w1 p.d p.os).mono h1.size)).mono hb.size)
  have HG := Lib.hid fin
  clear la lb lp lq fin
  have F := fun d os => HT.out (grow (redrawn w1 d) os) (h1.trans ((below_regrown w1 d os).mono h1.size))
  have la := fun d os => (F d os).la
  have lb := fun d os => (F d os).lb
  have lp := fun d os => (F d os).lp
  have lq := fun d os => (F d os).lq
  clear F
  have cP1 := fun d os => Calls.regrown_of (P1.out (grow (redrawn w1 d) os))
  have cR1 := fun d os => Calls.regrown_of (R1.out (grow (redrawn w1 d) os))
  have cP2 := fun d os => Calls.regrown_of (P2.out (grow (redrawn w1 d) os))
  have cR2 := fun d os => Calls.regrown_of (R2.out (grow (redrawn w1 d) os))
  have cP3 := fun d os => Calls.regrown_of (P3.out (grow (redrawn w1 d) os))
  have cR3 := fun d os => Calls.regrown_of (R3.out (grow (redrawn w1 d) os))
  have cP4 := fun d os => Calls.regrown_of (P4.out (grow (redrawn w1 d) os))
  have cR4 := fun d os => Calls.regrown_of (R4.out (grow (redrawn w1 d) os))
  have cP5 := fun d os => Calls.regrown_of (P5.out (grow (redrawn w1 d) os))
  have cR5 := fun d os => Calls.regrown_of (R5.out (grow (redrawn w1 d) os))
  have cP6 := fun d os => Calls.regrown_of (P6.out (grow (redrawn w1 d) os))
  have cR6 := fun d os => Calls.regrown_of (R6.out (grow (redrawn w1 d) os))
  have cP7 := fun d os => Calls.regrown_of (P7.out (grow (redrawn w1 d) os))
  have cR7 := fun d os => Calls.regrown_of (R7.out (grow (redrawn w1 d) os))
  have cP8 := fun d os => Calls.regrown_of (P8.out (grow (redrawn w1 d) os))
  have cR8 := fun d os => Calls.regrown_of (R8.out (grow (redrawn w1 d) os))
  simp only [List.append_eq, List.cons_append, List.nil_append]
  refine wp_region_quiet_below (by kernel_rfl) (by kernel_rfl) ?_
  repeat (go_big_quiet_step ((with_reducible first | exact cP1 _ _ | exact cR1 _ _ | exact cP2 _ _ | exact cR2 _ _ | exact cP3 _ _ | exact cR3 _ _ | exact cP4 _ _ | exact cR4 _ _ | exact cP5 _ _ | exact cR5 _ _ | exact cP6 _ _ | exact cR6 _ _ | exact cP7 _ _ | exact cR7 _ _ | exact cP8 _ _ | exact cR8 _ _)))
  refine wpQuiet_nil fun w5 hw5 => ?_
  have hb5 := HG.out w5 hw5
  clear hw5 la lb lp lq cP1 cR1 cP2 cR2 cP3 cR3 cP4 cR4 cP5 cR5 cP6 cR6 cP7 cR7 cP8 cR8
  go_wp2
  go_ret
  exact ⟨rfl, hb5⟩

theorem walk (a b : Nat → Nat) (p q : Pre) (n : Int) (ha : Bytes16 a) (hb : Bytes16 b) (hp : Bytes16 p.key) (_ : I64 p.bits) (_ : I64 p.len) (hq : Bytes16 q.key) (_ : I64 q.bits) (_ : I64 q.len) (_ : (Lit.int .i64 n).wf = true) (w : World) :
    Calls Try.prog 3 #[.agg (kc a), .agg (kc b), .agg (pc p), .agg (pc q), .int .i64 n] w fun e w' => e = .returned (.bool true) ∧ Below w.heap.size w w' :=
  walk_of a b p q n w _ _ _ _ _ _ _ _ (fun w => bit_any a n w ha) (fun w => rbit_any a n w ha) (fun w => cut_any a n w ha) (fun w => rcut_any a n w ha) (fun w => com_any a b w ha hb) (fun w => rcom_any a b w ha hb) (fun w => step_any a n w ha) (fun w => rstep_any a n w ha) (fun w => may_any p hp w) (fun w => rmay_any p hp w) (fun w => fits_any p a hp ha w) (fun w => rfits_any p a hp ha w) (fun w => covers_any p q hp hq w) (fun w => rcovers_any p q hp hq w) (fun w => less_any p q hp hq w) (fun w => rless_any p q hp hq w)

end keyRight
end Go.Proofs.Ytpjmhdolmemmlaa
