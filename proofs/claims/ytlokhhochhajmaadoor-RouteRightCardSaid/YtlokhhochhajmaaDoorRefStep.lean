/- The document's own Step of layer 1. -/
import Derived.Test.YtlokhhochhajmaaDoorRefBit
namespace Go.Proofs.YtlokhhochhajmaaDoor
open Go.RowKit Go.Sort
attribute [local go_sem ↓] loadVar_key loadVar_pre

theorem bitZ_nat (k : Nat → Nat) (i : Nat) (h : i < 128) : bitZ k i = (bt k i : Nat) := by
  unfold bitZ; rw [if_pos (by omega)]; simp

theorem bitZ_range (k : Nat → Nat) (i : Int) : 0 ≤ bitZ k i ∧ bitZ k i ≤ 1 := by
  unfold bitZ
  split
  · have := bt_lt k i.toNat; omega
  · omega

theorem stepZ_bits {k : Nat → Nat} (hk : Bytes16 k) (i : Nat) (h : i < 32) : stepZ k i = 8 * bitZ k (4 * (i : Int)) + 4 * bitZ k (4 * (i : Int) + 1) + 2 * bitZ k (4 * (i : Int) + 2) + bitZ k (4 * (i : Int) + 3) := by
  have e0 : bitZ k (4 * (i : Int)) = (bt k (4 * i) : Nat) := by have := bitZ_nat k (4 * i) (by omega); simpa using this
  have e1 : bitZ k (4 * (i : Int) + 1) = (bt k (4 * i + 1) : Nat) := by have := bitZ_nat k (4 * i + 1) (by omega); simpa using this
  have e2 : bitZ k (4 * (i : Int) + 2) = (bt k (4 * i + 2) : Nat) := by have := bitZ_nat k (4 * i + 2) (by omega); simpa using this
  have e3 : bitZ k (4 * (i : Int) + 3) = (bt k (4 * i + 3) : Nat) := by have := bitZ_nat k (4 * i + 3) (by omega); simpa using this
  have hs := step_bits hk i h
  unfold stepZ
  rw [if_pos (by omega), Int.toNat_natCast, hs, e0, e1, e2, e3]
  omega

set_option maxHeartbeats 1000000 in
set_option maxRecDepth 100000 in
theorem rstep_in (k : Nat → Nat) (i : Nat) (hlt : i < 32) (w : World) (hk : Bytes16 k) :
    Calls Tryd.prog 26 #[.agg (kc k), .int .i64 i] w fun e w' => e = .returned (.int .i64 (stepZ k i)) ∧ Below w.heap.size w w' := by
  have rk := rowAt_new w (kc k) 23
  have hb : Below w.heap.size w (w.alloc (.cells (kc k) 23)) := (Below.refl _ _).alloc (Nat.le_refl _) _
  have h1 : (i : Int) ≤ 31 := by omega
  have h2 : (0 : Int) ≤ i := by omega
  have hs := stepZ_bits hk i hlt
  rw [hs]
  clear hs
  have r0 := bitZ_range k (4 * (i : Int))
  have r1 := bitZ_range k (4 * (i : Int) + 1)
  have r2 := bitZ_range k (4 * (i : Int) + 2)
  have r3 := bitZ_range k (4 * (i : Int) + 3)
  have D1 := fun w => rbit_any k (4 * (i : Int)) w hk
  have D2 := fun w => rbit_any k (4 * (i : Int) + 1) w hk
  have D3 := fun w => rbit_any k (4 * (i : Int) + 2) w hk
  have D4 := fun w => rbit_any k (4 * (i : Int) + 3) w hk
  generalize bitZ k (4 * (i : Int)) = b0 at *
  generalize bitZ k (4 * (i : Int) + 1) = b1 at *
  generalize bitZ k (4 * (i : Int) + 2) = b2 at *
  generalize bitZ k (4 * (i : Int) + 3) = b3 at *
  obtain ⟨p0, q0⟩ := r0
  obtain ⟨p1, q1⟩ := r1
  obtain ⟨p2, q2⟩ := r2
  obtain ⟨p3, q3⟩ := r3
  have E1 := Lib.hid D1
  have E2 := Lib.hid D2
  have E3 := Lib.hid D3
  have E4 := Lib.hid D4
  clear D1 D2 D3 D4
  go_enter Tryd.func26, Tryd.ntmps26
  go_wp2
  generalize w.alloc (.cells (kc k) 23) = W at *
  have L1 := fun d os => run_keyLoad (rowAt_regrown rk d os)
  have C1 := fun d os => Calls.regrown_of (E1.out (grow (redrawn W d) os))
  have C2 := fun d os => Calls.regrown_of (E2.out (grow (redrawn W d) os))
  have C3 := fun d os => Calls.regrown_of (E3.out (grow (redrawn W d) os))
  have C4 := fun d os => Calls.regrown_of (E4.out (grow (redrawn W d) os))
  have fin : ∀ w5, (∃ p : Regrown, w5 = grow (redrawn W p.d) p.os) → Below w.heap.size w w5 := by
    rintro w5 ⟨p, rfl⟩
    exact hb.trans ((below_regrown W p.d p.os).mono hb.size)
  have HG := Lib.hid fin
  clear fin rk
  refine wp_region_quiet_below (by kernel_rfl) (by kernel_rfl) ?_
  repeat (go_big_quiet_step ((with_reducible first | exact C1 _ _ | exact C2 _ _ | exact C3 _ _ | exact C4 _ _)))
  refine wpQuiet_nil fun w5 hw5 => ?_
  have hb5 := HG.out w5 hw5
  clear hw5 C1 C2 C3 C4 L1 p0 p1 p2 p3 q0 q1 q2 q3
  go_wp2
  go_ret
  exact ⟨rfl, hb5⟩

set_option maxHeartbeats 400000 in
set_option maxRecDepth 100000 in
theorem rstep_out (k : Nat → Nat) (n : Int) (hn : n < 0 ∨ 32 ≤ n) (w : World) :
    Calls Tryd.prog 26 #[.agg (kc k), .int .i64 n] w fun e w' => e = .returned (.int .i64 0) ∧ Below w.heap.size w w' := by
  rcases hn with hn | hn
  · go_enter Tryd.func26, Tryd.ntmps26
    go_wp2
    go_ret
    exact ⟨rfl, (Below.refl _ _).alloc (Nat.le_refl _) _⟩
  · have h0 : ¬ n < 0 := by omega
    have h1 : 31 < n := by omega
    go_enter Tryd.func26, Tryd.ntmps26
    go_wp2
    go_ret
    exact ⟨rfl, (Below.refl _ _).alloc (Nat.le_refl _) _⟩

theorem rstep_any (k : Nat → Nat) (n : Int) (w : World) (hk : Bytes16 k) :
    Calls Tryd.prog 26 #[.agg (kc k), .int .i64 n] w fun e w' => e = .returned (.int .i64 (stepZ k n)) ∧ Below w.heap.size w w' := by
  by_cases h : 0 ≤ n ∧ n < 32
  · obtain ⟨m, rfl⟩ := Int.eq_ofNat_of_zero_le h.1
    exact rstep_in k m (by omega) w hk
  · rw [show stepZ k n = 0 by unfold stepZ; rw [if_neg h]]
    exact rstep_out k n (by omega) w

end Go.Proofs.YtlokhhochhajmaaDoor
