/- The document's own Bit of layer 1. -/
import Derived.Test.YtlokhhochhajmaaDoorKeyStep
import Derived.LoopTactic
namespace Go.Proofs.YtlokhhochhajmaaDoor
open Go.RowKit Go.Sort
attribute [local go_sem ↓] loadVar_key loadVar_pre

theorem half_pow (x j : Nat) : x / 2 ^ j / 2 = x / 2 ^ (j + 1) := by rw [Nat.div_div_eq_div_mul, ← Nat.pow_succ]

set_option maxHeartbeats 1000000 in
set_option maxRecDepth 100000 in
theorem rbit_in (k : Nat → Nat) (n : Nat) (hn : n < 128) (w : World) (hk : Bytes16 k) :
    Calls Tryd.prog 39 #[.agg (kc k), .int .i64 n] w fun e w' => e = .returned (.int .i64 (bitZ k n)) ∧ Below w.heap.size w w' := by
  have h1 : (n : Int) ≤ 127 := by omega
  have h2 : (0 : Int) ≤ n := by omega
  have hx := kc_at k (n/8) (by omega)
  obtain ⟨x, hxk⟩ : ∃ x, x = k (n / 8) := ⟨_, rfl⟩
  have hl : x < 256 := by rw [hxk]; exact hk _
  rw [← hxk] at hx
  have hl2 : (x : Int) < 256 := by omega
  have hfin : bitZ k n = ((x / 2 ^ (7 - n % 8) % 2 : Nat) : Int) := by unfold bitZ bt; rw [if_pos (by omega), hxk]; simp
  have HF := Lib.hid hfin
  obtain ⟨r, hr⟩ : ∃ r, r = n % 8 := ⟨_, rfl⟩
  have HR := Lib.hid hr
  have er : (n : Int) % 8 = (r : Int) := by omega
  have hr8 : r < 8 := by omega
  have hb : Below w.heap.size w (w.alloc (.cells (kc k) 23)) := (Below.refl _ _).alloc (Nat.le_refl _) _
  clear hfin hxk hr
  go_enter Tryd.func39, Tryd.ntmps39
  go_wp2
  go_loop [5, 6] (fun b t => ∃ i : Nat, r ≤ i ∧ i ≤ 7 ∧ t = .int .i64 i ∧ b = .int .i64 ((x / 2 ^ (i - r) : Nat) : Int)) (fun _ t => 7 - (intOf t).toNat)
  case atStart => exact ⟨r, Nat.le_refl _, by omega, by go_num, by simp⟩
  case round =>
    obtain ⟨i, hi1, hi2, rfl, rfl⟩ := hrel
    obtain ⟨y, hy⟩ : ∃ y, y = x / 2 ^ (i - r) := ⟨_, rfl⟩
    have hy256 : y < 256 := by rw [hy]; exact Nat.lt_of_le_of_lt (Nat.div_le_self _ _) hl
    rw [← hy]
    have HY := Lib.hid hy
    have hy2 : (0 : Int) ≤ y := by omega
    have hy3 : (y : Int) < 256 := by omega
    clear hy
    by_cases hlt : i < 7
    · have hlt' : (i : Int) < 7 := by omega
      go_wp2
      go_round
      case rel => exact ⟨i + 1, by omega, by omega, by go_num, by rw [show i + 1 - r = (i - r) + 1 by omega, ← half_pow, ← HY.out]; simp⟩
      case measure => simp [intOf]; omega
    · obtain rfl : i = 7 := by omega
      go_wp2
      go_ret
      exact ⟨ret_int (by rw [HF.out, ← HR.out, ← HY.out]; simp), hb⟩

set_option maxHeartbeats 400000 in
set_option maxRecDepth 100000 in
theorem rbit_out (k : Nat → Nat) (n : Int) (hn : n < 0 ∨ 128 ≤ n) (w : World) :
    Calls Tryd.prog 39 #[.agg (kc k), .int .i64 n] w fun e w' => e = .returned (.int .i64 0) ∧ Below w.heap.size w w' := by
  rcases hn with hn | hn
  · go_enter Tryd.func39, Tryd.ntmps39
    go_wp2
    go_ret
    exact ⟨rfl, (Below.refl _ _).alloc (Nat.le_refl _) _⟩
  · have h0 : ¬ n < 0 := by omega
    have h1 : 127 < n := by omega
    go_enter Tryd.func39, Tryd.ntmps39
    go_wp2
    go_ret
    exact ⟨rfl, (Below.refl _ _).alloc (Nat.le_refl _) _⟩

theorem rbit_any (k : Nat → Nat) (n : Int) (w : World) (hk : Bytes16 k) :
    Calls Tryd.prog 39 #[.agg (kc k), .int .i64 n] w fun e w' => e = .returned (.int .i64 (bitZ k n)) ∧ Below w.heap.size w w' := by
  by_cases h : 0 ≤ n ∧ n < 128
  · obtain ⟨m, rfl⟩ := Int.eq_ofNat_of_zero_le h.1
    exact rbit_in k m (by omega) w hk
  · rw [show bitZ k n = 0 by unfold bitZ; rw [if_neg h]]
    exact rbit_out k n (by omega) w

theorem bitZ_at (k : Nat → Nat) (i : Nat) (h : i < 128) : bitZ k i = (bt k i : Nat) := by unfold bitZ; rw [if_pos (by omega)]; simp

end Go.Proofs.YtlokhhochhajmaaDoor
