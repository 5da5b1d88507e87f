/- The document's own Bit, Common and Step of layer 1 hand back what the program's do. -/
import Derived.Test.YtpjmhdolmemmlaaKeyA
import Derived.Test.YtpjmhdolmemmlaaKeyCom
import Derived.LoopTactic
namespace Go.Proofs.Ytpjmhdolmemmlaa
open Go.RowKit Go.Sort
attribute [local go_sem ↓] loadVar_key loadVar_pre

theorem half_pow (x j : Nat) : x / 2 ^ j / 2 = x / 2 ^ (j + 1) := by rw [Nat.div_div_eq_div_mul, ← Nat.pow_succ]

set_option maxHeartbeats 1000000 in
set_option maxRecDepth 100000 in
theorem rbit_in (k : Nat → Nat) (n : Nat) (hn : n < 128) (w : World) (hk : Bytes16 k) :
    Calls Try.prog 10 #[.agg (kc k), .int .i64 n] w fun e w' => e = .returned (.int .i64 (bitZ k n)) ∧ Below w.heap.size w w' := by
  have h1 : (n : Int) ≤ 127 := by omega
  have h2 : (0 : Int) ≤ n := by omega
  have hx := kc_at k (n/8) (by omega)
  obtain ⟨x, hxk⟩ : ∃ x, x = k (n / 8) := ⟨_, rfl⟩
  have hl : x < 256 := by rw [hxk]; exact hk _
  rw [← hxk] at hx
  have hl2 : (x : Int) < 256 := by omega
  have hfin : bitZ k n = ((x / 2 ^ (7 - n % 8) % 2 : Nat) : Int) := by unfold bitZ bt; rw [if_pos (by omega), hxk]; simp
  have HF := Lib.hid hfin
  obtain ⟨r, hr⟩ : ∃ r, r = n % 8 := ⟨_, rfl⟩
  have HR := Lib.hid hr
  have er : (n : Int) % 8 = (r : Int) := by omega
  have hr8 : r < 8 := by omega
  have hb : Below w.heap.size w (w.alloc (.cells (kc k) 23)) := (Below.refl _ _).alloc (Nat.le_refl _) _
  clear hfin hxk hr
  go_enter Try.func10, Try.ntmps10
  go_wp2
  go_loop [5, 6] (fun b t => ∃ i : Nat, r ≤ i ∧ i ≤ 7 ∧ t = .int .i64 i ∧ b = .int .i64 ((x / 2 ^ (i - r) : Nat) : Int)) (fun _ t => 7 - (intOf t).toNat)
  case atStart => exact ⟨r, Nat.le_refl _, by omega, by go_num, by simp⟩
  case round =>
    obtain ⟨i, hi1, hi2, rfl, rfl⟩ := hrel
    obtain ⟨y, hy⟩ : ∃ y, y = x / 2 ^ (i - r) := ⟨_, rfl⟩
    have hy256 : y < 256 := by rw [hy]; exact Nat.lt_of_le_of_lt (Nat.div_le_self _ _) hl
    rw [← hy]
    have HY := Lib.hid hy
    have hy2 : (0 : Int) ≤ y := by omega
    have hy3 : (y : Int) < 256 := by omega
    clear hy
    by_cases hlt : i < 7
    · have hlt' : (i : Int) < 7 := by omega
      go_wp2
      go_round
      case rel => exact ⟨i + 1, by omega, by omega, by go_num, by rw [show i + 1 - r = (i - r) + 1 by omega, ← half_pow, ← HY.out]; simp⟩
      case measure => simp [intOf]; omega
    · obtain rfl : i = 7 := by omega
      go_wp2
      go_ret
      exact ⟨ret_int (by rw [HF.out, ← HR.out, ← HY.out]; simp), hb⟩

set_option maxHeartbeats 400000 in
set_option maxRecDepth 100000 in
theorem rbit_out (k : Nat → Nat) (n : Int) (hn : n < 0 ∨ 128 ≤ n) (w : World) :
    Calls Try.prog 10 #[.agg (kc k), .int .i64 n] w fun e w' => e = .returned (.int .i64 0) ∧ Below w.heap.size w w' := by
  rcases hn with hn | hn
  · go_enter Try.func10, Try.ntmps10
    go_wp2
    go_ret
    exact ⟨rfl, (Below.refl _ _).alloc (Nat.le_refl _) _⟩
  · have h0 : ¬ n < 0 := by omega
    have h1 : 127 < n := by omega
    go_enter Try.func10, Try.ntmps10
    go_wp2
    go_ret
    exact ⟨rfl, (Below.refl _ _).alloc (Nat.le_refl _) _⟩

theorem rbit_any (k : Nat → Nat) (n : Int) (w : World) (hk : Bytes16 k) :
    Calls Try.prog 10 #[.agg (kc k), .int .i64 n] w fun e w' => e = .returned (.int .i64 (bitZ k n)) ∧ Below w.heap.size w w' := by
  by_cases h : 0 ≤ n ∧ n < 128
  · obtain ⟨m, rfl⟩ := Int.eq_ofNat_of_zero_le h.1
    exact rbit_in k m (by omega) w hk
  · rw [show bitZ k n = 0 by unfold bitZ; rw [if_neg h]]
    exact rbit_out k n (by omega) w

theorem bitZ_at (k : Nat → Nat) (i : Nat) (h : i < 128) : bitZ k i = (bt k i : Nat) := by unfold bitZ; rw [if_pos (by omega)]; simp

set_option maxHeartbeats 1000000 in
set_option maxRecDepth 100000 in
theorem rcom_any (a b : Nat → Nat) (w : World) (ha : Bytes16 a) (hb : Bytes16 b) :
    Calls Try.prog 14 #[.agg (kc a), .agg (kc b)] w fun e w' => e = .returned (.int .i64 (com a b : Nat)) ∧ Below w.heap.size w w' := by
  have hbl : Below w.heap.size w ((w.alloc (.cells (kc a) 23)).alloc (.cells (kc b) 23)) := ((Below.refl _ _).alloc (Nat.le_refl _) _).alloc (by simp) _
  have hsz : ((w.alloc (.cells (kc a) 23)).alloc (.cells (kc b) 23)).heap.size = w.heap.size + 2 := by simp
  have ra : RowAt ((w.alloc (.cells (kc a) 23)).alloc (.cells (kc b) 23)) w.heap.size 0 (kc a) := (rowAt_new w (kc a) _).below (B := w.heap.size + 1) ((Below.refl _ _).alloc (by simp) _) (by omega)
  have rb : RowAt ((w.alloc (.cells (kc a) 23)).alloc (.cells (kc b) 23)) (w.heap.size + 1) 0 (kc b) := by simpa using rowAt_new (w.alloc (.cells (kc a) 23)) (kc b) 23
  go_enter Try.func14, Try.ntmps14
  go_wp2
  generalize (w.alloc (.cells (kc a) 23)).alloc (.cells (kc b) 23) = W at *
  have HS := Lib.hid hsz
  clear hsz
  go_loopw [5] (fun t wr => ∃ i : Nat, i ≤ com a b ∧ t = .int .i64 i ∧ Below W.heap.size W wr) (fun t _ => 128 - (intOf t).toNat)
  case atStart => exact ⟨0, Nat.zero_le _, rfl, Below.refl _ _⟩
  case round =>
    obtain ⟨i, hi, rfl, hwr⟩ := hrel
    have hi128 := (com_is a b).le
    have r1 := ra.below hwr (by rw [HS.out]; omega)
    have r2 := rb.below hwr (by rw [HS.out]; omega)
    have L1 := fun d os => run_keyLoad (rowAt_regrown r1 d os)
    have L2 := fun d os => run_keyLoad (rowAt_regrown r2 d os)
    have fin : ∀ w5, (∃ p : Regrown, w5 = grow (redrawn wr p.d) p.os) → Below W.heap.size W w5 := by
      rintro w5 ⟨p, rfl⟩
      exact hwr.trans ((below_regrown wr p.d p.os).mono hwr.size)
    have HF := Lib.hid fin
    clear fin ra rb hwr r1 r2
    by_cases hlt : i < 128
    · have C1 := fun d os => Calls.regrown_of (rbit_any a i (grow (redrawn wr d) os) ha)
      have C2 := fun d os => Calls.regrown_of (rbit_any b i (grow (redrawn wr d) os) hb)
      have hlt' : (i : Int) < 128 := by omega
      by_cases he : i < com a b
      · have e1 : bitZ a i = bitZ b i := by rw [bitZ_at _ _ hlt, bitZ_at _ _ hlt, (com_is a b).same i he]
        rw [e1] at C1
        go_wp2
        refine wp_region_quiet_below (by kernel_rfl) (by kernel_rfl) ?_
        repeat (go_big_quiet_step ((with_reducible first | exact C1 _ _ | exact C2 _ _)))
        refine wpQuiet_nil fun w5 hw5 => ?_
        have hb5 := HF.out w5 hw5
        clear hw5 C1 C2 L1 L2
        go_wp2
        go_roundw
        case rel => exact ⟨i + 1, by omega, by go_num, hb5⟩
        case measure => simp [intOf]; omega
      · obtain rfl : i = com a b := by omega
        have e1 : (bitZ a (com a b : Nat) == bitZ b (com a b : Nat)) = false := by
          rw [beq_eq_false_iff_ne, bitZ_at _ _ hlt, bitZ_at _ _ hlt]
          have := (com_is a b).part hlt
          omega
        go_wp2
        refine wp_region_quiet_below (by kernel_rfl) (by kernel_rfl) ?_
        repeat (go_big_quiet_step ((with_reducible first | exact C1 _ _ | exact C2 _ _)))
        refine wpQuiet_nil fun w5 hw5 => ?_
        have hb5 := HF.out w5 hw5
        clear hw5 C1 C2 L1 L2
        go_wp2
        go_ret
        exact ⟨rfl, hbl.trans (hb5.mono hbl.size)⟩
    · have hge : ¬ (i : Int) < 128 := by omega
      have hd : decide ((i : Int) < 128) = false := by rw [decide_eq_false_iff_not]; exact hge
      have e1 : com a b = i := by omega
      have HE := Lib.hid e1
      clear e1
      go_wp2
      refine wp_region_quiet_below (by kernel_rfl) (by kernel_rfl) ?_
      repeat (go_big_quiet_step (fail))
      refine wpQuiet_nil fun w5 hw5 => ?_
      have hb5 := HF.out w5 hw5
      clear hw5 L1 L2
      go_wp2
      go_ret
      exact ⟨ret_int (by rw [HE.out]), hbl.trans (hb5.mono hbl.size)⟩

end Go.Proofs.Ytpjmhdolmemmlaa
