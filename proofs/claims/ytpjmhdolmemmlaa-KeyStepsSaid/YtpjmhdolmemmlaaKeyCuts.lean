/-
  The walk of the statement KeyCuts of layer 1.
-/
import Derived.Test.YtpjmhdolmemmlaaKeyAwake
import Derived.Test.YtpjmhdolmemmlaaKeyOpen
import Derived.LoopTactic
namespace Go.Proofs.Ytpjmhdolmemmlaa
open Go.RowKit Go.Sort
attribute [local go_sem ↓] loadVar_key loadVar_pre storeVar_key storeVar_pre

namespace keyCuts

theorem cut_cut {k : Nat → Nat} (hk : Bytes16 k) (n m : Nat) : keyEq (cutB (cutB k n) m) (cutB k (min n m)) = true := by
  rw [keyEq_bits (cutB_bytes (cutB_bytes hk n) m) (cutB_bytes hk _)]
  intro j _
  rw [bt_cut, bt_cut, bt_cut]
  by_cases h1 : j < n <;> by_cases h2 : j < m
  · rw [if_pos h2, if_pos h1, if_pos (by omega)]
  · rw [if_neg h2, if_neg (by omega)]
  · rw [if_pos h2, if_neg h1, if_neg (by omega)]
  · rw [if_neg h2, if_neg (by omega)]

theorem cut_com (k : Nat → Nat) (n : Nat) : min n 128 ≤ com (cutB k n) k := by
  rw [com_ge (by omega)]
  intro j hj
  rw [bt_cut, if_pos (by omega)]

theorem bitZ_nat (k : Nat → Nat) (i : Nat) (h : i < 128) : bitZ k i = (bt k i : Nat) := by
  unfold bitZ; rw [if_pos (by omega)]; simp

theorem bitZ_range (k : Nat → Nat) (i : Int) : 0 ≤ bitZ k i ∧ bitZ k i ≤ 1 := by
  unfold bitZ
  split
  · have := bt_lt k i.toNat; omega
  · omega

theorem stepZ_bits {k : Nat → Nat} (hk : Bytes16 k) (i : Nat) (h : i < 32) : stepZ k i = 8 * bitZ k (4 * (i : Int)) + 4 * bitZ k (4 * (i : Int) + 1) + 2 * bitZ k (4 * (i : Int) + 2) + bitZ k (4 * (i : Int) + 3) := by
  have e0 : bitZ k (4 * (i : Int)) = (bt k (4 * i) : Nat) := by have := bitZ_nat k (4 * i) (by omega); simpa using this
  have e1 : bitZ k (4 * (i : Int) + 1) = (bt k (4 * i + 1) : Nat) := by have := bitZ_nat k (4 * i + 1) (by omega); simpa using this
  have e2 : bitZ k (4 * (i : Int) + 2) = (bt k (4 * i + 2) : Nat) := by have := bitZ_nat k (4 * i + 2) (by omega); simpa using this
  have e3 : bitZ k (4 * (i : Int) + 3) = (bt k (4 * i + 3) : Nat) := by have := bitZ_nat k (4 * i + 3) (by omega); simpa using this
  have hs := step_bits hk i h
  unfold stepZ
  rw [if_pos (by omega), Int.toNat_natCast, hs, e0, e1, e2, e3]
  omega

set_option maxHeartbeats 4000000 in
set_option maxRecDepth 100000 in
theorem walk_nat (k : Nat → Nat) (a b : Nat) (ha : a < 256) (hb' : b < 256) (hk : Bytes16 k) (w : World) :
    Calls Try.prog 6 #[.agg (kc k), .int .u8 a, .int .u8 b] w fun e w' => e = .returned (.bool true) ∧ Below w.heap.size w w' := by
  have rk := rowAt_new w (kc k) 23
  have hb : Below w.heap.size w (w.alloc (.cells (kc k) 23)) := (Below.refl _ _).alloc (Nat.le_refl _) _
  have hz : (w.alloc (.cells (kc k) 23)).heap.size = w.heap.size + 1 := by simp
  obtain ⟨n, hn⟩ : ∃ n, n = a % 130 := ⟨_, rfl⟩
  obtain ⟨m, hm⟩ : ∃ m, m = b % 130 := ⟨_, rfl⟩
  have hn130 : n < 130 := by omega
  have hm130 : m < 130 := by omega
  have en : ((a : Nat) : Int) % 130 = (n : Int) := by omega
  have em : ((b : Nat) : Int) % 130 = (m : Int) := by omega
  clear hn hm
  have C0 := Lib.hid awake_any
  generalize hW : w.alloc (.cells (kc k) 23) = W at *
  have HW := Lib.hid hW
  have HK := Lib.hid (fun (w1 : World) (h : Below W.heap.size W w1) => rk.below h (by omega : w.heap.size < W.heap.size))
  have HZ := Lib.hid hz
  clear hW hz
  go_enter Try.func6, Try.ntmps6
  go_wp2_with fail
  rw [HW.out]
  refine (C0.out _).mono ?_
  rintro e w1 ⟨rfl, h1⟩
  have lk := run_keyLoad (HK.out w1 h1)
  go_wp2_with fail
  simp only [en, em]
  refine (cut_any k n _ hk).mono ?_
  rw [Int.toNat_natCast]
  clear en em lk ha hb'
  rintro e w2 ⟨rfl, h2⟩
  have h2 := h1.trans (h2.mono h1.size)
  clear h1
  obtain ⟨c, hc⟩ : ∃ c, c = cutB k n := ⟨_, rfl⟩
  have hcb : Bytes16 c := by rw [hc]; exact cutB_bytes hk n
  rw [← hc]
  have S : (keyStore ⟨w2.heap.size, 0, none⟩ (.agg (kc c))).run Try.prog (w2.alloc (.cells #[Value.int IntKind.u8 0, Value.int IntKind.u8 0, Value.int IntKind.u8 0, Value.int IntKind.u8 0, Value.int IntKind.u8 0, Value.int IntKind.u8 0, Value.int IntKind.u8 0, Value.int IntKind.u8 0, Value.int IntKind.u8 0, Value.int IntKind.u8 0, Value.int IntKind.u8 0, Value.int IntKind.u8 0, Value.int IntKind.u8 0, Value.int IntKind.u8 0, Value.int IntKind.u8 0, Value.int IntKind.u8 0] 23)) = .ok () (w2.alloc (.cells (kc c) 23)) := by
    rw [run_keyStore (heap_alloc_new _ _) rfl, World.setRow_alloc_new]
  have HC := Lib.hid hc
  have h3 : Below W.heap.size W (w2.alloc (.cells (kc c) 23)) := h2.alloc h2.size _
  have rc := rowAt_new w2 (kc c) 23
  have hz3 : w2.heap.size < (w2.alloc (.cells (kc c) 23)).heap.size := by simp
  have hn3 : w.heap.size < w2.heap.size := by have := h2.size; have := HZ.out; omega
  clear hc h2
  go_wp2
  generalize hW2 : w2.alloc (.cells (kc c) 23) = W2 at *
  generalize hg : w2.heap.size = g at *
  clear S hW2 hg
  have rk2 := HK.out W2 h3
  -- what is known in whatever world may stand behind W2
  have hmn : ∃ mn : Nat, mn = min n m := ⟨_, rfl⟩
  obtain ⟨mn, hmn⟩ := hmn
  have emn : (if m < n then (m : Int) else (n : Int)) = (mn : Int) := by split <;> omega
  have hE : keyEq (cutB c m) (cutB k mn) = true := by rw [HC.out, hmn]; exact cut_cut hk n m
  have hT : min n 128 ≤ com c k := by rw [HC.out]; exact cut_com k n
  have L1 := fun d os => run_keyLoad (rowAt_regrown rk2 d os)
  have L2 := fun d os => run_keyLoad (rowAt_regrown rc d os)
  have C1 := fun d os => Calls.regrown_of (cut_any c m (grow (redrawn W2 d) os) hcb)
  have C2 := fun d os => Calls.regrown_of (cut_any k mn (grow (redrawn W2 d) os) hk)
  have C3 := fun d os => Calls.regrown_of (com_any c k (grow (redrawn W2 d) os) hcb hk)
  simp only [Int.toNat_natCast] at C1 C2
  have E := fun w => run_eqKey_top (cutB c m) (cutB k mn) w
  simp only [hE] at E
  obtain ⟨cm, hcm⟩ : ∃ cm, cm = com c k := ⟨_, rfl⟩
  rw [← hcm] at C3 hT
  clear hmn hE hcm
  have hpart : (n ≤ 128 ∧ decide (cm < n) = false) ∨ (128 < n ∧ decide ((cm : Int) < 128) = false) := by
    by_cases h : n ≤ 128
    · exact .inl ⟨h, by rw [decide_eq_false_iff_not]; omega⟩
    · exact .inr ⟨by omega, by rw [decide_eq_false_iff_not]; omega⟩
  clear hT hn130
  rcases hpart with ⟨hn8, ec⟩ | ⟨hn8, ec⟩
  all_goals
    refine wp_region_quiet_below (by kernel_rfl) (by kernel_rfl) ?_
    repeat (go_big_quiet_step ((with_reducible first | exact C1 _ _ | exact C2 _ _ | exact C3 _ _)))
    refine wpQuiet_nil fun w5 hw5 => ?_
    have h5 : Below W.heap.size W w5 ∧ Below W2.heap.size W2 w5 := by
      obtain ⟨p, rfl⟩ := hw5
      exact ⟨h3.trans ((below_regrown W2 p.d p.os).mono h3.size), below_regrown W2 p.d p.os⟩
    obtain ⟨h5, h52⟩ := h5
    have rc5 := rc.below h52 hz3
    clear hw5 C1 C2 C3 E L1 L2 emn ec h52 h3 rk2
    go_wp2
    go_loopw [10] (fun t wr => ∃ i : Nat, i ≤ 128 ∧ t = .int .i64 i ∧ Below W.heap.size W wr ∧ RowAt wr g 0 (kc c)) (fun t _ => 128 - (intOf t).toNat)
    case atStart => exact ⟨0, Nat.zero_le _, rfl, h5, rc5⟩
    case round =>
      obtain ⟨i, hi, rfl, hwr, rcr⟩ := hrel
      clear rc5 h5 rc
      have rkr := HK.out wr hwr
      have L1 := fun d os => run_keyLoad (rowAt_regrown rkr d os)
      have L2 := fun d os => run_keyLoad (rowAt_regrown rcr d os)
      have fin : ∀ w5, (∃ p : Regrown, w5 = grow (redrawn wr p.d) p.os) → Below W.heap.size W w5 ∧ RowAt w5 g 0 (kc c) := by
        rintro w5 ⟨p, rfl⟩
        exact ⟨hwr.trans ((below_regrown wr p.d p.os).mono hwr.size), rowAt_regrown rcr _ _⟩
      have HF := Lib.hid fin
      clear fin rkr
      by_cases hlt : i < 128
      · have hlt' : (i : Int) < 128 := by omega
        have C1 := fun d os => Calls.regrown_of (bit_any c i (grow (redrawn wr d) os) hcb)
        have C2 := fun d os => Calls.regrown_of (bit_any k i (grow (redrawn wr d) os) hk)
        by_cases hin : i < n
        · have e1 : bitZ c i = bitZ k i := by rw [bitZ_nat _ _ hlt, bitZ_nat _ _ hlt, HC.out, bt_cut, if_pos hin]
          have d1 : decide ((i : Int) < (n : Int)) = true := by rw [decide_eq_true_iff]; omega
          have d2 : decide ((n : Int) ≤ (i : Int)) = false := by rw [decide_eq_false_iff_not]; omega
          have d3 : decide (i < n) = true := by rw [decide_eq_true_iff]; omega
          have d4 : decide (n ≤ i) = false := by rw [decide_eq_false_iff_not]; omega
          rw [e1] at C1
          clear hin e1
          go_wp2
          refine wp_region_quiet_below (by kernel_rfl) (by kernel_rfl) ?_
          repeat (go_big_quiet_step ((with_reducible first | exact C1 _ _ | exact C2 _ _)))
          refine wpQuiet_nil fun w5 hw5 => ?_
          have hb5 := HF.out w5 hw5
          clear hw5 C1 C2 L1 L2 d1 d2 d3 d4
          go_wp2
          go_roundw
          case rel => exact ⟨i + 1, by omega, by go_num, hb5⟩
          case measure => simp [intOf]; omega
        · have e1 : bitZ c i = 0 := by rw [bitZ_nat _ _ hlt, HC.out, bt_cut, if_neg hin]; rfl
          have d1 : decide ((i : Int) < (n : Int)) = false := by rw [decide_eq_false_iff_not]; omega
          have d2 : decide ((n : Int) ≤ (i : Int)) = true := by rw [decide_eq_true_iff]; omega
          have d3 : decide (i < n) = false := by rw [decide_eq_false_iff_not]; omega
          have d4 : decide (n ≤ i) = true := by rw [decide_eq_true_iff]; omega
          rw [e1] at C1
          clear hin e1
          go_wp2
          refine wp_region_quiet_below (by kernel_rfl) (by kernel_rfl) ?_
          repeat (go_big_quiet_step ((with_reducible first | exact C1 _ _ | exact C2 _ _)))
          refine wpQuiet_nil fun w5 hw5 => ?_
          have hb5 := HF.out w5 hw5
          clear hw5 C1 C2 L1 L2 d1 d2 d3 d4
          go_wp2
          go_roundw
          case rel => exact ⟨i + 1, by omega, by go_num, hb5⟩
          case measure => simp [intOf]; omega
      · obtain rfl : i = 128 := by omega
        clear L1 L2 HF rcr hlt hi
        go_wp2
        go_loopw [11] (fun t wr => ∃ i : Nat, i ≤ 32 ∧ t = .int .i64 i ∧ Below W.heap.size W wr) (fun t _ => 32 - (intOf t).toNat)
        case atStart => exact ⟨0, Nat.zero_le _, rfl, hwr⟩
        case round =>
          clear hwr
          obtain ⟨i, hi, rfl, hwr⟩ := hrel
          have rkr := HK.out wr hwr
          have L1 := fun d os => run_keyLoad (rowAt_regrown rkr d os)
          have fin : ∀ w5, (∃ p : Regrown, w5 = grow (redrawn wr p.d) p.os) → Below W.heap.size W w5 := by
            rintro w5 ⟨p, rfl⟩
            exact hwr.trans ((below_regrown wr p.d p.os).mono hwr.size)
          have HF := Lib.hid fin
          clear fin rkr
          by_cases hlt : i < 32
          · have hlt' : (i : Int) < 32 := by omega
            have hs := stepZ_bits hk i hlt
            have r0 := bitZ_range k (4 * (i : Int))
            have r1 := bitZ_range k (4 * (i : Int) + 1)
            have r2 := bitZ_range k (4 * (i : Int) + 2)
            have r3 := bitZ_range k (4 * (i : Int) + 3)
            have C0 := fun d os => Calls.regrown_of (step_any k i (grow (redrawn wr d) os) hk)
            have C1 := fun d os => Calls.regrown_of (bit_any k (4 * (i : Int)) (grow (redrawn wr d) os) hk)
            have C2 := fun d os => Calls.regrown_of (bit_any k (4 * (i : Int) + 1) (grow (redrawn wr d) os) hk)
            have C3 := fun d os => Calls.regrown_of (bit_any k (4 * (i : Int) + 2) (grow (redrawn wr d) os) hk)
            have C4 := fun d os => Calls.regrown_of (bit_any k (4 * (i : Int) + 3) (grow (redrawn wr d) os) hk)
            rw [hs] at C0
            clear hs
            generalize bitZ k (4 * (i : Int)) = b0 at *
            generalize bitZ k (4 * (i : Int) + 1) = b1 at *
            generalize bitZ k (4 * (i : Int) + 2) = b2 at *
            generalize bitZ k (4 * (i : Int) + 3) = b3 at *
            obtain ⟨p0, q0⟩ := r0
            obtain ⟨p1, q1⟩ := r1
            obtain ⟨p2, q2⟩ := r2
            obtain ⟨p3, q3⟩ := r3
            go_wp2
            refine wp_region_quiet_below (by kernel_rfl) (by kernel_rfl) ?_
            repeat (go_big_quiet_step ((with_reducible first | exact C0 _ _ | exact C1 _ _ | exact C2 _ _ | exact C3 _ _ | exact C4 _ _)))
            refine wpQuiet_nil fun w5 hw5 => ?_
            have hb5 := HF.out w5 hw5
            clear hw5 C0 C1 C2 C3 C4 L1 p0 p1 p2 p3 q0 q1 q2 q3
            go_wp2
            go_roundw
            case rel => exact ⟨i + 1, by omega, by go_num, hb5⟩
            case measure => simp [intOf]; omega
          · obtain rfl : i = 32 := by omega
            clear L1 HF hlt hi
            go_wp2
            go_ret
            exact ⟨rfl, hb.trans (hwr.mono hb.size)⟩

theorem walk (k : Nat → Nat) (a b : Int) (hk : Bytes16 k) (ha : (Lit.int .u8 a).wf = true) (hb : (Lit.int .u8 b).wf = true) (w : World) :
    Calls Try.prog 6 #[.agg (kc k), .int .u8 a, .int .u8 b] w fun e w' => e = .returned (.bool true) ∧ Below w.heap.size w w' := by
  have h1 := bounds_u8 ha
  have h2 := bounds_u8 hb
  obtain ⟨x, rfl⟩ := Int.eq_ofNat_of_zero_le h1.1
  obtain ⟨y, rfl⟩ := Int.eq_ofNat_of_zero_le h2.1
  exact walk_nat k x y (by omega) (by omega) hk w
end keyCuts
end Go.Proofs.Ytpjmhdolmemmlaa
