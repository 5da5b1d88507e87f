/- The document's own Cut of layer 1 hands back what the program's does. -/
import Derived.Test.YtggjcjijoihilaaRefBit
import Derived.Test.YtggjcjijoihilaaKeyEnds
namespace Go.Proofs.Ytggjcjijoihilaa
open Go.RowKit Go.Sort
attribute [local go_sem ↓] loadVar_key loadVar_pre storeVar_key

theorem cutB_next {k : Nat → Nat} (hk : Bytes16 k) (i : Nat) : cutB k (i + 1) (i / 8) = cutB k i (i / 8) + bt k i * (128 / 2 ^ (i % 8)) := by
  have hx := hk (i / 8)
  have hr : i % 8 = 0 ∨ i % 8 = 1 ∨ i % 8 = 2 ∨ i % 8 = 3 ∨ i % 8 = 4 ∨ i % 8 = 5 ∨ i % 8 = 6 ∨ i % 8 = 7 := by omega
  unfold cutB bt
  generalize hq : k (i / 8) = x at *
  clear hq
  rcases hr with h | h | h | h | h | h | h | h
  · rw [h, if_neg (by omega), if_neg (by omega), if_neg (by omega), if_pos (by omega), show 8 * (i / 8) + 8 - (i + 1) = 7 by omega]; simp; omega
  · rw [h, if_neg (by omega), if_neg (by omega), if_neg (by omega), if_neg (by omega), show 8 * (i / 8) + 8 - (i + 1) = 6 by omega, show 8 * (i / 8) + 8 - i = 7 by omega]; simp; omega
  · rw [h, if_neg (by omega), if_neg (by omega), if_neg (by omega), if_neg (by omega), show 8 * (i / 8) + 8 - (i + 1) = 5 by omega, show 8 * (i / 8) + 8 - i = 6 by omega]; simp; omega
  · rw [h, if_neg (by omega), if_neg (by omega), if_neg (by omega), if_neg (by omega), show 8 * (i / 8) + 8 - (i + 1) = 4 by omega, show 8 * (i / 8) + 8 - i = 5 by omega]; simp; omega
  · rw [h, if_neg (by omega), if_neg (by omega), if_neg (by omega), if_neg (by omega), show 8 * (i / 8) + 8 - (i + 1) = 3 by omega, show 8 * (i / 8) + 8 - i = 4 by omega]; simp; omega
  · rw [h, if_neg (by omega), if_neg (by omega), if_neg (by omega), if_neg (by omega), show 8 * (i / 8) + 8 - (i + 1) = 2 by omega, show 8 * (i / 8) + 8 - i = 3 by omega]; simp; omega
  · rw [h, if_neg (by omega), if_neg (by omega), if_neg (by omega), if_neg (by omega), show 8 * (i / 8) + 8 - (i + 1) = 1 by omega, show 8 * (i / 8) + 8 - i = 2 by omega]; simp; omega
  · rw [h, if_pos (by omega), if_neg (by omega), if_neg (by omega), show 8 * (i / 8) + 8 - i = 1 by omega]; simp; omega

theorem cutB_else (k : Nat → Nat) (i j : Nat) (h : j ≠ i / 8) : cutB k (i + 1) j = cutB k i j := by
  unfold cutB
  by_cases h1 : 8 * j + 8 ≤ i
  · rw [if_pos (by omega), if_pos h1]
  · rw [if_neg (by omega), if_neg h1, if_pos (by omega), if_pos (by omega)]

/-- What is known at the head of a round. -/
structure CutInv (w wr : World) (k : Nat → Nat) (i : Nat) : Prop where
  below : Below w.heap.size w wr
  size : w.heap.size + 3 ≤ wr.heap.size
  b0 : wr.heap[w.heap.size]? = some (.cells (kc k) 24 (0, 0))
  b1 : wr.heap[w.heap.size + 1]? = some (.cells (kc zkey) 24 (0, 0))
  b2 : wr.heap[w.heap.size + 1 + 1]? = some (.cells (kc (cutB k i)) 24 (0, 0))

theorem CutInv.later {w wr w1 : World} {k : Nat → Nat} {i : Nat} (h : CutInv w wr k i) (hb : Below wr.heap.size wr w1) : CutInv w w1 k i :=
  ⟨h.below.trans (hb.mono h.below.size), Nat.le_trans h.size hb.size, by rw [hb.block _ (by have := h.size; omega)]; exact h.b0, by rw [hb.block _ (by have := h.size; omega)]; exact h.b1, by rw [hb.block _ (by have := h.size; omega)]; exact h.b2⟩

theorem CutInv.same {w wr : World} {k : Nat → Nat} {i : Nat} (h : CutInv w wr k i) (hk : Bytes16 k) (h0 : bt k i = 0) : CutInv w wr k (i + 1) := by
  refine ⟨h.below, h.size, h.b0, h.b1, ?_⟩
  rw [h.b2, kc_ext (a := cutB k (i + 1)) (b := cutB k i) fun j _ => ?_]
  by_cases e : j = i / 8
  · rw [e, cutB_next hk, h0]; simp
  · exact cutB_else k i j e

theorem CutInv.set {w wr : World} {k : Nat → Nat} {i x y : Nat} (h : CutInv w wr k i) (hk : Bytes16 k) (h1 : bt k i = 1) (hx : x = cutB k i (i / 8)) (hy : y = 128 / 2 ^ (i % 8)) :
    CutInv w (wr.setCell ⟨w.heap.size + 1 + 1, i / 8, none⟩ (.int .u8 ((x : Int) + (y : Int)))) k (i + 1) := by
  refine ⟨h.below.setCell (by simp; omega) _, by simpa using h.size, by rw [heap_setCell_other _ _ _ _ (by simp; omega)]; exact h.b0, by rw [heap_setCell_other _ _ _ _ (by simp)]; exact h.b1, ?_⟩
  rw [heap_setCell_same wr _ _ _ _ _ h.b2, show ((x : Int) + (y : Int)) = ((x + y : Nat) : Int) by omega, kc_set, kc_ext fun j _ => ?_]
  by_cases e : j = i / 8
  · rw [if_pos e, e, cutB_next hk, h1, hx, hy]; simp
  · rw [if_neg e, cutB_else k i j e]

theorem cutB_bound {k : Nat → Nat} (hk : Bytes16 k) (i : Nat) (h1 : bt k i = 1) : cutB k i (i / 8) + 128 / 2 ^ (i % 8) < 256 := by
  have h := cutB_next hk i
  have hb := cutB_bytes hk (i + 1) (i / 8)
  rw [h1] at h
  omega

set_option maxHeartbeats 2000000 in
set_option maxRecDepth 100000 in
theorem rcut_any (k : Nat → Nat) (n : Int) (w : World) (hk : Bytes16 k) :
    Calls Try.prog 75 #[.agg (kc k), .int .i64 n] w fun e w' => e = .returned (.agg (kc (cutB k n.toNat))) ∧ Below w.heap.size w w' := by
  have hz : (#[Value.int IntKind.u8 0, Value.int IntKind.u8 0, Value.int IntKind.u8 0, Value.int IntKind.u8 0,
          Value.int IntKind.u8 0, Value.int IntKind.u8 0, Value.int IntKind.u8 0, Value.int IntKind.u8 0,
          Value.int IntKind.u8 0, Value.int IntKind.u8 0, Value.int IntKind.u8 0, Value.int IntKind.u8 0,
          Value.int IntKind.u8 0, Value.int IntKind.u8 0, Value.int IntKind.u8 0, Value.int IntKind.u8 0] : Array Value) = kc zkey := rfl
  have inv : CutInv w (((w.alloc (.cells (kc k) 24)).alloc (.cells (kc zkey) 24)).alloc (.cells (kc zkey) 24)) k 0 := by
    refine ⟨(((Below.refl _ _).alloc (Nat.le_refl _) _).alloc (by simp) _).alloc (by simp; omega) _, by simp, ?_, ?_, ?_⟩
    · rw [heap_alloc_old _ _ (by simp; omega), heap_alloc_old _ _ (by simp), heap_alloc_new]
    · rw [heap_alloc_old _ _ (by simp), heap_alloc2_new]
    · have := heap_alloc2_new (w.alloc (.cells (kc k) 24)) (.cells (kc zkey) 24) (.cells (kc zkey) 24)
      rw [kc_ext (a := cutB k 0) (b := zkey) fun j _ => by unfold cutB; rw [if_neg (by omega), if_pos (by omega)]; rfl]
      simpa using this
  go_enter Try.func75, Try.ntmps75
  go_wp2
  generalize ((w.alloc (.cells (kc k) 24)).alloc (.cells (kc zkey) 24)).alloc (.cells (kc zkey) 24) = W at *
  clear hz
  go_loopw [6] (fun t wr => ∃ i : Nat, i ≤ 128 ∧ i ≤ n.toNat ∧ t = .int .i64 i ∧ CutInv w wr k i) (fun t _ => 128 - (intOf t).toNat)
  case atStart => exact ⟨0, Nat.zero_le _, Nat.zero_le _, rfl, inv⟩
  case round =>
    clear inv
    obtain ⟨i, hi, hin, rfl, inv⟩ := hrel
    by_cases hlt : i < 128 ∧ (i : Int) < n
    · obtain ⟨hlt, hn⟩ := hlt
      have hlt' : (i : Int) < 128 := by omega
      obtain ⟨r, hr⟩ : ∃ r, r = i % 8 := ⟨_, rfl⟩
      have er : (i : Int) % 8 = (r : Int) := by omega
      have hr8 : r < 8 := by omega
      have HR := Lib.hid hr
      clear hr
      go_wp2
      go_loop [7, 8] (fun v t => ∃ j : Nat, j ≤ r ∧ t = .int .i64 j ∧ v = .int .i64 ((128 / 2 ^ j : Nat) : Int)) (fun _ t => r - (intOf t).toNat)
      case atStart => exact ⟨0, Nat.zero_le _, rfl, rfl⟩
      case round =>
        obtain ⟨j, hj, rfl, rfl⟩ := hrel
        obtain ⟨y, hy⟩ : ∃ y, y = 128 / 2 ^ j := ⟨_, rfl⟩
        have hy128 : y ≤ 128 := by rw [hy]; exact Nat.div_le_self _ _
        rw [← hy]
        have HY := Lib.hid hy
        have hy2 : (y : Int) ≤ 128 := by omega
        clear hy
        by_cases hjr : j < r
        · have hjr' : (j : Int) < (r : Int) := by omega
          go_wp2
          go_round
          case rel => exact ⟨j + 1, by omega, by go_num, by rw [← half_pow, ← HY.out]; simp⟩
          case measure => simp [intOf]; omega
        · obtain rfl : j = r := by omega
          have L1 := run_keyLoad (b := w.heap.size) (off := 0) (k := k) (w := wr) (fun j v hj => by rw [cell_of_row _ _ _ _ _ _ inv.b0]; simpa using hj)
          have C1 := rbit_any k i wr hk
          rw [bitZ_at _ _ hlt] at C1
          by_cases hbit : bt k i = 1
          · rw [hbit] at C1
            have HC := Lib.hid C1
            have HB := Lib.hid hbit
            clear C1 hbit hjr
            go_wp2_with fail
            refine HC.out.mono ?_
            rintro e w1 ⟨rfl, h1⟩
            have inv1 := inv.later h1
            obtain ⟨x, hx⟩ : ∃ x, x = cutB k i (i / 8) := ⟨_, rfl⟩
            have hxy := cutB_bound hk i HB.out
            rw [← hx, ← HR.out, ← HY.out] at hxy
            have hxy2 : (x : Int) + (y : Int) ≤ 255 := by omega
            have c2 : w1.cell? ⟨w.heap.size + 1 + 1, i / 8, none⟩ = some (.int .u8 (x : Int)) := by rw [cell_of_row w1 _ _ _ _ _ inv1.b2, kc_at _ _ (by omega), hx]
            have f2 : w1.frozen? ⟨w.heap.size + 1 + 1, i / 8, none⟩ = false := frozen_of_row w1 _ _ _ _ inv1.b2
            have inv2 := inv1.set (y := y) hk HB.out hx (by rw [HY.out, HR.out])
            clear hx hxy L1 inv inv1
            go_wp2
            go_roundw
            case rel => exact ⟨i + 1, by omega, by omega, by go_num, inv2⟩
            case measure => simp [intOf]; omega
          · have h0 : bt k i = 0 := by have := bt_lt k i; omega
            rw [h0] at C1
            have HC := Lib.hid C1
            clear C1 hbit hjr
            go_wp2_with fail
            refine HC.out.mono ?_
            rintro e w1 ⟨rfl, h1⟩
            have inv1 := (inv.later h1).same hk h0
            clear h0 inv L1
            go_wp2
            go_roundw
            case rel => exact ⟨i + 1, by omega, by omega, by go_num, inv1⟩
            case measure => simp [intOf]; omega
    · have L1 := run_keyLoad (b := w.heap.size + 1 + 1) (off := 0) (k := cutB k i) (w := wr) (fun j v hj => by rw [cell_of_row _ _ _ _ _ _ inv.b2]; simpa using hj)
      have S := run_keyStore (k := cutB k i) inv.b1 (kc_size _)
      have m3 := setRow_heap _ _ (kc zkey) (kc (cutB k i)) _ _ inv.b1
      have hb3 := below_setRow inv.below (Nat.le_succ w.heap.size) (kc (cutB k i))
      have hsame : kc (cutB k i) = kc (cutB k n.toNat) := kc_ext fun j hj => by
        by_cases h : i = n.toNat
        · rw [h]
        · have e : i = 128 := by omega
          unfold cutB
          rw [if_pos (by omega), if_pos (by omega)]
      have HS := Lib.hid hsame
      clear hsame inv
      by_cases h128 : i < 128
      · have hn : ¬ (i : Int) < n := by omega
        have hlt' : (i : Int) < 128 := by omega
        clear hlt
        go_wp2
        refine bodyPost_ret (v := .agg (kc (cutB k i))) (results_cell_row rfl _ _ (w.heap.size + 1) 24 (kc (cutB k i)) (0, 0) _ rfl m3 Try.underlying24 rfl (by rw [kc_size]; exact infoKey)) rfl ⟨by rw [HS.out], hb3⟩
      · have hlt' : ¬ (i : Int) < 128 := by omega
        clear hlt
        go_wp2
        refine bodyPost_ret (v := .agg (kc (cutB k i))) (results_cell_row rfl _ _ (w.heap.size + 1) 24 (kc (cutB k i)) (0, 0) _ rfl m3 Try.underlying24 rfl (by rw [kc_size]; exact infoKey)) rfl ⟨by rw [HS.out], hb3⟩

end Go.Proofs.Ytggjcjijoihilaa
