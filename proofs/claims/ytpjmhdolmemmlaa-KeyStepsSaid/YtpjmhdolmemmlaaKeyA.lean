/- key.Bit and key.Step: what each call hands back; of what was there nothing has turned. -/
import Derived.Test.YtpjmhdolmemmlaaKeyEq
namespace Go.Proofs.Ytpjmhdolmemmlaa
open Go.RowKit Go.Sort
attribute [local go_sem ↓] loadVar_key loadVar_pre

theorem ret_int {k : IntKind} {a b : Int} (h : a = b) : Ending.returned (.int k a) = .returned (.int k b) := by rw [h]

theorem and_one (x c : Nat) (hx : x < 256) : bits BinOp.and IntKind.i64 (wrap64 ((x : Int) / 2 ^ c)) 1 = ((x / 2 ^ c % 2 : Nat) : Int) := by
  have e : (x : Int) / 2 ^ c = ((x / 2 ^ c : Nat) : Int) := by simp
  have hl : x / 2 ^ c ≤ x := Nat.div_le_self _ _
  rw [e]
  generalize x / 2 ^ c = y at *
  rw [IntWalk.wrap64_in _ (by constructor <;> omega)]
  have := bits_mask .i64 8 (by decide) (fun n h0 h1 => by rw [IntKind.wrap_i64]; omega) 1 (by decide) (y : Int) (by omega) (by omega)
  simpa using this

set_option maxHeartbeats 400000 in
set_option maxRecDepth 100000 in
theorem bit_in (k : Nat → Nat) (n : Nat) (hn : n < 128) (w : World) (hk : Bytes16 k) :
    Calls Try.prog 9 #[.agg (kc k), .int .i64 n] w fun e w' => e = .returned (.int .i64 (bitZ k n)) ∧ Below w.heap.size w w' := by
  have h1 : (n : Int) < 128 := by omega
  have h2 : (0 : Int) ≤ n := by omega
  have hx := kc_at k (n/8) (by omega)
  have hl := hk (n / 8)
  have hfin : bits BinOp.and IntKind.i64 (wrap64 (↑(k (n / 8)) / 2 ^ (7 - n % 8))) 1 = bitZ k n := by
    rw [and_one _ _ hl]; unfold bitZ bt; rw [if_pos (by omega)]; simp
  have HF : Hid _ := hfin
  clear hfin
  go_enter Try.func9, Try.ntmps9
  go_wp2
  go_ret
  exact ⟨ret_int HF.out, (Below.refl _ _).alloc (Nat.le_refl _) _⟩

set_option maxHeartbeats 400000 in
set_option maxRecDepth 100000 in
theorem bit_out (k : Nat → Nat) (n : Int) (hn : n < 0 ∨ 128 ≤ n) (w : World) :
    Calls Try.prog 9 #[.agg (kc k), .int .i64 n] w fun e w' => e = .returned (.int .i64 0) ∧ Below w.heap.size w w' := by
  rcases hn with hn | hn
  · go_enter Try.func9, Try.ntmps9
    go_wp2
    go_ret
    exact ⟨rfl, (Below.refl _ _).alloc (Nat.le_refl _) _⟩
  · have h0 : ¬ n < 0 := by omega
    go_enter Try.func9, Try.ntmps9
    go_wp2
    go_ret
    exact ⟨rfl, (Below.refl _ _).alloc (Nat.le_refl _) _⟩

theorem bit_any (k : Nat → Nat) (n : Int) (w : World) (hk : Bytes16 k) :
    Calls Try.prog 9 #[.agg (kc k), .int .i64 n] w fun e w' => e = .returned (.int .i64 (bitZ k n)) ∧ Below w.heap.size w w' := by
  by_cases h : 0 ≤ n ∧ n < 128
  · obtain ⟨m, rfl⟩ := Int.eq_ofNat_of_zero_le h.1
    exact bit_in k m (by omega) w hk
  · rw [show bitZ k n = 0 by unfold bitZ; rw [if_neg h]]
    exact bit_out k n (by omega) w

set_option maxHeartbeats 400000 in
set_option maxRecDepth 100000 in
theorem step_in (k : Nat → Nat) (n : Nat) (hn : n < 32) (w : World) (hk : Bytes16 k) :
    Calls Try.prog 15 #[.agg (kc k), .int .i64 n] w fun e w' => e = .returned (.int .i64 (stepZ k n)) ∧ Below w.heap.size w w' := by
  have h1 : (n : Int) < 32 := by omega
  have h2 : (0 : Int) ≤ n := by omega
  have hx := kc_at k (n/2) (by omega)
  have hl := hk (n / 2)
  by_cases he : n % 2 = 0
  · have hs : stepZ k n = ((k (n / 2) : Nat) : Int) / 16 := by unfold stepZ; rw [if_pos (by omega), Int.toNat_natCast, if_pos he]; simp
    have HS : Hid _ := hs
    have e1 : ((n : Int) % 2 == 0) = true := by rw [beq_iff_eq]; omega
    clear hs he
    go_enter Try.func15, Try.ntmps15
    go_wp2
    go_ret
    exact ⟨ret_int HS.out.symm, (Below.refl _ _).alloc (Nat.le_refl _) _⟩
  · have hs : stepZ k n = ((k (n / 2) : Nat) : Int) % 16 := by unfold stepZ; rw [if_pos (by omega), Int.toNat_natCast, if_neg he]; simp
    have HS : Hid _ := hs
    have e1 : ((n : Int) % 2 == 0) = false := by rw [beq_eq_false_iff_ne]; omega
    clear hs he
    go_enter Try.func15, Try.ntmps15
    go_wp2
    go_ret
    exact ⟨ret_int HS.out.symm, (Below.refl _ _).alloc (Nat.le_refl _) _⟩

set_option maxHeartbeats 400000 in
set_option maxRecDepth 100000 in
theorem step_out (k : Nat → Nat) (n : Int) (hn : n < 0 ∨ 32 ≤ n) (w : World) :
    Calls Try.prog 15 #[.agg (kc k), .int .i64 n] w fun e w' => e = .returned (.int .i64 0) ∧ Below w.heap.size w w' := by
  rcases hn with hn | hn
  · go_enter Try.func15, Try.ntmps15
    go_wp2
    go_ret
    exact ⟨rfl, (Below.refl _ _).alloc (Nat.le_refl _) _⟩
  · have h0 : ¬ n < 0 := by omega
    go_enter Try.func15, Try.ntmps15
    go_wp2
    go_ret
    exact ⟨rfl, (Below.refl _ _).alloc (Nat.le_refl _) _⟩

theorem step_any (k : Nat → Nat) (n : Int) (w : World) (hk : Bytes16 k) :
    Calls Try.prog 15 #[.agg (kc k), .int .i64 n] w fun e w' => e = .returned (.int .i64 (stepZ k n)) ∧ Below w.heap.size w w' := by
  by_cases h : 0 ≤ n ∧ n < 32
  · obtain ⟨m, rfl⟩ := Int.eq_ofNat_of_zero_le h.1
    exact step_in k m (by omega) w hk
  · rw [show stepZ k n = 0 by unfold stepZ; rw [if_neg h]]
    exact step_out k n (by omega) w

end Go.Proofs.Ytpjmhdolmemmlaa
