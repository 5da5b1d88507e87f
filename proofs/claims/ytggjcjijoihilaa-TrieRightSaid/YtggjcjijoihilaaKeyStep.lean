/- key.Step: what it hands back; of what was there nothing has turned. -/
import Derived.Test.YtggjcjijoihilaaKeyBase
namespace Go.Proofs.Ytggjcjijoihilaa
open Go.RowKit Go.Sort
attribute [local go_sem ↓] loadVar_key loadVar_pre

set_option maxHeartbeats 400000 in
set_option maxRecDepth 100000 in
theorem step_in (k : Nat → Nat) (n : Nat) (hn : n < 32) (w : World) (hk : Bytes16 k) :
    Calls Try.prog 61 #[.agg (kc k), .int .i64 n] w fun e w' => e = .returned (.int .i64 (stepZ k n)) ∧ Below w.heap.size w w' := by
  have h1 : (n : Int) < 32 := by omega
  have h2 : (0 : Int) ≤ n := by omega
  have hx := kc_at k (n/2) (by omega)
  have hl := hk (n / 2)
  by_cases he : n % 2 = 0
  · have hs : stepZ k n = ((k (n / 2) : Nat) : Int) / 16 := by unfold stepZ; rw [if_pos (by omega), Int.toNat_natCast, if_pos he]; simp
    have HS : Hid _ := hs
    have e1 : ((n : Int) % 2 == 0) = true := by rw [beq_iff_eq]; omega
    clear hs he
    go_enter Try.func61, Try.ntmps61
    go_wp2
    go_ret
    exact ⟨ret_int HS.out.symm, (Below.refl _ _).alloc (Nat.le_refl _) _⟩
  · have hs : stepZ k n = ((k (n / 2) : Nat) : Int) % 16 := by unfold stepZ; rw [if_pos (by omega), Int.toNat_natCast, if_neg he]; simp
    have HS : Hid _ := hs
    have e1 : ((n : Int) % 2 == 0) = false := by rw [beq_eq_false_iff_ne]; omega
    clear hs he
    go_enter Try.func61, Try.ntmps61
    go_wp2
    go_ret
    exact ⟨ret_int HS.out.symm, (Below.refl _ _).alloc (Nat.le_refl _) _⟩

set_option maxHeartbeats 400000 in
set_option maxRecDepth 100000 in
theorem step_out (k : Nat → Nat) (n : Int) (hn : n < 0 ∨ 32 ≤ n) (w : World) :
    Calls Try.prog 61 #[.agg (kc k), .int .i64 n] w fun e w' => e = .returned (.int .i64 0) ∧ Below w.heap.size w w' := by
  rcases hn with hn | hn
  · go_enter Try.func61, Try.ntmps61
    go_wp2
    go_ret
    exact ⟨rfl, (Below.refl _ _).alloc (Nat.le_refl _) _⟩
  · have h0 : ¬ n < 0 := by omega
    go_enter Try.func61, Try.ntmps61
    go_wp2
    go_ret
    exact ⟨rfl, (Below.refl _ _).alloc (Nat.le_refl _) _⟩

theorem step_any (k : Nat → Nat) (n : Int) (w : World) (hk : Bytes16 k) :
    Calls Try.prog 61 #[.agg (kc k), .int .i64 n] w fun e w' => e = .returned (.int .i64 (stepZ k n)) ∧ Below w.heap.size w w' := by
  by_cases h : 0 ≤ n ∧ n < 32
  · obtain ⟨m, rfl⟩ := Int.eq_ofNat_of_zero_le h.1
    exact step_in k m (by omega) w hk
  · rw [show stepZ k n = 0 by unfold stepZ; rw [if_neg h]]
    exact step_out k n (by omega) w

end Go.Proofs.Ytggjcjijoihilaa
