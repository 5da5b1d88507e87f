/- chip.within, shaped, asked: what each hands back. -/
import Derived.Test.YtilgppijmkcomaaChipMem
namespace Go.Proofs.Ytilgppijmkcomaa.Chip
open Go.RowKit Go.Sort

set_option maxHeartbeats 1000000 in
theorem within_any (n lo hi : Int) (w : World) :
    Calls Try.prog 25 #[.int .i64 n, .int .i64 lo, .int .i64 hi] w fun e w' => e = .returned (.bool (withinB n lo hi)) ∧ w = w' := by
  unfold withinB
  by_cases h1 : lo ≤ n
  · by_cases h2 : n ≤ hi
    all_goals
      go_enter Try.func25, Try.ntmps25
      go_wp2
      go_ret
      exact ⟨by simp [h1, h2], rfl⟩
  · go_enter Try.func25, Try.ntmps25
    go_wp2
    go_ret
    exact ⟨by rw [show decide (lo ≤ n) = false from decide_eq_false (by omega)]; rfl, rfl⟩

set_option maxHeartbeats 1000000 in
theorem shaped_any (b p s : Int) (w : World) :
    Calls Try.prog 16 #[.int .i64 b, .int .i64 p, .int .i64 s] w fun e w' => e = .returned (.bool (shapedB b p s)) ∧ w = w' := by
  unfold shapedB
  have C1 := within_any b 1 32
  have C2 := within_any p 1 16
  have C3 := within_any s 1 256
  cases h1 : withinB b 1 32 with
  | false =>
    rw [h1] at C1
    have D1 := Lib.hid C1
    clear C1 C2 C3 h1
    go_enter Try.func16, Try.ntmps16
    go_wp2_with (go_at_call 25; with_reducible refine (D1.out _).mono ?_; rintro e w' ⟨rfl, rfl⟩)
    go_ret
    exact ⟨rfl, rfl⟩
  | true =>
    rw [h1] at C1
    have D1 := Lib.hid C1
    clear C1 h1
    cases h2 : withinB p 1 16 with
    | false =>
      rw [h2] at C2
      have D2 := Lib.hid C2
      clear C2 C3 h2
      go_enter Try.func16, Try.ntmps16
      go_wp2_with (go_at_call 25; (first | (with_reducible refine (D1.out _).mono ?_) | (with_reducible refine (D2.out _).mono ?_)); rintro e w' ⟨rfl, rfl⟩)
      go_ret
      exact ⟨rfl, rfl⟩
    | true =>
      rw [h2] at C2
      have D2 := Lib.hid C2
      have D3 := Lib.hid C3
      clear C2 C3 h2
      go_enter Try.func16, Try.ntmps16
      go_wp2_with (go_at_call 25; (first | (with_reducible refine (D1.out _).mono ?_) | (with_reducible refine (D2.out _).mono ?_) | (with_reducible refine (D3.out _).mono ?_)); rintro e w' ⟨rfl, rfl⟩)
      go_ret
      exact ⟨rfl, rfl⟩

set_option maxHeartbeats 1000000 in
theorem asked_any (c : Chp) (vb vf : Value) (may : Bool) (w : World) :
    Calls Try.prog 20 #[chipV c vb vf, .bool may] w fun e w' => e = .returned (.int .i64 (askedN c.off may)) ∧ Below w.heap.size w w' := by
  obtain ⟨pages, size, blocks, ops, off, faults⟩ := c
  unfold chipV askedN
  cases may <;> cases off
  all_goals
    go_enter Try.func20, Try.ntmps20
    go_wp2
    go_ret
    exact ⟨rfl, (Below.refl _ _).alloc (Nat.le_refl _) _⟩
end Go.Proofs.Ytilgppijmkcomaa.Chip
