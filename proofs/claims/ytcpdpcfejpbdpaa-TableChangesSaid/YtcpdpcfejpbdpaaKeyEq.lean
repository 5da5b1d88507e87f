/- Whether two keys, or two prefixes, are the same, as the program asks it. -/
import Derived.Test.YtcpdpcfejpbdpaaKeyBase
namespace Go.Proofs.Ytcpdpcfejpbdpaa
open Go.RowKit Go.Sort

theorem eqItems_keys (d : Nat) (a b : Nat → Nat) (w : World) : ∀ is : List Nat, (∀ i, i ∈ is → i < 16) →
    (Op.eqItems (d + 1) 5 1 (kc a) (kc b) is).run Try.prog w = .ok (is.all fun i => a i == b i) w
  | [], _ => by simp [Op.eqItems]
  | i :: is, h => by
    have hp : ∀ k : Nat → Nat, (part 5 (kc k) (i * 1)).run Try.prog w = .ok (.int .u8 (k i : Nat)) w := fun k => by
      have := kc_at k i (h i (by simp))
      simp [part, isAgg, go_sem, this]
    have he : (Op.equalIn (d + 1) 5 (.int .u8 (a i : Nat)) (.int .u8 (b i : Nat))).run Try.prog w = .ok (((a i : Nat) : Int) == ((b i : Nat) : Int)) w := run_equalIn_int w d 5 .u8 .u8 _ _ Try.underlying5
    have ih := eqItems_keys d a b w is fun j hj => h j (by simp [hj])
    simp only [Op.eqItems, Sem.run_bind, hp, Result.andThen_ok, he]
    by_cases e : a i = b i
    · simp [e, ih]
    · have e2 : (((a i : Nat) : Int) == ((b i : Nat) : Int)) = false := by rw [beq_eq_false_iff_ne]; omega
      have e3 : (a i == b i) = false := by simpa using e
      rw [e2]; simp [e3]

theorem infoByte : ∃ i, Try.prog.info? 5 = some i ∧ Try.prog.cellsOf 5 = 1 := by
  have h : (Try.prog.info? 5).isSome = true := by kernel_rfl
  obtain ⟨i, hi⟩ := Option.isSome_iff_exists.1 h
  exact ⟨i, hi, by kernel_rfl⟩

theorem run_eqKey (d : Nat) (a b : Nat → Nat) (w : World) : (Op.equalIn (d + 2) 24 (.agg (kc a)) (.agg (kc b))).run Try.prog w = .ok (keyEq a b) w := by
  obtain ⟨i, hi, hc⟩ := infoByte
  rw [run_equalIn_array w (d + 1) (kc a) (kc b) Try.underlying24 hi, hc, eqItems_keys d a b w _ fun i h => by simpa using h]
  rfl

theorem run_eqKey_top (a b : Nat → Nat) (w : World) : (Op.equalIn 10000 24 (.agg (kc a)) (.agg (kc b))).run Try.prog w = .ok (keyEq a b) w := run_eqKey 9998 a b w

end Go.Proofs.Ytcpdpcfejpbdpaa
