/- key.endsBy, by the contract of key.Cut. -/
import Derived.Test.YtcpdpcfejpbdpaaKeyA
namespace Go.Proofs.Ytcpdpcfejpbdpaa
open Go.RowKit Go.Sort
attribute [local go_sem ↓] loadVar_key loadVar_pre

def CutSaid : Prop := ∀ (k : Nat → Nat) (n : Int) (w : World), Bytes16 k → Calls Try.prog 57 #[.agg (kc k), .int .i64 n] w fun e w' => e = .returned (.agg (kc (cutB k n.toNat))) ∧ Below w.heap.size w w'

set_option maxHeartbeats 1000000 in
set_option maxRecDepth 100000 in
theorem ends_any (hcut : CutSaid) (k : Nat → Nat) (n : Int) (w : World) (hk : Bytes16 k) :
    Calls Try.prog 45 #[.agg (kc k), .int .i64 n] w fun e w' => e = .returned (.bool (endsB k n.toNat)) ∧ Below w.heap.size w w' := by
  have hr := rowAt_new w (kc k) 24
  have hb : Below w.heap.size w (w.alloc (.cells (kc k) 24)) := (Below.refl _ _).alloc (Nat.le_refl _) _
  go_enter Try.func45, Try.ntmps45
  go_wp2
  generalize w.alloc (.cells (kc k) 24) = W at *
  have L := fun d os => run_keyLoad (rowAt_regrown hr d os)
  have C := fun d os => Calls.regrown_of (hcut k n (grow (redrawn W d) os) hk)
  have E := fun w => run_eqKey_top (cutB k n.toNat) k w
  refine wp_region_quiet_below (by kernel_rfl) (by kernel_rfl) ?_
  repeat (go_big_quiet_step (exact C _ _))
  refine wpQuiet_nil fun w1 hw1 => ?_
  have hb1 : Below w.heap.size w w1 := by
    obtain ⟨p, rfl⟩ := hw1
    exact hb.trans ((below_regrown W p.d p.os).mono hb.size)
  clear hw1 L C E
  go_wp2
  go_ret
  exact ⟨rfl, hb1⟩
end Go.Proofs.Ytcpdpcfejpbdpaa
