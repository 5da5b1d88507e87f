/- The four bits at which a route ends, and how many it fits there. -/
import Derived.Test.YtggjcjijoihilaaTriePure
namespace Go.Proofs.Ytggjcjijoihilaa
theorem many_is (r : Rt) (q l : Nat) (hq : q = lastN r) (hlen : r.pre.len = (l : Int)) : manyN r = 2 ^ (4 * (q + 1) - l) := by
  unfold manyN
  rw [← hq, hlen, Int.toNat_natCast]
theorem many_c (M q l : Nat) (hq2 : q = (l - 1) / 4) (hl : l ≤ 128) (hmany : M = 2 ^ (4 * (q + 1) - l)) : ∃ c : Nat, c ≤ 4 ∧ 4 * (q + 1) = l + c ∧ M = 2 ^ c := by
  have h1 : 4 * (q + 1) - l ≤ 4 := by clear hmany; omega
  have h2 : 4 * (q + 1) = l + (4 * (q + 1) - l) := by clear hmany; omega
  exact ⟨_, h1, h2, hmany⟩
theorem nib_bits {k : Nat → Nat} (hk : Bytes16 k) {i : Nat} (h : i < 32) : nib k i = 8 * bt k (4 * i) + 4 * bt k (4 * i + 1) + 2 * bt k (4 * i + 2) + bt k (4 * i + 3) := step_bits hk i h
theorem bt_le (k : Nat → Nat) (j : Nat) : bt k j ≤ 1 := by unfold bt; omega
/-- A route's four bits where it ends leave room for all that it fits. -/
theorem nib_room (r : Rt) (hm : mayB r.pre = true) (q l : Nat) (hq : q = lastN r) (hq2 : q = (l - 1) / 4) (hlen : r.pre.len = (l : Int)) : nib r.pre.key q + manyN r ≤ 16 := by
  obtain ⟨m1, m2, m3, m4⟩ := (mayB_iff r.pre r.hk).1 hm
  have hz : ∀ j, l ≤ j → j < 128 → bt r.pre.key j = 0 := fun j h1 h2 => m4 j (by rw [hlen]; omega) h2
  have hq31 : q ≤ 31 := by omega
  rw [many_is r q l hq hlen, nib_bits r.hk (by omega)]
  have b0 := bt_le r.pre.key (4 * q)
  have b1 := bt_le r.pre.key (4 * q + 1)
  have b2 := bt_le r.pre.key (4 * q + 2)
  have b3 := bt_le r.pre.key (4 * q + 3)
  have h5 : 4 * (q + 1) - l = 0 ∨ 4 * (q + 1) - l = 1 ∨ 4 * (q + 1) - l = 2 ∨ 4 * (q + 1) - l = 3 ∨ 4 * (q + 1) - l = 4 := by omega
  rcases h5 with h | h | h | h | h
  · rw [h, show (2 : Nat) ^ 0 = 1 from rfl]; clear h; omega
  · have z3 := hz (4 * q + 3) (by omega) (by omega)
    rw [h, show (2 : Nat) ^ 1 = 2 from rfl]; clear h; omega
  · have z3 := hz (4 * q + 3) (by omega) (by omega)
    have z2 := hz (4 * q + 2) (by omega) (by omega)
    rw [h, show (2 : Nat) ^ 2 = 4 from rfl]; clear h; omega
  · have z3 := hz (4 * q + 3) (by omega) (by omega)
    have z2 := hz (4 * q + 2) (by omega) (by omega)
    have z1 := hz (4 * q + 1) (by omega) (by omega)
    rw [h, show (2 : Nat) ^ 3 = 8 from rfl]; clear h; omega
  · have z3 := hz (4 * q + 3) (by omega) (by omega)
    have z2 := hz (4 * q + 2) (by omega) (by omega)
    have z1 := hz (4 * q + 1) (by omega) (by omega)
    have z0 := hz (4 * q) (by omega) (by omega)
    rw [h, show (2 : Nat) ^ 4 = 16 from rfl]; clear h; omega
theorem pow_wrap {c : Nat} (h : c ≤ 4) : Go.RowKit.wrap64 ((2 : Int) ^ c) = ((2 ^ c : Nat) : Int) := by
  have h5 : c = 0 ∨ c = 1 ∨ c = 2 ∨ c = 3 ∨ c = 4 := by omega
  rcases h5 with rfl | rfl | rfl | rfl | rfl <;> simp [Go.RowKit.wrap64]
theorem pow_le {c : Nat} (h : c ≤ 4) : 2 ^ c ≤ 16 := by
  have h5 : c = 0 ∨ c = 1 ∨ c = 2 ∨ c = 3 ∨ c = 4 := by omega
  rcases h5 with rfl | rfl | rfl | rfl | rfl <;> decide
open Go.RowKit Go.Sort Go.Shelf
def slotStore (a : Addr) (v : Value) : Sem Unit := storeVar 100 a v
theorem storeVar_slot (a : Addr) (v : Value) : storeVar 100 a v = slotStore a v := rfl
theorem run_slotStore {W : World} {g o : Nat} {x y : Int} {xa xb : Value} (hA : W.cell? ⟨g, o, none⟩ = some xa) (fA : W.frozen? ⟨g, o, none⟩ = false)
    (hB : (W.setCell ⟨g, o, none⟩ (.int .i64 x)).cell? ⟨g, o + 1, none⟩ = some xb) (fB : (W.setCell ⟨g, o, none⟩ (.int .i64 x)).frozen? ⟨g, o + 1, none⟩ = false) :
    (slotStore ⟨g, o, none⟩ (.agg #[.int .i64 x, .int .u16 y])).run Try.prog W = .ok () ((W.setCell ⟨g, o, none⟩ (.int .i64 x)).setCell ⟨g, o + 1, none⟩ (.int .u16 y)) := by
  unfold slotStore
  simp [go_sem, hA, fA, hB, fB]
end Go.Proofs.Ytggjcjijoihilaa
