/- bench -/
import Derived.Test.YtcpdpcfejpbdpaaKeyLz
import Derived.Outline
import Derived.LoopTactic
namespace Go.Proofs.Ytcpdpcfejpbdpaa
open Go.RowKit Go.Sort
attribute [local go_sem ↓] loadVar_key loadVar_pre

theorem rowAt_drewN {w : World} {b off : Nat} {cs : Array Value} (h : RowAt w b off cs) (n : Nat) : RowAt (w.drewN n) b off cs := fun j v hv => by
  have := h j v hv
  simpa [go_sem] using this

def SameTo (a b : Nat → Nat) (i : Nat) : Prop := ∀ j, j < i → a j = b j

set_option maxHeartbeats 1000000 in
set_option maxRecDepth 100000 in
theorem com_any (a b : Nat → Nat) (w : World) (ha : Bytes16 a) (hb : Bytes16 b) :
    Calls Try.prog 46 #[.agg (kc a), .agg (kc b)] w fun e w' => e = .returned (.int .i64 (com a b : Nat)) ∧ Below w.heap.size w w' := by
  have hbl : Below w.heap.size w ((w.alloc (.cells (kc a) 24)).alloc (.cells (kc b) 24)) := ((Below.refl _ _).alloc (Nat.le_refl _) _).alloc (by simp) _
  have hsz : w.heap.size + 2 = ((w.alloc (.cells (kc a) 24)).alloc (.cells (kc b) 24)).heap.size := by simp
  have ra : RowAt ((w.alloc (.cells (kc a) 24)).alloc (.cells (kc b) 24)) w.heap.size 0 (kc a) := (rowAt_new w (kc a) _).below (B := w.heap.size + 1) ((Below.refl _ _).alloc (by simp) _) (by omega)
  have rb : RowAt ((w.alloc (.cells (kc a) 24)).alloc (.cells (kc b) 24)) (w.heap.size + 1) 0 (kc b) := by simpa using rowAt_new (w.alloc (.cells (kc a) 24)) (kc b) 24
  go_enter Try.func46, Try.ntmps46
  go_wp2
  generalize (w.alloc (.cells (kc a) 24)).alloc (.cells (kc b) 24) = W at *
  have HS := hsz
  clear hsz
  go_loopw [7] (fun t wr => ∃ i : Nat, i ≤ 16 ∧ t = .int .i64 i ∧ SameTo a b i ∧ Below w.heap.size w wr ∧ RowAt wr w.heap.size 0 (kc a) ∧ RowAt wr (w.heap.size + 1) 0 (kc b)) (fun t _ => 16 - (intOf t).toNat)
  case atStart => exact ⟨0, by omega, rfl, fun j hj => absurd hj (Nat.not_lt_zero _), hbl, ra, rb⟩
  case round =>
    clear ra rb hbl
    obtain ⟨i, hi, rfl, hs, hbl, ra, rb⟩ := hrel
    by_cases hlt : i < 16
    · have l1 := ra i _ (kc_at a i hlt)
      have l2 := rb i _ (kc_at b i hlt)
      simp only [Nat.zero_add] at l1 l2
      have hxl := xor_lt _ _ (ha i) (hb i)
      have hx := u8_xor_nat _ _ (ha i) (hb i)
      obtain ⟨x, hxe⟩ : ∃ x, x = a i ^^^ b i := ⟨_, rfl⟩
      rw [← hxe] at hx hxl
      have HX : Hid (x = a i ^^^ b i) := hxe
      have hlt' : (i : Int) < 16 := by omega
      clear hxe
      by_cases h0 : x = 0
      · have e0 : ((x : Int) != 0) = false := by simp [h0]
        have hab : a i = b i := byte_ext _ _ (ha i) (hb i) fun j _ => (xor_bit _ _ _).1 (by rw [← HX.out, h0]; simp)
        have HA := show Hid (a i = b i) from hab
        clear h0 hab
        go_wp2
        go_quiet (fail)
        go_wp2
        go_roundw
        case rel => exact ⟨i + 1, by omega, by go_num, fun j hj => by
          by_cases e : j = i
          · rw [e]; exact HA.out
          · exact hs j (by omega), below_drewN hbl _, rowAt_drewN ra _, rowAt_drewN rb _⟩
        case measure => simp [intOf]; omega
      · have e0 : ((x : Int) != 0) = true := by simp [h0]
        have hc := com_byte ha hb i hlt hs fun e => h0 (by rw [HX.out, e]; simp)
        rw [← HX.out] at hc
        have HC := show Hid (com a b = 8 * i + (8 - bitLen x)) from hc
        have hl8 : ((8 - bitLen x : Nat) : Int) ≤ 8 := by omega
        clear h0 hc
        go_wp2
        go_quiet (fail)
        go_wp2_with (go_at_call 58; refine (lz8_any x hxl _).mono ?_; rintro e w' ⟨rfl, rfl⟩)
        go_ret
        exact ⟨ret_int (by rw [HC.out]; omega), below_drewN hbl _⟩
    · have : i = 16 := by omega
      subst this
      have hc := (com_128 ha hb).2 hs
      have HC := show Hid (com a b = 128) from hc
      clear hc
      go_wp2
      go_ret
      exact ⟨ret_int (by rw [HC.out]; rfl), hbl⟩
end Go.Proofs.Ytcpdpcfejpbdpaa
