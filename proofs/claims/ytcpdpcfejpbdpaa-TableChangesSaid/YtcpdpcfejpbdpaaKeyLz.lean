/- LeadingZeros8, and the first bit by which two keys part. -/
import Derived.Test.YtcpdpcfejpbdpaaKeyA
import Derived.Laws.MathBits
namespace Go.Proofs.Ytcpdpcfejpbdpaa
open Go.RowKit Go.Sort

set_option maxHeartbeats 400000 in
set_option maxRecDepth 100000 in
theorem len8_any (x : Nat) (hx : x < 256) (w : World) :
    Calls Try.prog 64 #[.int .u8 (x : Nat)] w fun e w' => e = .returned (.int .i64 (bitLen x : Nat)) ∧ w = w' := by
  go_enter Try.func64, Try.ntmps64
  go_wp2
  go_ret
  exact ⟨ret_int (by rw [len8tab_get x hx]; exact IntWalk.wrap64_in _ (by have := bitLen_le8 x hx; constructor <;> omega)), rfl⟩

set_option maxHeartbeats 400000 in
set_option maxRecDepth 100000 in
theorem lz8_any (x : Nat) (hx : x < 256) (w : World) :
    Calls Try.prog 58 #[.int .u8 (x : Nat)] w fun e w' => e = .returned (.int .i64 ((8 - bitLen x : Nat) : Int)) ∧ w = w' := by
  have hb := bitLen_le8 x hx
  have hb2 : ((bitLen x : Nat) : Int) ≤ 8 := by omega
  go_enter Try.func58, Try.ntmps58
  go_wp2_with (go_at_call 64; refine (len8_any x hx _).mono ?_; rintro e w' ⟨rfl, rfl⟩)
  go_ret
  exact ⟨ret_int (by omega), rfl⟩

/-- Where the first bit of a byte is set. -/
theorem lead_bits : ∀ (x : Fin 256) (j : Fin 8), (j.val < 8 - bitLen x.val → x.val / 2 ^ (7 - j.val) % 2 = 0) ∧ (x.val ≠ 0 → x.val / 2 ^ (7 - (8 - bitLen x.val)) % 2 = 1 ∧ 1 ≤ bitLen x.val) := by decide +kernel

theorem xor_bit (a b c : Nat) : (a ^^^ b) / 2 ^ c % 2 = 0 ↔ a / 2 ^ c % 2 = b / 2 ^ c % 2 := by
  have h : ∀ x : Nat, x / 2 ^ c % 2 = (x.testBit c).toNat := fun x => by rw [Nat.testBit_eq_decide_div_mod_eq]; rcases Nat.mod_two_eq_zero_or_one (x / 2 ^ c) with e | e <;> simp [e]
  rw [h, h, h, Nat.testBit_xor]
  cases a.testBit c <;> cases b.testBit c <;> simp

theorem xor_lt (a b : Nat) (ha : a < 256) (hb : b < 256) : a ^^^ b < 256 := Nat.xor_lt_two_pow (n := 8) ha hb

/-- The first bit by which two keys part, out of the first byte by which they do. -/
theorem com_byte {a b : Nat → Nat} (ha : Bytes16 a) (hb : Bytes16 b) (i : Nat) (hi : i < 16) (hs : ∀ j, j < i → a j = b j) (hp : a i ≠ b i) : com a b = 8 * i + (8 - bitLen (a i ^^^ b i)) := by
  have hx := xor_lt _ _ (ha i) (hb i)
  have h0 : a i ^^^ b i ≠ 0 := fun e => hp (byte_ext _ _ (ha i) (hb i) fun j _ => (xor_bit _ _ _).1 (by rw [e]; simp))
  have hl := bitLen_le8 _ hx
  have L := fun j (hj : j < 8) => lead_bits ⟨a i ^^^ b i, hx⟩ ⟨j, hj⟩
  have h1 := ((L 0 (by decide)).2 h0).2
  have h2 := ((L 0 (by decide)).2 h0).1
  simp only at L h1 h2
  refine IsCom.eq ⟨by omega, fun j hj => ?_, fun _ => ?_⟩
  · unfold bt
    by_cases e : j / 8 = i
    · rw [e]; exact (xor_bit _ _ _).1 ((L (j % 8) (by omega)).1 (by omega))
    · rw [hs _ (by omega)]
  · unfold bt
    rw [show (8 * i + (8 - bitLen (a i ^^^ b i))) / 8 = i by omega, show (8 * i + (8 - bitLen (a i ^^^ b i))) % 8 = 8 - bitLen (a i ^^^ b i) by omega]
    intro e
    have := (xor_bit _ _ _).2 e
    omega
end Go.Proofs.Ytcpdpcfejpbdpaa
