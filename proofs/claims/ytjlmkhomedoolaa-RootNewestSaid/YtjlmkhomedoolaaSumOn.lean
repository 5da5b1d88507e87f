/- sum.halved, On, Of: the sum of bytes. -/
import Derived.Test.YtjlmkhomedoolaaSumBase
namespace Go.Proofs.Ytjlmkhomedoolaa
open Go.RowKit Go.Sort

theorem compl_xor {a : Nat} (ha : a < 4294967296) : 4294967295 ^^^ a = 4294967295 - a := by
  refine Nat.eq_of_testBit_eq fun i => ?_
  rw [show 4294967295 - a = 2 ^ 32 - (a + 1) by omega, Nat.testBit_two_pow_sub_succ ha, Nat.testBit_xor, show (4294967295 : Nat) = 2 ^ 32 - 1 from rfl, Nat.testBit_two_pow_sub_one]
  by_cases hi : i < 32
  · simp [hi]
  · have : a.testBit i = false := Nat.testBit_lt_two_pow (Nat.lt_of_lt_of_le ha (show 2 ^ 32 ≤ 2 ^ i from Nat.pow_le_pow_right (by decide) (by omega)))
    simp [hi, this]
set_option maxHeartbeats 400000 in
theorem halved_any (s : Nat) (hs : s < 4294967296) (w : World) : Calls Try.prog 44 #[.int .u32 (s : Int)] w fun e w' => e = .returned (.int .u32 ((half s : Nat) : Int)) ∧ w = w' := by
  rcases Nat.mod_two_eq_zero_or_one s with h | h
  · have h1 : ((s : Int) % 2 == 1) = false := by rw [beq_eq_false_iff_ne]; omega
    have HX : Hid ((s : Int) / 2 = ((half s : Nat) : Int)) := by show _ = _; rw [half_even h]; omega
    clear h
    go_enter Try.func44, Try.ntmps44
    go_wp2
    go_ret
    exact ⟨ret_int HX.out, rfl⟩
  · have h1 : ((s : Int) % 2 == 1) = true := by rw [beq_iff_eq]; omega
    have HX : Hid (bits .xor .u32 ((s : Int) / 2) 3988292384 = ((half s : Nat) : Int)) := by
      show _ = _
      rw [half_odd h]
      exact u32_xor_nat (s / 2) 3988292384 (by omega) (by decide)
    clear h
    go_enter Try.func44, Try.ntmps44
    go_wp2
    go_ret
    exact ⟨ret_int HX.out, rfl⟩

set_option maxHeartbeats 1000000 in
theorem on_some (s : Nat) (hs : s < 4294967296) (l : List UInt8) (n : Nat) (b o cap : Nat) (w : World) (hn : l.length = n) (hn2 : n ≤ maxLen) (hpos : 0 < n) (hc : ∀ (i : Nat) x, l[i]? = some x → w.cell? ⟨b, o + i, none⟩ = some (byV x)) :
    Calls Try.prog 42 #[.int .u32 (s : Int), .slice (some ⟨b, o, none⟩) n cap] w fun e w' => e = .returned (.int .u32 ((onC s l : Nat) : Int)) ∧ w = w' := by
  have x0 : bits .xor .u32 IntKind.u32.max (s : Int) = ((4294967295 - s : Nat) : Int) := by rw [← compl_xor hs]; exact u32_xor_nat 4294967295 s (by decide) hs
  obtain ⟨s0, hs0⟩ : ∃ s0, 4294967295 - s = s0 := ⟨_, rfl⟩
  have hs1 : s0 < 4294967296 := by omega
  rw [hs0] at x0
  have HR : Hid (onC s l = 4294967295 - crcF s0 l) := by show _ = _; unfold onC; rw [hs0]
  have HN := Lib.hid hn
  have HC := Lib.hid hc
  unfold maxLen at hn2
  clear hs0 hn hc
  go_enter Try.func42, Try.ntmps42
  go_wp2
  go_loop [0, 11] (fun t i => ∃ k : Nat, k ≤ n ∧ i = .int .i64 k ∧ t = .int .u32 ((crcF s0 (l.take k) : Nat) : Int)) (fun _ i => n - (intOf i).toNat)
  case atStart => exact ⟨0, Nat.zero_le _, rfl, rfl⟩
  case round =>
    obtain ⟨k, hk, rfl, rfl⟩ := hrel
    have hlt0 := crcF_lt (l.take k) hs1
    by_cases hlt : k < n
    · obtain ⟨x, hx⟩ : ∃ x, l[k]? = some x := ⟨l[k]'(by rw [HN.out]; exact hlt), List.getElem?_eq_getElem _⟩
      have hcell : w.cell? ⟨b, o + k, none⟩ = some (.int .u8 (x.toNat : Int)) := HC.out k x hx
      have HT : Hid (crcF s0 (l.take (k + 1)) = halfs 8 (crcF s0 (l.take k) ^^^ x.toNat)) := by
        show _ = _
        rw [List.take_add_one, hx, crcF_append]; rfl
      obtain ⟨S, hS⟩ : ∃ S, crcF s0 (l.take k) = S := ⟨_, rfl⟩
      rw [hS] at HT hlt0 ⊢
      have hy0 := Nat.xor_lt_two_pow (n := 32) hlt0 (u8_lt x)
      have x1 := u32_xor_nat S x.toNat hlt0 (u8_lt x)
      obtain ⟨y, hy⟩ : ∃ y, S ^^^ x.toNat = y := ⟨_, rfl⟩
      rw [hy] at HT hy0 x1
      have hxl : x.toNat < 256 := x.toNat_lt
      obtain ⟨z, hz⟩ : ∃ z, x.toNat = z := ⟨_, rfl⟩
      rw [hz] at hcell x1 hxl
      clear hx hS hy hz
      go_wp2
      go_loop [0, 19] (fun t i => ∃ j : Nat, j ≤ 8 ∧ i = .int .i64 j ∧ t = .int .u32 ((halfs j y : Nat) : Int)) (fun _ i => 8 - (intOf i).toNat)
      case atStart => exact ⟨0, Nat.zero_le _, rfl, rfl⟩
      case round =>
        obtain ⟨j, hj, rfl, rfl⟩ := hrel
        have hj0 := halfs_lt j hy0
        have HS := Lib.hid (halfs_succ j y)
        by_cases hj8 : j < 8
        · obtain ⟨q, hq⟩ : ∃ q, halfs j y = q := ⟨_, rfl⟩
          rw [hq] at HS hj0 ⊢
          clear hq
          go_wp2_with (go_at_call 44; refine (halved_any q hj0 _).mono ?_; rintro e w' ⟨rfl, rfl⟩)
          go_round
          case rel => exact ⟨j + 1, by omega, by go_num, by rw [HS.out]⟩
          case measure => simp [intOf]; omega
        · obtain rfl : j = 8 := by omega
          rw [← HT.out]
          go_wp2
          go_round
          case rel => exact ⟨k + 1, by omega, by go_num, rfl⟩
          case measure => simp [intOf]; omega
    · obtain rfl : k = n := by omega
      have HL : Hid (l.take k = l) := List.take_of_length_le (by rw [HN.out]; exact Nat.le_refl _)
      rw [HL.out] at hlt0 ⊢
      have x2 : bits .xor .u32 IntKind.u32.max ((crcF s0 l : Nat) : Int) = ((onC s l : Nat) : Int) := by
        rw [HR.out, ← compl_xor hlt0]; exact u32_xor_nat 4294967295 _ (by decide) hlt0
      go_wp2
      go_ret
      exact ⟨rfl, rfl⟩

set_option maxHeartbeats 400000 in
theorem on_none (s : Nat) (hs : s < 4294967296) (a : Option Addr) (cap : Nat) (w : World) :
    Calls Try.prog 42 #[.int .u32 (s : Int), .slice a 0 cap] w fun e w' => e = .returned (.int .u32 ((onC s [] : Nat) : Int)) ∧ w = w' := by
  have x0 : bits .xor .u32 IntKind.u32.max (s : Int) = ((4294967295 - s : Nat) : Int) := by rw [← compl_xor hs]; exact u32_xor_nat 4294967295 s (by decide) hs
  have x2 : bits .xor .u32 IntKind.u32.max ((4294967295 - s : Nat) : Int) = ((onC s [] : Nat) : Int) := by
    have h := compl_xor (a := 4294967295 - s) (by omega)
    show _ = ((4294967295 - (4294967295 - s) : Nat) : Int)
    rw [← h]; exact u32_xor_nat 4294967295 _ (by decide) (by omega)
  generalize 4294967295 - s = s0 at *
  go_enter Try.func42, Try.ntmps42
  go_wp2
  go_loop [0, 11] (fun t i => i = .int .i64 0 ∧ t = .int .u32 (s0 : Int)) (fun _ _ => 0)
  case atStart => exact ⟨rfl, rfl⟩
  case round =>
    obtain ⟨rfl, rfl⟩ := hrel
    go_wp2
    go_ret
    exact ⟨rfl, rfl⟩

theorem on_any (s : Nat) (hs : s < 4294967296) (l : List UInt8) (v : Value) (w : World) (h : RdB w v l) :
    Calls Try.prog 42 #[.int .u32 (s : Int), v] w fun e w' => e = .returned (.int .u32 ((onC s l : Nat) : Int)) ∧ w = w' := by
  by_cases hl : 0 < l.length
  · obtain ⟨b, o, cap, rfl, hc⟩ := h.form hl
    obtain ⟨a', cap', -, h2, h3⟩ := h.len
    exact on_some s hs l l.length b o cap w rfl (by omega) hl hc
  · obtain rfl : l = [] := List.length_eq_zero_iff.1 (by omega)
    obtain ⟨a, cap, rfl, -⟩ := h.len
    exact on_none s hs a cap w

set_option maxHeartbeats 400000 in
theorem of_any (l : List UInt8) (v : Value) (w : World) (h : RdB w v l) :
    Calls Try.prog 39 #[v] w fun e w' => e = .returned (.int .u32 ((ofC l : Nat) : Int)) ∧ w = w' := by
  have H : Hid (Calls Try.prog 42 #[.int .u32 0, v] w fun e w' => e = .returned (.int .u32 ((ofC l : Nat) : Int)) ∧ w = w') := on_any 0 (by decide) l v w h
  clear h
  go_enter Try.func39, Try.ntmps39
  go_wp2_with fail
  refine H.out.mono ?_
  rintro e w1 ⟨rfl, rfl⟩
  go_wp2
  go_ret
  exact ⟨rfl, rfl⟩
end Go.Proofs.Ytjlmkhomedoolaa
