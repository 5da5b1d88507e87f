/- The document's own Of, Put, Get of layer 5. -/
import Derived.Test.YtkbnffjkilpdaaaSumOpen
namespace Go.Proofs.Ytkbnffjkilpdaaa
open Go.RowKit Go.Sort

set_option maxHeartbeats 1000000 in
theorem rof_some (l : List UInt8) (n : Nat) (b o cap : Nat) (w : World) (hn : l.length = n) (hn2 : n ≤ maxLen) (hc : ∀ (i : Nat) x, l[i]? = some x → w.cell? ⟨b, o + i, none⟩ = some (byV x)) :
    Calls Try.prog 31 #[.slice (some ⟨b, o, none⟩) n cap] w fun e w' => e = .returned (.int .u32 ((ofC l : Nat) : Int)) ∧ w = w' := by
  have HR : Hid (ofC l = 4294967295 - crcF 4294967295 l) := rfl
  have HN := Lib.hid hn
  have HC := Lib.hid hc
  unfold maxLen at hn2
  clear hn hc
  go_enter Try.func31, Try.ntmps31
  go_wp2
  go_loop [3, 4] (fun t i => ∃ k : Nat, k ≤ n ∧ i = .int .i64 k ∧ t = .int .u32 ((crcF 4294967295 (l.take k) : Nat) : Int)) (fun _ i => n - (intOf i).toNat)
  case atStart => exact ⟨0, Nat.zero_le _, rfl, rfl⟩
  case round =>
    obtain ⟨k, hk, rfl, rfl⟩ := hrel
    have hlt0 := crcF_lt (l.take k) (s := 4294967295) (by decide)
    by_cases hlt : k < n
    · obtain ⟨x, hx⟩ : ∃ x, l[k]? = some x := ⟨l[k]'(by rw [HN.out]; exact hlt), List.getElem?_eq_getElem _⟩
      have hcell : w.cell? ⟨b, o + k, none⟩ = some (.int .u8 (x.toNat : Int)) := HC.out k x hx
      have HT : Hid (crcF 4294967295 (l.take (k + 1)) = halfs 8 (crcF 4294967295 (l.take k) ^^^ x.toNat)) := by
        show _ = _
        rw [List.take_add_one, hx, crcF_append]; rfl
      obtain ⟨S, hS⟩ : ∃ S, crcF 4294967295 (l.take k) = S := ⟨_, rfl⟩
      rw [hS] at HT hlt0 ⊢
      have hy0 := Nat.xor_lt_two_pow (n := 32) hlt0 (u8_lt x)
      have x1 := u32_xor_nat S x.toNat hlt0 (u8_lt x)
      obtain ⟨y, hy⟩ : ∃ y, S ^^^ x.toNat = y := ⟨_, rfl⟩
      rw [hy] at HT hy0 x1
      have hxl : x.toNat < 256 := x.toNat_lt
      obtain ⟨z, hz⟩ : ∃ z, x.toNat = z := ⟨_, rfl⟩
      rw [hz] at hcell x1 hxl
      clear hx hS hy hz
      go_wp2
      go_loop [3, 5] (fun t i => ∃ j : Nat, j ≤ 8 ∧ i = .int .i64 j ∧ t = .int .u32 ((halfs j y : Nat) : Int)) (fun _ i => 8 - (intOf i).toNat)
      case atStart => exact ⟨0, Nat.zero_le _, rfl, rfl⟩
      case round =>
        obtain ⟨j, hj, rfl, rfl⟩ := hrel
        have hj0 := halfs_lt j hy0
        have HS := Lib.hid (halfs_succ j y)
        by_cases hj8 : j < 8
        · obtain ⟨q, hq⟩ : ∃ q, halfs j y = q := ⟨_, rfl⟩
          rw [hq] at HS hj0 ⊢
          clear hq
          rcases Nat.mod_two_eq_zero_or_one q with h | h
          · have h1 : ((q : Int) % 2 == 1) = false := by rw [beq_eq_false_iff_ne]; omega
            have HX : Hid ((q : Int) / 2 = ((half q : Nat) : Int)) := by show _ = _; rw [half_even h]; omega
            clear h
            go_wp2
            exact ⟨⟨j + 1, by omega, by go_num, by rw [HX.out, HS.out]⟩, by simp [intOf]; omega⟩
          · have h1 : ((q : Int) % 2 == 1) = true := by rw [beq_iff_eq]; omega
            have HX : Hid (bits .xor .u32 ((q : Int) / 2) 3988292384 = ((half q : Nat) : Int)) := by
              show _ = _
              rw [half_odd h]
              exact u32_xor_nat (q / 2) 3988292384 (by omega) (by decide)
            clear h
            go_wp2
            exact ⟨⟨j + 1, by omega, by go_num, by rw [HX.out, HS.out]⟩, by simp [intOf]; omega⟩
        · obtain rfl : j = 8 := by omega
          rw [← HT.out]
          go_wp2
          go_round
          case rel => exact ⟨k + 1, by omega, by go_num, rfl⟩
          case measure => simp [intOf]; omega
    · obtain rfl : k = n := by omega
      have HL : Hid (l.take k = l) := List.take_of_length_le (by rw [HN.out]; exact Nat.le_refl _)
      rw [HL.out] at hlt0 ⊢
      have HF : Hid (4294967295 - ((crcF 4294967295 l : Nat) : Int) = ((ofC l : Nat) : Int)) := by
        show _ = _
        rw [HR.out]; omega
      obtain ⟨S, hS⟩ : ∃ S, crcF 4294967295 l = S := ⟨_, rfl⟩
      rw [hS] at HF hlt0 ⊢
      clear hS
      go_wp2
      go_ret
      exact ⟨ret_int HF.out, rfl⟩
set_option maxHeartbeats 400000 in
theorem rof_none (a : Option Addr) (cap : Nat) (w : World) :
    Calls Try.prog 31 #[.slice a 0 cap] w fun e w' => e = .returned (.int .u32 0) ∧ w = w' := by
  go_enter Try.func31, Try.ntmps31
  go_wp2
  go_loop [3, 4] (fun t i => i = .int .i64 0 ∧ t = .int .u32 4294967295) (fun _ _ => 0)
  case atStart => exact ⟨rfl, rfl⟩
  case round =>
    obtain ⟨rfl, rfl⟩ := hrel
    go_wp2
    go_ret
    exact ⟨rfl, rfl⟩
theorem rof_any (l : List UInt8) (v : Value) (w : World) (h : RdB w v l) :
    Calls Try.prog 31 #[v] w fun e w' => e = .returned (.int .u32 ((ofC l : Nat) : Int)) ∧ w = w' := by
  by_cases hl : 0 < l.length
  · obtain ⟨b, o, cap, rfl, hc⟩ := h.form hl
    obtain ⟨a', cap', -, h2, h3⟩ := h.len
    exact rof_some l l.length b o cap w rfl (by omega) hc
  · obtain rfl : l = [] := List.length_eq_zero_iff.1 (by omega)
    obtain ⟨a, cap, rfl, -⟩ := h.len
    exact rof_none a cap w

theorem rget_step (S z : Nat) : IntKind.u64.wrap (IntKind.u64.wrap ((S : Int) * 256) + (z : Int)) = (((S * 256 + z) % 18446744073709551616 : Nat) : Int) := by
  have h : ∀ x : Int, IntKind.u64.wrap x = x % 18446744073709551616 := fun x => by simp [IntKind.wrap, IntKind.bits, IntKind.signed]
  rw [h, h]
  omega
set_option maxHeartbeats 1000000 in
theorem rget_some (l : List UInt8) (n : Nat) (b o cap : Nat) (w : World) (hn : l.length = n) (hn2 : n ≤ maxLen) (hc : ∀ (i : Nat) x, l[i]? = some x → w.cell? ⟨b, o + i, none⟩ = some (byV x)) :
    Calls Try.prog 27 #[.slice (some ⟨b, o, none⟩) n cap] w fun e w' => e = .returned (.int .u64 ((getB l : Nat) : Int)) ∧ w = w' := by
  have HN := Lib.hid hn
  have HC := Lib.hid hc
  unfold maxLen at hn2
  clear hn hc
  go_enter Try.func27, Try.ntmps27
  go_wp2
  go_loop [3, 4] (fun t i => ∃ k : Nat, k ≤ n ∧ i = .int .i64 k ∧ t = .int .u64 ((getB (l.take k) : Nat) : Int)) (fun _ i => n - (intOf i).toNat)
  case atStart => exact ⟨0, Nat.zero_le _, rfl, rfl⟩
  case round =>
    obtain ⟨k, hk, rfl, rfl⟩ := hrel
    have hlt0 := getB_lt (l.take k)
    by_cases hlt : k < n
    · obtain ⟨x, hx⟩ : ∃ x, l[k]? = some x := ⟨l[k]'(by rw [HN.out]; exact hlt), List.getElem?_eq_getElem _⟩
      have hcell : w.cell? ⟨b, o + k, none⟩ = some (.int .u8 (x.toNat : Int)) := HC.out k x hx
      have HT : Hid (getB (l.take (k + 1)) = (getB (l.take k) * 256 + x.toNat) % 18446744073709551616) := by
        show _ = _
        rw [List.take_add_one, hx, ← getB_snoc]; rfl
      obtain ⟨S, hS⟩ : ∃ S, getB (l.take k) = S := ⟨_, rfl⟩
      rw [hS] at HT hlt0 ⊢
      have hxl : x.toNat < 256 := x.toNat_lt
      obtain ⟨z, hz⟩ : ∃ z, x.toNat = z := ⟨_, rfl⟩
      rw [hz] at hcell hxl HT
      clear hx hS hz
      have HX := Lib.hid (rget_step S z)
      rw [← HT.out] at HX
      go_wp2
      exact ⟨⟨k + 1, by omega, by go_num, by rw [HX.out]⟩, by simp [intOf]; omega⟩
    · obtain rfl : k = n := by omega
      have HL : Hid (l.take k = l) := List.take_of_length_le (by rw [HN.out]; exact Nat.le_refl _)
      rw [HL.out] at hlt0 ⊢
      go_wp2
      go_ret
      exact ⟨rfl, rfl⟩

set_option maxHeartbeats 1000000 in
theorem rput_good (n : Nat) (hn : n < 18446744073709551616) (k : Nat) (h1 : 1 ≤ k) (h8 : k ≤ 8) (w : World) : Calls Try.prog 21 #[.int .u64 (n : Int), .int .i64 (k : Int)] w fun e w' => ∃ v, e = .returned v ∧ OwnB w' w.heap.size v (putB n k) ∧ Below w.heap.size w w' := by
  have d1 : decide ((k : Int) < 1) = false := by simp; omega
  have d2 : decide ((8 : Int) < k) = false := by simp; omega
  obtain ⟨B, hB⟩ : ∃ B, w.heap.size = B := ⟨_, rfl⟩
  rw [hB]
  have HB := Lib.hid hB
  clear hB
  go_enter Try.func21, Try.ntmps21
  go_wp2
  go_loopw [5, 6, 0] (fun v i t wr => ∃ j : Nat, j ≤ k ∧ i = .int .i64 j ∧ t = .int .u64 ((n / 256 ^ j : Nat) : Int) ∧ OwnB wr B v (putB n j) ∧ Below B w wr) (fun _ i _ _ => k - (intOf i).toNat)
  case atStart => exact ⟨0, Nat.zero_le _, rfl, by simp, OwnB.nil _ _, Below.refl _ _⟩
  case round =>
    obtain ⟨j, hj, rfl, rfl, ho, hb⟩ := hrel
    have hlt0 : n / 256 ^ j < 18446744073709551616 := Nat.lt_of_le_of_lt (Nat.div_le_self _ _) hn
    have HNX : Hid (n / 256 ^ (j + 1) = n / 256 ^ j / 256) := by show _ = _; rw [Nat.pow_succ, Nat.div_div_eq_div_mul]
    obtain ⟨m, hm⟩ : ∃ m, n / 256 ^ j = m := ⟨_, rfl⟩
    have HPJ : Hid (putB n (j + 1) = UInt8.ofNat m :: putB n j) := by show _ = _; rw [← hm]; rfl
    rw [hm] at HNX hlt0 ⊢
    have HO := Lib.hid (And.intro ho hb)
    clear ho hb hm
    by_cases hlt : j < k
    · have hs : B ≤ wr.heap.size := by have := HO.out.2.size; have := HB.out; omega
      have hw : OwnB (wr.alloc (.cells #[.int .u8 ((m : Int) % 256)] 5)) B (.slice (some ⟨wr.heap.size, 0, none⟩) 1 1) [UInt8.ofNat m] := by
        have h1 := ((OwnB.made wr [UInt8.ofNat m]).resolve_right (fun h => h (by unfold maxLen; simp))).mono hs
        have e : byV (UInt8.ofNat m) = .int .u8 ((m : Int) % 256) := by
          unfold byV
          rw [UInt8.toNat_ofNat']
          congr 1
        have e2 : cellsB [UInt8.ofNat m] = [.int .u8 ((m : Int) % 256)] := by rw [← e]; rfl
        rw [e2] at h1
        exact h1
      have hal : Below wr.heap.size wr (wr.alloc (.cells #[.int .u8 ((m : Int) % 256)] 5)) := (Below.refl _ _).alloc (Nat.le_refl _) _
      have HW := Lib.hid (And.intro hw (And.intro (HO.out.1.rd.later hal) (And.intro (Nat.le_trans hs hal.size) (HO.out.2.trans (hal.mono hs)))))
      have HLE := Lib.hid (show [UInt8.ofNat m].length + (putB n j).length ≤ 1000000 by rw [putB_length]; simp; omega)
      clear hw hal hs
      go_wp2_with (at_builtin; refine wpList_appendB rfl _ _ rfl rfl rfl HW.out.1 HW.out.2.1 HW.out.2.2.1 HLE.out ?_; intro v' w' hx hy)
      have FIN := Lib.hid (And.intro hx (HW.out.2.2.2.trans (HW.out.1.below hy HW.out.2.2.1)))
      clear hx hy
      go_roundw
      case rel => exact ⟨j + 1, by omega, by go_num, by rw [HNX.out]; go_num, by rw [HPJ.out]; exact FIN.out.1, FIN.out.2⟩
      case measure => simp [intOf]; omega
    · obtain rfl : j = k := by omega
      go_wp2
      go_ret
      exact ⟨_, rfl, HO.out⟩
set_option maxHeartbeats 400000 in
theorem rput_bad (n : Nat) (many : Int) (w : World) (h : many < 1 ∨ 8 < many) : Calls Try.prog 21 #[.int .u64 (n : Int), .int .i64 many] w fun e w' => e = .returned (.slice none 0 0) ∧ w = w' := by
  by_cases h1 : many < 1
  · have d1 : decide (many < 1) = true := by simpa using h1
    clear h h1
    go_enter Try.func21, Try.ntmps21
    go_wp2
    go_ret
    exact ⟨rfl, rfl⟩
  · have d1 : decide (many < 1) = false := by simpa using h1
    have d2 : decide (8 < many) = true := by simp; omega
    clear h h1
    go_enter Try.func21, Try.ntmps21
    go_wp2
    go_ret
    exact ⟨rfl, rfl⟩
theorem rput_any (n : Nat) (hn : n < 18446744073709551616) (many : Int) (w : World) : Calls Try.prog 21 #[.int .u64 (n : Int), .int .i64 many] w fun e w' => ∃ v, e = .returned v ∧ OwnB w' w.heap.size v (putL n many) ∧ Below w.heap.size w w' := by
  by_cases h : 1 ≤ many ∧ many ≤ 8
  · obtain ⟨k, hk⟩ : ∃ k : Nat, many = k := ⟨many.toNat, by omega⟩
    subst hk
    unfold putL
    rw [if_pos h, Int.toNat_natCast]
    exact rput_good n hn k (by omega) (by omega) w
  · unfold putL
    rw [if_neg h]
    refine (rput_bad n many w (by omega)).mono ?_
    rintro e w1 ⟨rfl, rfl⟩
    exact ⟨_, rfl, OwnB.nil _ _, Below.refl _ _⟩
set_option maxHeartbeats 400000 in
theorem rget_none (a : Option Addr) (cap : Nat) (w : World) :
    Calls Try.prog 27 #[.slice a 0 cap] w fun e w' => e = .returned (.int .u64 0) ∧ w = w' := by
  go_enter Try.func27, Try.ntmps27
  go_wp2
  go_loop [3, 4] (fun t i => i = .int .i64 0 ∧ t = .int .u64 0) (fun _ _ => 0)
  case atStart => exact ⟨rfl, rfl⟩
  case round =>
    obtain ⟨rfl, rfl⟩ := hrel
    go_wp2
    go_ret
    exact ⟨rfl, rfl⟩
theorem rget_any (l : List UInt8) (v : Value) (w : World) (h : RdB w v l) :
    Calls Try.prog 27 #[v] w fun e w' => e = .returned (.int .u64 ((getB l : Nat) : Int)) ∧ w = w' := by
  by_cases hl : 0 < l.length
  · obtain ⟨b, o, cap, rfl, hc⟩ := h.form hl
    obtain ⟨a', cap', -, h2, h3⟩ := h.len
    exact rget_some l l.length b o cap w rfl (by omega) hc
  · obtain rfl : l = [] := List.length_eq_zero_iff.1 (by omega)
    obtain ⟨a, cap, rfl, -⟩ := h.len
    exact rget_none a cap w
end Go.Proofs.Ytkbnffjkilpdaaa
