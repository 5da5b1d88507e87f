/- sum.Put, Get, seal: numbers as bytes. -/
import Derived.Test.YtjlmkhomedoolaaSumOn
import Derived.Laws.MakeOwn
import Derived.Outline
namespace Go.Proofs.Ytjlmkhomedoolaa
open Go.RowKit Go.Sort

def putL (n : Nat) (many : Int) : List UInt8 := if 1 ≤ many ∧ many ≤ 8 then putB n many.toNat else []

set_option maxHeartbeats 400000 in
theorem put_bad (n : Nat) (many : Int) (w : World) (h : many < 1 ∨ 8 < many) : Calls Try.prog 22 #[.int .u64 (n : Int), .int .i64 many] w fun e w' => e = .returned (.slice none 0 0) ∧ w = w' := by
  by_cases h1 : many < 1
  · have d1 : decide (many < 1) = true := by simpa using h1
    clear h h1
    go_enter Try.func22, Try.ntmps22
    go_wp2
    go_ret
    exact ⟨rfl, rfl⟩
  · have d1 : decide (many < 1) = false := by simpa using h1
    have d2 : decide (8 < many) = true := by simp; omega
    clear h h1
    go_enter Try.func22, Try.ntmps22
    go_wp2
    go_ret
    exact ⟨rfl, rfl⟩

/-- A new row of zeros. -/
theorem make_zeros (w : World) (k : Nat) (hk : k ≤ 1000000) : ∃ w1, (Instr.makeSlice 29 (.int .i64 (k : Int)) (.int .i64 (k : Int))).run Try.prog w = .ok (.slice (some ⟨w.heap.size, 0, none⟩) k k) w1 ∧
    OwnB w1 w.heap.size (.slice (some ⟨w.heap.size, 0, none⟩) k k) (List.replicate k 0) ∧ Below w.heap.size w w1 := by
  obtain ⟨i0, e0, e1, e2, e3⟩ := info_parts infoB
  have hr := run_make (P := Try.prog) w 29 5 i0 (.int .u8 0) Try.underlying29 e0 e1 .i64 .i64 (k : Int) (k : Int) (by omega) (by omega) (by rw [e3]; omega) (by omega)
  refine ⟨_, by simpa using hr, ?_, (Below.refl _ _).alloc (Nat.le_refl _) _⟩
  refine ⟨by rw [cellsB_length]; omega, .inr ⟨w.heap.size, k, _, by rw [List.length_replicate], Nat.le_refl _, heap_alloc_new w _, by rw [List.length_replicate]; exact Nat.le_refl _, by unfold maxLen; omega, by rw [size_madeCells, e2], ?_⟩⟩
  rw [List.length_replicate, e2, Nat.mul_one]
  apply List.ext_getElem?
  intro j
  rw [List.getElem?_take]
  unfold cellsB
  rw [List.getElem?_map, List.getElem?_replicate]
  by_cases hj : j < k
  · rw [if_pos hj, if_pos hj]
    simp [madeCells, hj, byV, Value.cells, Nat.mod_one]
  · rw [if_neg hj, if_neg hj]; rfl

/-- A byte stored into bytes of the call's own. -/
theorem OwnB.at {w : World} {base g n cap : Nat} {l : List UInt8} (h : OwnB w base (.slice (some ⟨g, 0, none⟩) n cap) l) {i : Nat} {x : UInt8} (hx : l[i]? = some x) : w.cell? ⟨g, i, none⟩ = some (byV x) ∧ w.frozen? ⟨g, i, none⟩ = false := by
  have h1 := World.ownsRow.cells h (g := g) rfl i _ (cellsB_at hx)
  rw [add_here, Nat.zero_add] at h1
  exact ⟨h1, World.ownsRow.frozenAt (n := n) (by
    have hn : n = l.length := by
      rcases h.2 with ⟨h2, -⟩ | ⟨g', cap', cur, h2, -⟩ <;> cases h2; rfl
    subst hn; exact h) i⟩
theorem OwnB.store {w : World} {base g n cap : Nat} {l : List UInt8} (h : OwnB w base (.slice (some ⟨g, 0, none⟩) n cap) l) (i : Nat) (x : UInt8) :
    OwnB (w.setCell ⟨g, i, none⟩ (byV x)) base (.slice (some ⟨g, 0, none⟩) n cap) (l.set i x) ∧ Below base w (w.setCell ⟨g, i, none⟩ (byV x)) := by
  have hn : n = l.length := by
    rcases h.2 with ⟨h2, -⟩ | ⟨g', cap', cur, h2, -⟩ <;> cases h2; rfl
  subst hn
  have hg : base ≤ g := (World.ownsRow.lt h g rfl).1
  obtain ⟨h1, h2⟩ := World.ownsRow.stored h i (byV x)
  refine ⟨?_, (Below.refl _ _).setCell hg _⟩
  unfold OwnB
  have e : cellsB (l.set i x) = (cellsB l).set i (byV x) := by unfold cellsB; exact List.map_set
  rw [e, List.length_set]
  exact h1
theorem put_set (n k j : Nat) (h : j < k) (x : UInt8) : (List.replicate (k - j) (0 : UInt8) ++ putB n j).set (k - 1 - j) x = List.replicate (k - (j + 1)) 0 ++ x :: putB n j := by
  rw [show k - j = (k - (j + 1)) + 1 by omega, List.replicate_succ', List.append_assoc, List.set_append_right _ _ (by simp; omega)]
  congr 1
  rw [List.length_replicate, show k - 1 - j - (k - (j + 1)) = 0 by omega]
  rfl
theorem put_val (n j : Nat) : (n : Int) / 2 ^ (8 * j) % 256 = ((UInt8.ofNat (n / 256 ^ j)).toNat : Int) := by
  have h1 : (n : Int) / 2 ^ (8 * j) % 256 = ((n / 2 ^ (8 * j) % 256 : Nat) : Int) := by
    rw [Int.natCast_emod, Int.natCast_ediv, Int.natCast_pow]; rfl
  rw [h1, Nat.pow_mul, UInt8.toNat_ofNat']

set_option maxHeartbeats 1000000 in
theorem put_good (n : Nat) (k : Nat) (h1 : 1 ≤ k) (h8 : k ≤ 8) (w : World) : Calls Try.prog 22 #[.int .u64 (n : Int), .int .i64 (k : Int)] w fun e w' => ∃ v, e = .returned v ∧ OwnB w' w.heap.size v (putB n k) ∧ Below w.heap.size w w' := by
  obtain ⟨w1, hm, ho1, hb1⟩ := make_zeros w k (by omega)
  have d1 : decide ((k : Int) < 1) = false := by simp; omega
  have d2 : decide ((8 : Int) < k) = false := by simp; omega
  obtain ⟨g, hg⟩ : ∃ g, w.heap.size = g := ⟨_, rfl⟩
  rw [hg] at hm ho1 hb1 ⊢
  have HO := Lib.hid ho1
  have HB := Lib.hid hb1
  clear ho1 hb1 hg
  go_enter Try.func22, Try.ntmps22
  go_wp2
  go_loopw [17] (fun i wr => ∃ j : Nat, j ≤ k ∧ i = .int .i64 j ∧ OwnB wr g (.slice (some ⟨g, 0, none⟩) k k) (List.replicate (k - j) 0 ++ putB n j) ∧ Below g w wr) (fun i _ => k - (intOf i).toNat)
  case atStart => exact ⟨0, Nat.zero_le _, rfl, by simpa [putB] using HO.out, HB.out⟩
  case round =>
    obtain ⟨j, hj, rfl, ho, hb⟩ := hrel
    by_cases hlt : j < k
    · obtain ⟨x, hx⟩ : ∃ x, (List.replicate (k - j) (0 : UInt8) ++ putB n j)[k - 1 - j]? = some x := ⟨_, List.getElem?_eq_getElem (by simp [putB_length]; omega)⟩
      obtain ⟨hcell, hfr⟩ := ho.at hx
      have hs := ho.store (k - 1 - j) (UInt8.ofNat (n / 256 ^ j))
      rw [put_set n k j hlt] at hs
      unfold byV at hs
      rw [← put_val n j] at hs
      have HS := Lib.hid hs
      have HB' := Lib.hid hb
      clear ho hb hs hx
      go_wp2
      go_roundw
      case rel => exact ⟨j + 1, by omega, by go_num, HS.out.1, HB'.out.trans HS.out.2⟩
      case measure => simp [intOf]; omega
    · obtain rfl : j = k := by omega
      rw [Nat.sub_self, List.replicate_zero, List.nil_append] at ho
      have FIN := Lib.hid (show OwnB wr g (.slice (some ⟨g, 0, none⟩) j j) (putB n j) ∧ Below g w wr from ⟨ho, hb⟩)
      clear ho hb
      go_wp2
      go_ret
      exact ⟨_, rfl, FIN.out⟩
theorem put_any (n : Nat) (many : Int) (w : World) : Calls Try.prog 22 #[.int .u64 (n : Int), .int .i64 many] w fun e w' => ∃ v, e = .returned v ∧ OwnB w' w.heap.size v (putL n many) ∧ Below w.heap.size w w' := by
  by_cases h : 1 ≤ many ∧ many ≤ 8
  · obtain ⟨k, hk⟩ : ∃ k : Nat, many = k := ⟨many.toNat, by omega⟩
    subst hk
    unfold putL
    rw [if_pos h, Int.toNat_natCast]
    exact put_good n k (by omega) (by omega) w
  · unfold putL
    rw [if_neg h]
    refine (put_bad n many w (by omega)).mono ?_
    rintro e w1 ⟨rfl, rfl⟩
    exact ⟨_, rfl, OwnB.nil _ _, Below.refl _ _⟩

theorem getB_lt (l : List UInt8) : getB l < 18446744073709551616 := by rw [getB_val]; exact Nat.mod_lt _ (by decide)
theorem getB_snoc (l : List UInt8) (x : UInt8) : getB (l ++ [x]) = (getB l * 256 + x.toNat) % 18446744073709551616 := by unfold getB; rw [List.foldl_append]; rfl
theorem get_step (S z : Nat) (hz : z < 256) : bits .or .u64 (IntKind.u64.wrap ((S : Int) * 256)) (z : Int) = (((S * 256 + z) % 18446744073709551616 : Nat) : Int) := by
  have h1 : IntKind.u64.wrap ((S : Int) * 256) = ((S * 256 % 18446744073709551616 : Nat) : Int) := by
    have : IntKind.u64.wrap ((S : Int) * 256) = ((S : Int) * 256) % 18446744073709551616 := by simp [IntKind.wrap, IntKind.bits, IntKind.signed]
    rw [this]; omega
  rw [h1, u64_or_nat _ _ (Nat.mod_lt _ (by decide)) (by omega), nat_join 8 _ _ (by omega) (by omega)]
  congr 1
  omega
set_option maxHeartbeats 1000000 in
theorem get_some (l : List UInt8) (n : Nat) (b o cap : Nat) (w : World) (hn : l.length = n) (hn2 : n ≤ maxLen) (hc : ∀ (i : Nat) x, l[i]? = some x → w.cell? ⟨b, o + i, none⟩ = some (byV x)) :
    Calls Try.prog 37 #[.slice (some ⟨b, o, none⟩) n cap] w fun e w' => e = .returned (.int .u64 ((getB l : Nat) : Int)) ∧ w = w' := by
  have HN := Lib.hid hn
  have HC := Lib.hid hc
  unfold maxLen at hn2
  clear hn hc
  go_enter Try.func37, Try.ntmps37
  go_wp2
  go_loop [3, 8] (fun t i => ∃ k : Nat, k ≤ n ∧ i = .int .i64 k ∧ t = .int .u64 ((getB (l.take k) : Nat) : Int)) (fun _ i => n - (intOf i).toNat)
  case atStart => exact ⟨0, Nat.zero_le _, rfl, rfl⟩
  case round =>
    obtain ⟨k, hk, rfl, rfl⟩ := hrel
    have hlt0 := getB_lt (l.take k)
    by_cases hlt : k < n
    · obtain ⟨x, hx⟩ : ∃ x, l[k]? = some x := ⟨l[k]'(by rw [HN.out]; exact hlt), List.getElem?_eq_getElem _⟩
      have hcell : w.cell? ⟨b, o + k, none⟩ = some (.int .u8 (x.toNat : Int)) := HC.out k x hx
      have HT : Hid (getB (l.take (k + 1)) = (getB (l.take k) * 256 + x.toNat) % 18446744073709551616) := by
        show _ = _
        rw [List.take_add_one, hx, ← getB_snoc]; rfl
      obtain ⟨S, hS⟩ : ∃ S, getB (l.take k) = S := ⟨_, rfl⟩
      rw [hS] at HT hlt0 ⊢
      have hxl : x.toNat < 256 := x.toNat_lt
      obtain ⟨z, hz⟩ : ∃ z, x.toNat = z := ⟨_, rfl⟩
      rw [hz] at hcell hxl HT
      clear hx hS hz
      have HX := Lib.hid (get_step S z hxl)
      rw [← HT.out] at HX
      go_wp2
      exact ⟨⟨k + 1, by omega, by go_num, by rw [HX.out]⟩, by simp [intOf]; omega⟩
    · obtain rfl : k = n := by omega
      have HL : Hid (l.take k = l) := List.take_of_length_le (by rw [HN.out]; exact Nat.le_refl _)
      rw [HL.out] at hlt0 ⊢
      go_wp2
      go_ret
      exact ⟨rfl, rfl⟩
set_option maxHeartbeats 400000 in
theorem get_none (a : Option Addr) (cap : Nat) (w : World) :
    Calls Try.prog 37 #[.slice a 0 cap] w fun e w' => e = .returned (.int .u64 0) ∧ w = w' := by
  go_enter Try.func37, Try.ntmps37
  go_wp2
  go_loop [3, 8] (fun t i => i = .int .i64 0 ∧ t = .int .u64 0) (fun _ _ => 0)
  case atStart => exact ⟨rfl, rfl⟩
  case round =>
    obtain ⟨rfl, rfl⟩ := hrel
    go_wp2
    go_ret
    exact ⟨rfl, rfl⟩
theorem get_any (l : List UInt8) (v : Value) (w : World) (h : RdB w v l) :
    Calls Try.prog 37 #[v] w fun e w' => e = .returned (.int .u64 ((getB l : Nat) : Int)) ∧ w = w' := by
  by_cases hl : 0 < l.length
  · obtain ⟨b, o, cap, rfl, hc⟩ := h.form hl
    obtain ⟨a', cap', -, h2, h3⟩ := h.len
    exact get_some l l.length b o cap w rfl (by omega) hc
  · obtain rfl : l = [] := List.length_eq_zero_iff.1 (by omega)
    obtain ⟨a, cap, rfl, -⟩ := h.len
    exact get_none a cap w

theorem putL_four (n : Nat) : putL n 4 = putB n 4 := by unfold putL; rw [if_pos (by decide)]; rfl
set_option maxHeartbeats 400000 in
theorem seal_any (l : List UInt8) (v : Value) (w : World) (h : RdB w v l) :
    Calls Try.prog 32 #[v] w fun e w' => ∃ v', e = .returned v' ∧ OwnB w' w.heap.size v' (sealB l) ∧ Below w.heap.size w w' := by
  have H := Lib.hid (of_any l v w h)
  have H2 : Hid (Calls Try.prog 22 #[.int .u64 ((ofC l : Nat) : Int), .int .i64 4] w fun e w' => ∃ v', e = .returned v' ∧ OwnB w' w.heap.size v' (sealB l) ∧ Below w.heap.size w w') := by
    have := put_any (ofC l) 4 w
    rw [putL_four] at this
    exact this
  have hlt : ofC l < 4294967296 := onC_lt _ _
  generalize ofC l = c at *
  clear h
  go_enter Try.func32, Try.ntmps32
  go_wp2_with fail
  refine H.out.mono ?_
  rintro e w1 ⟨rfl, rfl⟩
  go_wp2_with fail
  refine H2.out.mono ?_
  rintro e w1 ⟨v', rfl, h1, h2⟩
  have FIN := Lib.hid (And.intro h1 h2)
  clear h1 h2
  go_wp2
  go_ret
  exact ⟨_, rfl, FIN.out⟩
end Go.Proofs.Ytjlmkhomedoolaa
