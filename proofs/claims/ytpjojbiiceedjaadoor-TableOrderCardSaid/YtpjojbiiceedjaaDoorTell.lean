/- route.tens, keyText, Key, Prefix, Line: texts that are told. -/
import Derived.Test.YtpjojbiiceedjaaDoorJoined
import Derived.Test.YtpjojbiiceedjaaDoorQuietTail
import Derived.Test.YtpjojbiiceedjaaDoorKeyMay
import Derived.Test.YtpjojbiiceedjaaDoorKeyStep
import Derived.Test.YtpjojbiiceedjaaDoorTextRead
namespace Go.Proofs.YtpjojbiiceedjaaDoor.Rr
open Go.RowKit Go.Sort
attribute [local go_sem ↓] loadVar_key loadVar_pre

theorem ret_string {a b : List UInt8} (h : a = b) : Ending.returned (.string (bs a)) = .returned (.string (bs b)) := by rw [h]

set_option maxHeartbeats 400000 in
theorem tens_any (b : Nat) (hb : b < 256) (w : World) (h : Env w) :
    Calls Tryd.prog 53 #[.int .u8 b] w fun e w' => e = .returned (.string (bs (Lib.decDigits b))) ∧ Below w.heap.size w w' := by
  have hb2 : (b : Int) < 256 := by omega
  have hb3 : (0 : Int) ≤ b := by omega
  go_enter Tryd.func53, Tryd.ntmps53
  go_wp2_with fail
  refine (itoa_any b (by omega) w h).mono ?_
  rintro e w1 ⟨rfl, h1⟩
  go_wp2
  go_ret
  exact ⟨rfl, h1⟩

/-- A key of four bytes as text. -/
def shortT (k : Nat → Nat) : List UInt8 := joinTo [46] [Lib.decDigits (k 0), Lib.decDigits (k 1), Lib.decDigits (k 2), Lib.decDigits (k 3)] 4

set_option maxHeartbeats 2000000 in
set_option maxRecDepth 100000 in
theorem keyText_short (k : Nat → Nat) (w : World) (hk : Bytes16 k) (h : Env w) :
    Calls Tryd.prog 38 #[.agg (kc k), .int .i64 32] w fun e w' => e = .returned (.string (bs (shortT k))) ∧ Below w.heap.size w w' := by
  have hr := rowAt_new w (kc k) 27
  have hb : Below w.heap.size w (w.alloc (.cells (kc k) 27)) := (Below.refl _ _).alloc (Nat.le_refl _) _
  have hE := h.alloc (.cells (kc k) 27)
  go_enter Tryd.func38, Tryd.ntmps38
  go_wp2
  generalize w.alloc (.cells (kc k) 27) = W at *
  have c0 := cell_regrown (hr 0 _ (kc_at k 0 (by decide)))
  have c1 := cell_regrown (hr 1 _ (kc_at k 1 (by decide)))
  have c2 := cell_regrown (hr 2 _ (kc_at k 2 (by decide)))
  have c3 := cell_regrown (hr 3 _ (kc_at k 3 (by decide)))
  have C := fun (i : Nat) d os => Calls.regrown_of (tens_any (k i) (hk i) (grow (redrawn W d) os) (hE.regrown d os))
  refine wp_region_quiet_tail_below 12 (by kernel_rfl) (by kernel_rfl) ?_
  simp only [List.take_succ_cons, List.take_zero, List.drop_succ_cons, List.drop_zero]
  repeat (go_big_quiet_step ((with_reducible exact C _ _ _)))
  refine wpQuiet_nil fun w1 hw1 => ?_
  have hb1 : Below w.heap.size w w1 := by
    obtain ⟨p, rfl⟩ := hw1
    exact hb.trans ((below_regrown W p.d p.os).mono hb.size)
  clear hw1 C c0 c1 c2 c3 hE hr hb
  go_wp2_with fail
  have hd : ∀ i, (Lib.decDigits (k i)).length ≤ 100 := fun i => Nat.le_trans (dec_length (k := 2) (Nat.lt_trans (hk i) (by decide))) (by decide)
  refine (joined_new [46] [Lib.decDigits (k 0), Lib.decDigits (k 1), Lib.decDigits (k 2), Lib.decDigits (k 3)] w1 (by decide) (by simp [hd]) (by simp)).mono ?_
  rintro e w2 ⟨rfl, h2⟩
  clear hd
  go_wp2
  go_ret
  exact ⟨rfl, hb1.trans (h2.mono hb1.size)⟩

/-- A half byte, as a number, and as a digit. -/
def stepN (k : Nat → Nat) (i : Nat) : Nat := if i % 2 = 0 then k (i / 2) / 16 else k (i / 2) % 16
theorem stepN_lt {k : Nat → Nat} (hk : Bytes16 k) (i : Nat) : stepN k i < 16 := by
  have := hk (i / 2)
  unfold stepN
  split <;> omega
theorem stepZ_N (k : Nat → Nat) (i : Nat) (h : i < 32) : stepZ k i = (stepN k i : Nat) := by
  unfold stepZ stepN; rw [if_pos (by omega), Int.toNat_natCast]
theorem sixteen_at (x : Nat) (h : x < 16) (w : World) : (Instr.index 9 (.string ⟨#[48, 49, 50, 51, 52, 53, 54, 55, 56, 57, 97, 98, 99, 100, 101, 102]⟩) (.int .i64 x)).run Tryd.prog w = .ok (.int .u8 (hexD x).toNat) w := by
  have h2 : x = 0 ∨ x = 1 ∨ x = 2 ∨ x = 3 ∨ x = 4 ∨ x = 5 ∨ x = 6 ∨ x = 7 ∨ x = 8 ∨ x = 9 ∨ x = 10 ∨ x = 11 ∨ x = 12 ∨ x = 13 ∨ x = 14 ∨ x = 15 := by omega
  rcases h2 with rfl | rfl | rfl | rfl | rfl | rfl | rfl | rfl | rfl | rfl | rfl | rfl | rfl | rfl | rfl | rfl <;> (refine Eq.trans ?_ rfl; kernel_rfl)

theorem sign_text (x : Nat) (h : x < 16) (w : World) : (convert 5 9 (.int .u8 (hexD x).toNat)).run Tryd.prog w = .ok (.string (bs [hexD x])) w := by
  have h2 : x = 0 ∨ x = 1 ∨ x = 2 ∨ x = 3 ∨ x = 4 ∨ x = 5 ∨ x = 6 ∨ x = 7 ∨ x = 8 ∨ x = 9 ∨ x = 10 ∨ x = 11 ∨ x = 12 ∨ x = 13 ∨ x = 14 ∨ x = 15 := by omega
  rcases h2 with rfl | rfl | rfl | rfl | rfl | rfl | rfl | rfl | rfl | rfl | rfl | rfl | rfl | rfl | rfl | rfl <;> (refine Eq.trans ?_ rfl; kernel_rfl)

/-- A row of 32 texts, of which the first ones are laid. -/
def laidRow (f : Nat → UInt8) (i : Nat) : Array Value := ((List.range 32).map fun j => Value.string (if j < i then bs [f j] else bs [])).toArray
theorem laidRow_size (f : Nat → UInt8) (i : Nat) : (laidRow f i).size = 32 := by simp [laidRow]
theorem laidRow_at (f : Nat → UInt8) (i j : Nat) (h : j < 32) : (laidRow f i)[j]? = some (.string (if j < i then bs [f j] else bs [])) := by simp [laidRow, h]
theorem laidRow_set (f : Nat → UInt8) (i : Nat) : (laidRow f i).setIfInBounds i (.string (bs [f i])) = laidRow f (i + 1) := by
  apply Array.ext_getElem?
  intro j
  rw [Array.getElem?_setIfInBounds, laidRow_size]
  by_cases h : j < 32
  · rw [laidRow_at _ _ _ h, laidRow_at _ _ _ h]
    by_cases e : i = j
    · subst e; simp [h]
    · rw [if_neg e]
      by_cases h2 : j < i
      · rw [if_pos h2, if_pos (by omega)]
      · rw [if_neg h2, if_neg (by omega)]
  · have hn : ∀ m, (laidRow f m)[j]? = none := fun m => Array.getElem?_eq_none (by rw [laidRow_size]; omega)
    rw [hn, hn]
    split
    · rw [if_neg (by omega)]
    · rfl
theorem laidRow_none (f : Nat → UInt8) : laidRow f 0 = Array.replicate 32 (.string ⟨#[]⟩) := by rfl

def wideParts (k : Nat → Nat) : List (List UInt8) := (List.range 32).map fun j => [hexD (stepN k j)]
def wideT (k : Nat → Nat) : List UInt8 := joinTo [] (wideParts k) 32

/-- What is known at the head of a round. -/
structure WideInv (w wr : World) (k : Nat → Nat) (i : Nat) : Prop where
  below : Below w.heap.size w wr
  size : w.heap.size + 2 ≤ wr.heap.size
  key : RowAt wr w.heap.size 0 (kc k)
  row : wr.heap[w.heap.size + 1]? = some (.cells (laidRow (fun j => hexD (stepN k j)) i) 97 (0, 0))

theorem WideInv.later {w wr w1 : World} {k : Nat → Nat} {i : Nat} (h : WideInv w wr k i) (hb : Below wr.heap.size wr w1) : WideInv w w1 k i :=
  ⟨h.below.trans (hb.mono h.below.size), Nat.le_trans h.size hb.size, h.key.below hb (by have := h.size; omega), by rw [hb.block _ (by have := h.size; omega)]; exact h.row⟩

theorem WideInv.set {w wr : World} {k : Nat → Nat} {i : Nat} (h : WideInv w wr k i) : WideInv w (wr.setCell ⟨w.heap.size + 1, i, none⟩ (.string (bs [hexD (stepN k i)]))) k (i + 1) := by
  refine ⟨h.below.setCell (by simp) _, by simpa using h.size, ?_, ?_⟩
  · exact h.key.below (B := w.heap.size + 1) (Below.setCell (p := ⟨w.heap.size + 1, i, none⟩) (Below.refl _ _) (Nat.le_refl _) _) (by omega)
  · rw [heap_setCell_same wr _ _ _ _ _ h.row, laidRow_set (fun j => hexD (stepN k j)) i]

set_option maxHeartbeats 2000000 in
set_option maxRecDepth 100000 in
theorem keyText_wide (k : Nat → Nat) (w : World) (hk : Bytes16 k) :
    Calls Tryd.prog 38 #[.agg (kc k), .int .i64 128] w fun e w' => e = .returned (.string (bs (wideT k))) ∧ Below w.heap.size w w' := by
  obtain ⟨W, hW⟩ : ∃ W, W = (w.alloc (.cells (kc k) 27)).alloc (.cells (Array.replicate 32 (.string ⟨#[]⟩)) 97) := ⟨_, rfl⟩
  have inv : WideInv w W k 0 := by
    rw [hW]
    refine ⟨((Below.refl _ _).alloc (Nat.le_refl _) _).alloc (by simp) _, by simp, (rowAt_new w (kc k) _).below (B := w.heap.size + 1) ((Below.refl _ _).alloc (by simp) _) (by omega), ?_⟩
    rw [heap_alloc2_new, laidRow_none]
  have HW := Lib.hid hW
  clear hW
  go_enter Tryd.func38, Tryd.ntmps38
  go_wp2
  rw [show (w.alloc (.cells (kc k) 27)).alloc (.cells (#[Value.string { data := #[] }, Value.string { data := #[] }, Value.string { data := #[] },
      Value.string { data := #[] }, Value.string { data := #[] }, Value.string { data := #[] },
      Value.string { data := #[] }, Value.string { data := #[] }, Value.string { data := #[] },
      Value.string { data := #[] }, Value.string { data := #[] }, Value.string { data := #[] },
      Value.string { data := #[] }, Value.string { data := #[] }, Value.string { data := #[] },
      Value.string { data := #[] }, Value.string { data := #[] }, Value.string { data := #[] },
      Value.string { data := #[] }, Value.string { data := #[] }, Value.string { data := #[] },
      Value.string { data := #[] }, Value.string { data := #[] }, Value.string { data := #[] },
      Value.string { data := #[] }, Value.string { data := #[] }, Value.string { data := #[] },
      Value.string { data := #[] }, Value.string { data := #[] }, Value.string { data := #[] },
      Value.string { data := #[] }, Value.string { data := #[] }] : Array Value) 97) = W from HW.out.symm]
  go_loopw [23] (fun t wr => ∃ i : Nat, i ≤ 32 ∧ t = .int .i64 i ∧ WideInv w wr k i) (fun t _ => 32 - (intOf t).toNat)
  case atStart => exact ⟨0, Nat.zero_le _, rfl, inv⟩
  case round =>
    clear inv
    obtain ⟨i, hi, rfl, inv⟩ := hrel
    by_cases hlt : i < 32
    · have hlt' : (i : Int) < 32 := by omega
      have L := run_keyLoad inv.key
      have C := step_any k i wr hk
      rw [stepZ_N k i hlt] at C
      obtain ⟨x, hx⟩ : ∃ x, x = stepN k i := ⟨_, rfl⟩
      have hx16 : x < 16 := by rw [hx]; exact stepN_lt hk i
      rw [← hx] at C
      have HX := Lib.hid hx
      have HC := Lib.hid C
      have HI := Lib.hid inv
      clear C hx inv
      go_wp2_with fail
      refine HC.out.mono ?_
      rintro e w1 ⟨rfl, h1⟩
      have inv1 := HI.out.later h1
      have f1 : w1.frozen? ⟨w.heap.size + 1, i, none⟩ = false := frozen_of_row w1 _ _ _ _ inv1.row
      have d1 : w1.cell? ⟨w.heap.size + 1, i, none⟩ = some (.string (bs [])) := by rw [cell_of_row w1 _ _ _ _ _ inv1.row, laidRow_at _ _ _ hlt, if_neg (by omega)]
      have inv2 := Lib.hid inv1.set
      have e1 := sixteen_at x hx16 w1
      have e2 := sign_text x hx16 w1
      rw [← HX.out] at inv2
      clear L inv1
      go_wp2
      go_roundw
      case rel => exact ⟨i + 1, by omega, by go_num, inv2.out⟩
      case measure => simp [intOf]; omega
    · obtain rfl : i = 32 := by omega
      go_wp2_with fail
      have hc : ∀ j p, (wideParts k)[j]? = some p → wr.cell? ⟨w.heap.size + 1, j, none⟩ = some (.string (bs p)) := fun j p hj => by
        have hj32 : j < 32 := by
          by_cases h : j < 32
          · exact h
          · rw [List.getElem?_eq_none (by simp [wideParts]; omega)] at hj; cases hj
        rw [cell_of_row wr _ _ _ _ _ inv.row, laidRow_at _ _ _ hj32, if_pos hj32]
        simp [wideParts, hj32] at hj
        rw [hj]
      have hl : (wideParts k).length = 32 := by simp [wideParts]
      have J := joined_any [] (wideParts k) (w.heap.size + 1) 32 wr (by simp) (fun p hp => by simp [wideParts] at hp; obtain ⟨j, _, rfl⟩ := hp; simp) (by omega) hc
      rw [hl] at J
      refine J.mono ?_
      rintro e w2 ⟨rfl, h2⟩
      go_wp2
      go_ret
      exact ⟨rfl, inv.below.trans (h2.mono inv.below.size)⟩

end Go.Proofs.YtpjojbiiceedjaaDoor.Rr
