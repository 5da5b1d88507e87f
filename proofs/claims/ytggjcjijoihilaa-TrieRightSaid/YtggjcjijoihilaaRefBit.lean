/- The document's own Bit of layer 1. The document's own May, Fits, Covers and Less of layer 1 hand back what the program's do. The document's own Less of layer 1. -/
import Derived.Test.YtggjcjijoihilaaKeyEnds
import Derived.LoopTactic
import Derived.Test.YtggjcjijoihilaaKeyMay
import Derived.Test.YtggjcjijoihilaaPure
namespace Go.Proofs.Ytggjcjijoihilaa
open Go.RowKit Go.Sort
attribute [local go_sem ↓] loadVar_key loadVar_pre

theorem half_pow (x j : Nat) : x / 2 ^ j / 2 = x / 2 ^ (j + 1) := by rw [Nat.div_div_eq_div_mul, ← Nat.pow_succ]

set_option maxHeartbeats 1000000 in
set_option maxRecDepth 100000 in
theorem rbit_in (k : Nat → Nat) (n : Nat) (hn : n < 128) (w : World) (hk : Bytes16 k) :
    Calls Try.prog 70 #[.agg (kc k), .int .i64 n] w fun e w' => e = .returned (.int .i64 (bitZ k n)) ∧ Below w.heap.size w w' := by
  have h1 : (n : Int) ≤ 127 := by omega
  have h2 : (0 : Int) ≤ n := by omega
  have hx := kc_at k (n/8) (by omega)
  obtain ⟨x, hxk⟩ : ∃ x, x = k (n / 8) := ⟨_, rfl⟩
  have hl : x < 256 := by rw [hxk]; exact hk _
  rw [← hxk] at hx
  have hl2 : (x : Int) < 256 := by omega
  have hfin : bitZ k n = ((x / 2 ^ (7 - n % 8) % 2 : Nat) : Int) := by unfold bitZ bt; rw [if_pos (by omega), hxk]; simp
  have HF := Lib.hid hfin
  obtain ⟨r, hr⟩ : ∃ r, r = n % 8 := ⟨_, rfl⟩
  have HR := Lib.hid hr
  have er : (n : Int) % 8 = (r : Int) := by omega
  have hr8 : r < 8 := by omega
  have hb : Below w.heap.size w (w.alloc (.cells (kc k) 24)) := (Below.refl _ _).alloc (Nat.le_refl _) _
  clear hfin hxk hr
  go_enter Try.func70, Try.ntmps70
  go_wp2
  go_loop [5, 6] (fun b t => ∃ i : Nat, r ≤ i ∧ i ≤ 7 ∧ t = .int .i64 i ∧ b = .int .i64 ((x / 2 ^ (i - r) : Nat) : Int)) (fun _ t => 7 - (intOf t).toNat)
  case atStart => exact ⟨r, Nat.le_refl _, by omega, by go_num, by simp⟩
  case round =>
    obtain ⟨i, hi1, hi2, rfl, rfl⟩ := hrel
    obtain ⟨y, hy⟩ : ∃ y, y = x / 2 ^ (i - r) := ⟨_, rfl⟩
    have hy256 : y < 256 := by rw [hy]; exact Nat.lt_of_le_of_lt (Nat.div_le_self _ _) hl
    rw [← hy]
    have HY := Lib.hid hy
    have hy2 : (0 : Int) ≤ y := by omega
    have hy3 : (y : Int) < 256 := by omega
    clear hy
    by_cases hlt : i < 7
    · have hlt' : (i : Int) < 7 := by omega
      go_wp2
      go_round
      case rel => exact ⟨i + 1, by omega, by omega, by go_num, by rw [show i + 1 - r = (i - r) + 1 by omega, ← half_pow, ← HY.out]; simp⟩
      case measure => simp [intOf]; omega
    · obtain rfl : i = 7 := by omega
      go_wp2
      go_ret
      exact ⟨ret_int (by rw [HF.out, ← HR.out, ← HY.out]; simp), hb⟩

set_option maxHeartbeats 400000 in
set_option maxRecDepth 100000 in
theorem rbit_out (k : Nat → Nat) (n : Int) (hn : n < 0 ∨ 128 ≤ n) (w : World) :
    Calls Try.prog 70 #[.agg (kc k), .int .i64 n] w fun e w' => e = .returned (.int .i64 0) ∧ Below w.heap.size w w' := by
  rcases hn with hn | hn
  · go_enter Try.func70, Try.ntmps70
    go_wp2
    go_ret
    exact ⟨rfl, (Below.refl _ _).alloc (Nat.le_refl _) _⟩
  · have h0 : ¬ n < 0 := by omega
    have h1 : 127 < n := by omega
    go_enter Try.func70, Try.ntmps70
    go_wp2
    go_ret
    exact ⟨rfl, (Below.refl _ _).alloc (Nat.le_refl _) _⟩

theorem rbit_any (k : Nat → Nat) (n : Int) (w : World) (hk : Bytes16 k) :
    Calls Try.prog 70 #[.agg (kc k), .int .i64 n] w fun e w' => e = .returned (.int .i64 (bitZ k n)) ∧ Below w.heap.size w w' := by
  by_cases h : 0 ≤ n ∧ n < 128
  · obtain ⟨m, rfl⟩ := Int.eq_ofNat_of_zero_le h.1
    exact rbit_in k m (by omega) w hk
  · rw [show bitZ k n = 0 by unfold bitZ; rw [if_neg h]]
    exact rbit_out k n (by omega) w

theorem bitZ_at (k : Nat → Nat) (i : Nat) (h : i < 128) : bitZ k i = (bt k i : Nat) := by unfold bitZ; rw [if_pos (by omega)]; simp

end Go.Proofs.Ytggjcjijoihilaa
namespace Go.Proofs.Ytggjcjijoihilaa
open Go.RowKit Go.Sort
attribute [local go_sem ↓] loadVar_key loadVar_pre

/-- No bit of a key is set from a place on, up to another one. -/
def NoneSet (k : Nat → Nat) (l i : Nat) : Prop := ∀ j, l ≤ j → j < i → bt k j = 0

/-- What is known of a world in which one prefix lies. -/
structure OnePre (w : World) (B : Nat) (p : Pre) : Prop where
  lp : (preLoad ⟨B, 0, none⟩).run Try.prog w = .ok (.agg (pc p)) w
  kp : (keyLoad ⟨B, 2, none⟩).run Try.prog w = .ok (.agg (kc p.key)) w
  bp : w.cell? ⟨B, 0, none⟩ = some (.int .i64 p.bits)
  np : w.cell? ⟨B, 1, none⟩ = some (.int .i64 p.len)

theorem onePre_of {w : World} {B : Nat} {p : Pre} (rp : RowAt w B 0 (pc p)) : OnePre w B p := ⟨run_preLoad rp, run_keyLoad rp.key, rp.bits, by simpa using rp.len⟩

set_option maxHeartbeats 400000 in
set_option maxRecDepth 100000 in
theorem rmay_no (p : Pre) (h : ¬ ((p.bits = 32 ∨ p.bits = 128) ∧ 0 ≤ p.len ∧ p.len ≤ p.bits)) (w : World) :
    Calls Try.prog 41 #[.agg (pc p)] w fun e w' => e = .returned (.bool false) ∧ Below w.heap.size w w' := by
  have hp := pc_bits p
  have hl := pc_len p
  by_cases h32 : p.bits = 32
  · have b1 : (p.bits != 32) = false := by rw [bne_eq_false_iff_eq]; exact h32
    by_cases h0 : p.len < 0
    · clear h h32
      go_enter Try.func41, Try.ntmps41
      go_wp2
      go_ret
      exact ⟨rfl, (Below.refl _ _).alloc (Nat.le_refl _) _⟩
    · have h1 : p.bits < p.len := by omega
      clear h h32
      go_enter Try.func41, Try.ntmps41
      go_wp2
      go_ret
      exact ⟨rfl, (Below.refl _ _).alloc (Nat.le_refl _) _⟩
  · have b1 : (p.bits != 32) = true := by rw [bne_iff_ne]; exact h32
    by_cases h128 : p.bits = 128
    · have b2 : (p.bits != 128) = false := by rw [bne_eq_false_iff_eq]; exact h128
      by_cases h0 : p.len < 0
      · clear h h32 h128
        go_enter Try.func41, Try.ntmps41
        go_wp2
        go_ret
        exact ⟨rfl, (Below.refl _ _).alloc (Nat.le_refl _) _⟩
      · have h1 : p.bits < p.len := by omega
        clear h h32 h128
        go_enter Try.func41, Try.ntmps41
        go_wp2
        go_ret
        exact ⟨rfl, (Below.refl _ _).alloc (Nat.le_refl _) _⟩
    · have b2 : (p.bits != 128) = true := by rw [bne_iff_ne]; exact h128
      clear h h32 h128
      go_enter Try.func41, Try.ntmps41
      go_wp2
      go_ret
      exact ⟨rfl, (Below.refl _ _).alloc (Nat.le_refl _) _⟩

set_option maxHeartbeats 2000000 in
set_option maxRecDepth 100000 in
theorem rmay_yes (p : Pre) (b2 : Bool) (h1 : (p.bits != 32) = b2) (h2 : b2 = true → (p.bits != 128) = false) (l : Nat) (hl : p.len = l) (hlb : (l : Int) ≤ p.bits) (h128 : l ≤ 128) (hk : Bytes16 p.key) (w : World) :
    Calls Try.prog 41 #[.agg (pc p)] w fun e w' => e = .returned (.bool (endsB p.key l)) ∧ Below w.heap.size w w' := by
  have hr := rowAt_new w (pc p) 26
  have hb : Below w.heap.size w (w.alloc (.cells (pc p) 26)) := (Below.refl _ _).alloc (Nat.le_refl _) _
  have hsz : (w.alloc (.cells (pc p) 26)).heap.size = w.heap.size + 1 := by simp
  obtain ⟨lp, kp, bp, np⟩ := onePre_of hr
  rw [hl] at np
  have hp := pc_bits p
  have hq := pc_len p
  rw [hl] at hq
  have HK := Lib.hid (fun w1 (h : Below (w.alloc (.cells (pc p) 26)).heap.size (w.alloc (.cells (pc p) 26)) w1) => onePre_of (hr.below h (by omega)))
  clear hl hsz hr
  cases b2 with
  | true =>
    have h2 := h2 rfl
    go_enter Try.func41, Try.ntmps41
    go_wp2
    generalize w.alloc (.cells (pc p) 26) = W at *
    clear lp kp bp np
    go_loopw [3] (fun t wr => ∃ i : Nat, l ≤ i ∧ i ≤ 128 ∧ t = .int .i64 i ∧ NoneSet p.key l i ∧ Below W.heap.size W wr) (fun t _ => 128 - (intOf t).toNat)
    case atStart => exact ⟨l, Nat.le_refl _, h128, rfl, fun j h3 h4 => absurd h3 (by omega), Below.refl _ _⟩
    case round =>
      obtain ⟨i, hi1, hi2, rfl, hns, hwr⟩ := hrel
      obtain ⟨lp, kp, bp, np⟩ := HK.out wr hwr
      by_cases hlt : i < 128
      · have hlt' : (i : Int) < 128 := by omega
        have C1 := rbit_any p.key i wr hk
        rw [bitZ_at _ _ hlt] at C1
        by_cases hbit : bt p.key i = 0
        · rw [hbit] at C1
          have HC := Lib.hid C1
          clear C1
          have hns2 : NoneSet p.key l (i + 1) := fun j h3 h4 => by
            by_cases e : j = i
            · rw [e, hbit]
            · exact hns j h3 (by omega)
          clear hbit
          go_wp2_with fail
          refine HC.out.mono ?_
          rintro e w1 ⟨rfl, g1⟩
          go_wp2
          go_roundw
          case rel => exact ⟨i + 1, by omega, by omega, by go_num, hns2, hwr.trans (g1.mono hwr.size)⟩
          case measure => simp [intOf]; omega
        · have hbit1 : bt p.key i = 1 := by have := bt_lt p.key i; omega
          have he : endsB p.key l = false := by
            cases e : endsB p.key l with
            | false => rfl
            | true => exact absurd ((endsB_iff hk l).1 e i hi1 hlt) hbit
          rw [hbit1] at C1
          have HC := Lib.hid C1
          have HE := Lib.hid he
          clear C1 he hbit hbit1
          go_wp2_with fail
          refine HC.out.mono ?_
          rintro e w1 ⟨rfl, g1⟩
          go_wp2
          go_ret
          exact ⟨ret_bool HE.out.symm, hb.trans ((hwr.trans (g1.mono hwr.size)).mono hb.size)⟩
      · obtain rfl : i = 128 := by omega
        have he : endsB p.key l = true := (endsB_iff hk l).2 fun j h3 h4 => hns j h3 h4
        have HE := Lib.hid he
        clear he
        go_wp2
        go_ret
        exact ⟨ret_bool HE.out.symm, hb.trans (hwr.mono hb.size)⟩
  | false =>
    clear h2
    go_enter Try.func41, Try.ntmps41
    go_wp2
    generalize w.alloc (.cells (pc p) 26) = W at *
    clear lp kp bp np
    go_loopw [3] (fun t wr => ∃ i : Nat, l ≤ i ∧ i ≤ 128 ∧ t = .int .i64 i ∧ NoneSet p.key l i ∧ Below W.heap.size W wr) (fun t _ => 128 - (intOf t).toNat)
    case atStart => exact ⟨l, Nat.le_refl _, h128, rfl, fun j h3 h4 => absurd h3 (by omega), Below.refl _ _⟩
    case round =>
      obtain ⟨i, hi1, hi2, rfl, hns, hwr⟩ := hrel
      obtain ⟨lp, kp, bp, np⟩ := HK.out wr hwr
      by_cases hlt : i < 128
      · have hlt' : (i : Int) < 128 := by omega
        have C1 := rbit_any p.key i wr hk
        rw [bitZ_at _ _ hlt] at C1
        by_cases hbit : bt p.key i = 0
        · rw [hbit] at C1
          have HC := Lib.hid C1
          clear C1
          have hns2 : NoneSet p.key l (i + 1) := fun j h3 h4 => by
            by_cases e : j = i
            · rw [e, hbit]
            · exact hns j h3 (by omega)
          clear hbit
          go_wp2_with fail
          refine HC.out.mono ?_
          rintro e w1 ⟨rfl, g1⟩
          go_wp2
          go_roundw
          case rel => exact ⟨i + 1, by omega, by omega, by go_num, hns2, hwr.trans (g1.mono hwr.size)⟩
          case measure => simp [intOf]; omega
        · have hbit1 : bt p.key i = 1 := by have := bt_lt p.key i; omega
          have he : endsB p.key l = false := by
            cases e : endsB p.key l with
            | false => rfl
            | true => exact absurd ((endsB_iff hk l).1 e i hi1 hlt) hbit
          rw [hbit1] at C1
          have HC := Lib.hid C1
          have HE := Lib.hid he
          clear C1 he hbit hbit1
          go_wp2_with fail
          refine HC.out.mono ?_
          rintro e w1 ⟨rfl, g1⟩
          go_wp2
          go_ret
          exact ⟨ret_bool HE.out.symm, hb.trans ((hwr.trans (g1.mono hwr.size)).mono hb.size)⟩
      · obtain rfl : i = 128 := by omega
        have he : endsB p.key l = true := (endsB_iff hk l).2 fun j h3 h4 => hns j h3 h4
        have HE := Lib.hid he
        clear he
        go_wp2
        go_ret
        exact ⟨ret_bool HE.out.symm, hb.trans (hwr.mono hb.size)⟩

theorem rmay_any (p : Pre) (hk : Bytes16 p.key) (w : World) :
    Calls Try.prog 41 #[.agg (pc p)] w fun e w' => e = .returned (.bool (mayB p)) ∧ Below w.heap.size w w' := by
  by_cases h : (p.bits = 32 ∨ p.bits = 128) ∧ 0 ≤ p.len ∧ p.len ≤ p.bits
  · obtain ⟨h1, h2, h3⟩ := h
    have e : mayB p = endsB p.key p.len.toNat := by
      unfold mayB
      have : (p.bits == 32 || p.bits == 128) = true := by simpa using h1
      rw [this]; simp [h2, h3]
    rw [e]
    exact rmay_yes p _ rfl (fun h4 => by rw [bne_iff_ne] at h4; rw [bne_eq_false_iff_eq]; omega) p.len.toNat (by omega) (by omega) (by omega) hk w
  · have e : mayB p = false := by
      cases e : mayB p with
      | false => rfl
      | true =>
        have := (mayB_iff p hk).1 e
        exact absurd ⟨this.1, this.2.1, this.2.2.1⟩ h
    rw [e]
    exact rmay_no p h w

/-- What holds of all rounds of Fits so far. -/
def FitsTo (p : Pre) (k : Nat → Nat) (i : Nat) : Prop := ∀ j : Nat, j < i → ((j : Int) < p.len → bt p.key j = bt k j) ∧ (p.bits ≤ (j : Int) → bt k j = 0)

set_option maxHeartbeats 4000000 in
set_option maxRecDepth 100000 in
theorem rfits_any (p : Pre) (k : Nat → Nat) (hp : Bytes16 p.key) (hk : Bytes16 k) (w : World) :
    Calls Try.prog 53 #[.agg (pc p), .agg (kc k)] w fun e w' => e = .returned (.bool (fitsB p k)) ∧ Below w.heap.size w w' := by
  obtain ⟨rp, rk, hb, hz⟩ := rows_two w (pc p) (kc k) 26 24
  have C1 := fun w => rmay_any p hp w
  generalize hW : (w.alloc (.cells (pc p) 26)).alloc (.cells (kc k) 24) = W at *
  have HW := Lib.hid hW
  have HK := Lib.hid (fun w1 (h : Below W.heap.size W w1) => (⟨rp.below h (by omega), rk.below h (by omega)⟩ : RowAt w1 w.heap.size 0 (pc p) ∧ RowAt w1 (w.heap.size + 1) 0 (kc k)))
  have lp := run_preLoad rp
  rw [← hW] at lp
  clear hW hz rp rk
  cases hm : mayB p with
  | false =>
    simp only [hm] at C1
    have HC := Lib.hid C1
    have HF := Lib.hid (fits_not (k := k) hm)
    clear C1 hm
    go_enter Try.func53, Try.ntmps53
    go_wp2_with fail
    rw [HW.out]
    refine (HC.out _).mono ?_
    rintro e w1 ⟨rfl, h1⟩
    go_wp2
    go_ret
    exact ⟨ret_bool HF.out.symm, hb.trans (h1.mono hb.size)⟩
  | true =>
    simp only [hm] at C1
    have HC := Lib.hid C1
    have hmm := (mayB_iff p hp).1 hm
    have hl0 := hmm.2.1
    have hlb := hmm.2.2.1
    have HM := Lib.hid hm
    clear C1 hm hmm
    go_enter Try.func53, Try.ntmps53
    go_wp2_with fail
    rw [HW.out]
    refine (HC.out _).mono ?_
    rintro e w1 ⟨rfl, h1⟩
    clear lp
    go_wp2
    go_loopw [5] (fun t wr => ∃ i : Nat, i ≤ 128 ∧ t = .int .i64 i ∧ FitsTo p k i ∧ Below W.heap.size W wr) (fun t _ => 128 - (intOf t).toNat)
    case atStart => exact ⟨0, Nat.zero_le _, rfl, fun j hj => absurd hj (Nat.not_lt_zero _), h1⟩
    case round =>
      clear h1
      obtain ⟨i, hi, rfl, hft, hwr⟩ := hrel
      obtain ⟨rp, rk⟩ := HK.out wr hwr
      have fin : ∀ w5, (∃ p : Regrown, w5 = grow (redrawn wr p.d) p.os) → Below W.heap.size W w5 := by
        rintro w5 ⟨p, rfl⟩
        exact hwr.trans ((below_regrown wr p.d p.os).mono hwr.size)
      have HF := Lib.hid fin
      clear fin
      by_cases hlt : i < 128
      · have hlt' : (i : Int) < 128 := by omega
        have L1 := fun d os => run_keyLoad (rowAt_regrown rp.key d os)
        have L2 := fun d os => run_keyLoad (rowAt_regrown rk d os)
        have c0 := cell_regrown rp.bits
        have c1 := cell_regrown rp.len
        simp only [Nat.zero_add] at L1 c1
        have C1 := fun d os => Calls.regrown_of (rbit_any p.key i (grow (redrawn wr d) os) hp)
        have C2 := fun d os => Calls.regrown_of (rbit_any k i (grow (redrawn wr d) os) hk)
        rw [bitZ_at _ _ hlt] at C1 C2
        clear rp rk hwr
        by_cases hil : (i : Int) < p.len
        · have d1 : decide ((i : Int) < p.len) = true := by rw [decide_eq_true_iff]; exact hil
          have d2 : decide (p.bits ≤ (i : Int)) = false := by rw [decide_eq_false_iff_not]; omega
          by_cases he : bt p.key i = bt k i
          · rw [he] at C1
            have hft2 : FitsTo p k (i + 1) := fun j hj => by
              by_cases e : j = i
              · rw [e]; exact ⟨fun _ => he, fun h => absurd h (by omega)⟩
              · exact hft j (by omega)
            clear he hil
            go_wp2
            refine wp_region_quiet_below (by kernel_rfl) (by kernel_rfl) ?_
            repeat (go_big_quiet_step ((with_reducible first | exact C1 _ _ | exact C2 _ _)))
            refine wpQuiet_nil fun w5 hw5 => ?_
            have hb5 := HF.out w5 hw5
            clear hw5 C1 C2 L1 L2 c0 c1 d1 d2
            go_wp2
            go_roundw
            case rel => exact ⟨i + 1, by omega, by go_num, hft2, hb5⟩
            case measure => simp [intOf]; omega
          · have hne : (((bt p.key i : Nat) : Int) != ((bt k i : Nat) : Int)) = true := by rw [bne_iff_ne]; omega
            have hf : fitsB p k = false := by
              cases e : fitsB p k with
              | false => rfl
              | true => exact absurd (((fitsB_iff p k hk).1 e).2.2 i hil) he
            have HR := Lib.hid hf
            clear hf he hil
            generalize bt p.key i = x at *
            generalize bt k i = y at *
            go_wp2
            refine wp_region_quiet_below (by kernel_rfl) (by kernel_rfl) ?_
            repeat (go_big_quiet_step ((with_reducible first | exact C1 _ _ | exact C2 _ _)))
            refine wpQuiet_nil fun w5 hw5 => ?_
            have hb5 := HF.out w5 hw5
            clear hw5 C1 C2 L1 L2 c0 c1 d1 d2 hne
            go_wp2
            go_ret
            exact ⟨ret_bool HR.out.symm, hb.trans (hb5.mono hb.size)⟩
        · have d1 : decide ((i : Int) < p.len) = false := by rw [decide_eq_false_iff_not]; exact hil
          by_cases hib : p.bits ≤ (i : Int)
          · have d2 : decide (p.bits ≤ (i : Int)) = true := by rw [decide_eq_true_iff]; exact hib
            by_cases he : bt k i = 0
            · rw [he] at C2
              have hft2 : FitsTo p k (i + 1) := fun j hj => by
                by_cases e : j = i
                · rw [e]; exact ⟨fun h => absurd h hil, fun _ => he⟩
                · exact hft j (by omega)
              clear he hil hib
              go_wp2
              refine wp_region_quiet_below (by kernel_rfl) (by kernel_rfl) ?_
              repeat (go_big_quiet_step ((with_reducible first | exact C1 _ _ | exact C2 _ _)))
              refine wpQuiet_nil fun w5 hw5 => ?_
              have hb5 := HF.out w5 hw5
              clear hw5 C1 C2 L1 L2 c0 c1 d1 d2
              go_wp2
              go_roundw
              case rel => exact ⟨i + 1, by omega, by go_num, hft2, hb5⟩
              case measure => simp [intOf]; omega
            · have he1 : bt k i = 1 := by have := bt_lt k i; omega
              rw [he1] at C2
              have hf : fitsB p k = false := by
                cases e : fitsB p k with
                | false => rfl
                | true => exact absurd (((fitsB_iff p k hk).1 e).2.1 i hib hlt) he
              have HR := Lib.hid hf
              clear hf he he1 hil hib
              go_wp2
              refine wp_region_quiet_below (by kernel_rfl) (by kernel_rfl) ?_
              repeat (go_big_quiet_step ((with_reducible first | exact C1 _ _ | exact C2 _ _)))
              refine wpQuiet_nil fun w5 hw5 => ?_
              have hb5 := HF.out w5 hw5
              clear hw5 C1 C2 L1 L2 c0 c1 d1 d2
              go_wp2
              go_ret
              exact ⟨ret_bool HR.out.symm, hb.trans (hb5.mono hb.size)⟩
          · have d2 : decide (p.bits ≤ (i : Int)) = false := by rw [decide_eq_false_iff_not]; exact hib
            have hft2 : FitsTo p k (i + 1) := fun j hj => by
              by_cases e : j = i
              · rw [e]; exact ⟨fun h => absurd h hil, fun h => absurd h hib⟩
              · exact hft j (by omega)
            clear hil hib
            go_wp2
            refine wp_region_quiet_below (by kernel_rfl) (by kernel_rfl) ?_
            repeat (go_big_quiet_step ((with_reducible first | exact C1 _ _ | exact C2 _ _)))
            refine wpQuiet_nil fun w5 hw5 => ?_
            have hb5 := HF.out w5 hw5
            clear hw5 C1 C2 L1 L2 c0 c1 d1 d2
            go_wp2
            go_roundw
            case rel => exact ⟨i + 1, by omega, by go_num, hft2, hb5⟩
            case measure => simp [intOf]; omega
      · obtain rfl : i = 128 := by omega
        have hf : fitsB p k = true := by
          obtain ⟨l1, l2, l3, _⟩ := may_len HM.out hp
          rw [fitsB_iff p k hk]
          exact ⟨HM.out, fun j h3 h4 => (hft j h4).2 h3, fun j h3 => (hft j (by omega)).1 h3⟩
        have HR := Lib.hid hf
        clear hf rp rk HF hlt hi
        go_wp2
        go_ret
        exact ⟨ret_bool HR.out.symm, hb.trans (hwr.mono hb.size)⟩

set_option maxHeartbeats 2000000 in
set_option maxRecDepth 100000 in
theorem rcovers_any (p q : Pre) (hp : Bytes16 p.key) (hq : Bytes16 q.key) (w : World) :
    Calls Try.prog 54 #[.agg (pc p), .agg (pc q)] w fun e w' => e = .returned (.bool (coversB p q)) ∧ Below w.heap.size w w' := by
  obtain ⟨rp, rq, hb, hz⟩ := rows_two w (pc p) (pc q) 26 26
  have C1 := rmay_any q hq ((w.alloc (.cells (pc p) 26)).alloc (.cells (pc q) 26))
  have HZ := Lib.hid hz
  clear hz
  have HF := Lib.hid (covers_cases p q)
  have T : ∀ w1, Below ((w.alloc (.cells (pc p) 26)).alloc (.cells (pc q) 26)).heap.size ((w.alloc (.cells (pc p) 26)).alloc (.cells (pc q) 26)) w1 → TwoPre w1 w.heap.size p q ∧ Below w.heap.size w w1 :=
    fun w1 h => ⟨twoPre_of (rp.below h (by rw [HZ.out]; omega)) (rq.below h (by rw [HZ.out]; omega)), hb.trans (h.mono hb.size)⟩
  obtain ⟨lp, lq, kp, kq, bp, bq, np, nq⟩ := twoPre_of rp rq
  have HT := Lib.hid T
  clear T hb
  cases hm : mayB q with
  | false =>
    rw [hm] at HF C1
    have HC := Lib.hid C1
    clear hm C1
    go_enter Try.func54, Try.ntmps54
    go_wp2_with (go_at_call 41; refine HC.out.mono ?_; rintro e w1 ⟨rfl, h1⟩; obtain ⟨-, hb1⟩ := HT.out w1 h1)
    go_ret
    exact ⟨ret_bool (by rw [HF.out]; rfl), hb1⟩
  | true =>
    rw [hm] at HF C1
    have HC := Lib.hid C1
    clear hm C1
    cases he : p.bits == q.bits with
    | false =>
      rw [he] at HF
      go_enter Try.func54, Try.ntmps54
      go_wp2_with (go_at_call 41; refine HC.out.mono ?_; rintro e w1 ⟨rfl, h1⟩; obtain ⟨⟨lp, lq, kp, kq, bp, bq, np, nq⟩, hb1⟩ := HT.out w1 h1)
      go_ret
      exact ⟨ret_bool (by rw [HF.out]; rfl), hb1⟩
    | true =>
      rw [he] at HF
      by_cases hl : p.len ≤ q.len
      · rw [if_pos hl] at HF
        go_enter Try.func54, Try.ntmps54
        go_wp2_with (first
          | (go_at_call 41; refine HC.out.mono ?_; rintro e w1 ⟨rfl, h1⟩; obtain ⟨⟨lp, lq, kp, kq, bp, bq, np, nq⟩, hb1⟩ := HT.out w1 h1)
          | (go_at_call 53; refine (rfits_any p q.key hp hq _).mono ?_; rintro e w2 ⟨rfl, h2⟩))
        go_ret
        exact ⟨ret_bool (by rw [HF.out]; rfl), hb1.trans (h2.mono hb1.size)⟩
      · rw [if_neg hl] at HF
        have hl2 : decide (p.len ≤ q.len) = false := by simpa using hl
        go_enter Try.func54, Try.ntmps54
        go_wp2_with (go_at_call 41; refine HC.out.mono ?_; rintro e w1 ⟨rfl, h1⟩; obtain ⟨⟨lp, lq, kp, kq, bp, bq, np, nq⟩, hb1⟩ := HT.out w1 h1)
        go_ret
        exact ⟨ret_bool (by rw [HF.out]; rfl), hb1⟩


end Go.Proofs.Ytggjcjijoihilaa
namespace Go.Proofs.Ytggjcjijoihilaa
open Go.RowKit Go.Sort
attribute [local go_sem ↓] loadVar_key loadVar_pre

theorem lessIn_com {p q : Pre} (hp : Bytes16 p.key) (hq : Bytes16 q.key) (hb : p.bits = q.bits) :
    (com p.key q.key = 128 → lessIn p q = decide (p.len < q.len)) ∧ (com p.key q.key < 128 → lessIn p q = (((bt p.key (com p.key q.key) : Nat) : Int) == 0)) := by
  unfold lessIn
  rw [if_pos hb]
  rcases num_com hp hq with ⟨h1, h2⟩ | ⟨h1, ⟨h2, h3, h4⟩ | ⟨h2, h3, h4⟩⟩
  · exact ⟨fun _ => by rw [if_pos h2], fun h => by omega⟩
  · exact ⟨fun h => by omega, fun _ => by rw [if_neg (by omega), h2]; simp [h4]⟩
  · exact ⟨fun h => by omega, fun _ => by rw [if_neg (by omega), h2]; simp; omega⟩

set_option maxHeartbeats 4000000 in
set_option maxRecDepth 100000 in
theorem rless_any (p q : Pre) (hp : Bytes16 p.key) (hq : Bytes16 q.key) (w : World) :
    Calls Try.prog 42 #[.agg (pc p), .agg (pc q)] w fun e w' => e = .returned (.bool (lessB p q)) ∧ Below w.heap.size w w' := by
  obtain ⟨rp, rq, hb, hz⟩ := rows_two w (pc p) (pc q) 26 26
  have C1 := fun w => rmay_any p hp w
  have C2 := fun w => rmay_any q hq w
  have HF := Lib.hid (less_cases p q)
  generalize hW : (w.alloc (.cells (pc p) 26)).alloc (.cells (pc q) 26) = W at *
  have HW := Lib.hid hW
  have HT := Lib.hid (fun w1 (h : Below W.heap.size W w1) => (⟨twoPre_of (rp.below h (by omega)) (rq.below h (by omega)), rp.below h (by omega), rq.below h (by omega)⟩ : TwoPre w1 w.heap.size p q ∧ RowAt w1 w.heap.size 0 (pc p) ∧ RowAt w1 (w.heap.size + 1) 0 (pc q)))
  have lp := run_preLoad rp
  rw [← hW] at lp
  clear hW hz rp rq
  cases hm : mayB p with
  | false =>
    rw [hm] at HF
    simp only [hm] at C1
    have HC := Lib.hid C1
    clear hm C1 C2
    go_enter Try.func42, Try.ntmps42
    go_wp2_with fail
    rw [HW.out]
    refine (HC.out _).mono ?_
    rintro e w1 ⟨rfl, h1⟩
    go_wp2
    go_ret
    exact ⟨ret_bool (by rw [HF.out]; rfl), hb.trans (h1.mono hb.size)⟩
  | true =>
    rw [hm] at HF
    simp only [hm] at C1
    have HC := Lib.hid C1
    clear hm C1
    cases hm : mayB q with
    | false =>
      rw [hm] at HF
      simp only [hm] at C2
      have HD := Lib.hid C2
      clear hm C2
      go_enter Try.func42, Try.ntmps42
      go_wp2_with fail
      rw [HW.out]
      refine (HC.out _).mono ?_
      rintro e w1 ⟨rfl, h1⟩
      obtain ⟨⟨lp, lq, kp, kq, bp, bq, np, nq⟩, -, -⟩ := HT.out w1 h1
      go_wp2_with fail
      refine (HD.out _).mono ?_
      rintro e w2 ⟨rfl, h2⟩
      go_wp2
      go_ret
      exact ⟨ret_bool (by rw [HF.out]; rfl), hb.trans ((h1.trans (h2.mono h1.size)).mono hb.size)⟩
    | true =>
      rw [hm] at HF
      simp only [hm] at C2
      have HD := Lib.hid C2
      clear hm C2
      by_cases hbits : p.bits = q.bits
      · have hne : (p.bits != q.bits) = false := by simpa using hbits
        have HL := Lib.hid (lessIn_com hp hq hbits)
        clear hbits
        go_enter Try.func42, Try.ntmps42
        go_wp2_with fail
        rw [HW.out]
        refine (HC.out _).mono ?_
        rintro e w1 ⟨rfl, h1⟩
        obtain ⟨⟨lp, lq, kp, kq, bp, bq, np, nq⟩, -, -⟩ := HT.out w1 h1
        go_wp2_with fail
        refine (HD.out _).mono ?_
        clear lp lq kp kq bp bq np nq
        rintro e w2 ⟨rfl, h2⟩
        have h2 := h1.trans (h2.mono h1.size)
        obtain ⟨⟨lp, lq, kp, kq, bp, bq, np, nq⟩, -, -⟩ := HT.out w2 h2
        go_wp2
        clear lp lq kp kq bp bq np nq hne
        go_loopw [5] (fun t wr => ∃ i : Nat, i ≤ com p.key q.key ∧ t = .int .i64 i ∧ Below W.heap.size W wr) (fun t _ => 128 - (intOf t).toNat)
        case atStart => exact ⟨0, Nat.zero_le _, rfl, h2⟩
        case round =>
          clear h1 h2
          obtain ⟨i, hi, rfl, hwr⟩ := hrel
          have hi128 := (com_is p.key q.key).le
          obtain ⟨⟨lp, lq, kp, kq, bp, bq, np, nq⟩, rp, rq⟩ := HT.out wr hwr
          have fin : ∀ w5, (∃ p : Regrown, w5 = grow (redrawn wr p.d) p.os) → Below W.heap.size W w5 := by
            rintro w5 ⟨p, rfl⟩
            exact hwr.trans ((below_regrown wr p.d p.os).mono hwr.size)
          have HG := Lib.hid fin
          clear fin
          by_cases hlt : i < 128
          · have hlt' : (i : Int) < 128 := by omega
            have L1 := fun d os => run_keyLoad (rowAt_regrown rp.key d os)
            have L2 := fun d os => run_keyLoad (rowAt_regrown rq.key d os)
            simp only [Nat.zero_add] at L1 L2
            have C1 := fun d os => Calls.regrown_of (rbit_any p.key i (grow (redrawn wr d) os) hp)
            have C2 := fun d os => Calls.regrown_of (rbit_any q.key i (grow (redrawn wr d) os) hq)
            have C3 := fun w => rbit_any p.key i w hp
            simp only [bitZ_at _ _ hlt] at C1 C2 C3
            have HB := Lib.hid C3
            clear rp rq hwr C3 lp lq kp kq bp bq np nq
            by_cases he : i < com p.key q.key
            · rw [(com_is p.key q.key).same i he] at C1
              go_wp2
              refine wp_region_quiet_below (by kernel_rfl) (by kernel_rfl) ?_
              repeat (go_big_quiet_step ((with_reducible first | exact C1 _ _ | exact C2 _ _)))
              refine wpQuiet_nil fun w5 hw5 => ?_
              have hb5 := HG.out w5 hw5
              clear hw5 C1 C2 L1 L2
              go_wp2
              go_roundw
              case rel => exact ⟨i + 1, by omega, by go_num, hb5⟩
              case measure => simp [intOf]; omega
            · have hic : i = com p.key q.key := by omega
              have hlc : com p.key q.key < 128 := by omega
              have hne : (((bt p.key i : Nat) : Int) != ((bt q.key i : Nat) : Int)) = true := by
                rw [bne_iff_ne]
                have := (com_is p.key q.key).part hlc
                rw [hic]; omega
              have hl := HL.out.2 hlc
              rw [← hic] at hl
              have HR := Lib.hid hl
              clear hl he hi hic hlc hi128
              generalize bt p.key i = x at *
              generalize bt q.key i = y at *
              go_wp2
              refine wp_region_quiet_below (by kernel_rfl) (by kernel_rfl) ?_
              repeat (go_big_quiet_step ((with_reducible first | exact C1 _ _ | exact C2 _ _)))
              refine wpQuiet_nil fun w5 hw5 => ?_
              have hb5 := HG.out w5 hw5
              obtain ⟨⟨lp, lq, kp, kq, bp, bq, np, nq⟩, -, -⟩ := HT.out w5 hb5
              clear hw5 C1 C2 L1 L2
              go_wp2_with fail
              refine (HB.out _).mono ?_
              rintro e w6 ⟨rfl, h6⟩
              go_wp2
              go_ret
              exact ⟨ret_bool (by rw [HF.out, HR.out]; simp), hb.trans ((hb5.trans (h6.mono hb5.size)).mono hb.size)⟩
          · obtain rfl : i = 128 := by omega
            have hl := HL.out.1 (by omega)
            have HR := Lib.hid hl
            clear hl rp rq HG hlt hi hi128
            go_wp2
            go_ret
            exact ⟨ret_bool (by rw [HF.out, HR.out]; simp), hb.trans (hwr.mono hb.size)⟩
      · have hne : (p.bits != q.bits) = true := by simpa using hbits
        have HL := Lib.hid (show lessIn p q = decide (p.bits < q.bits) by unfold lessIn; rw [if_neg hbits])
        clear hbits
        go_enter Try.func42, Try.ntmps42
        go_wp2_with fail
        rw [HW.out]
        refine (HC.out _).mono ?_
        rintro e w1 ⟨rfl, h1⟩
        obtain ⟨⟨lp, lq, kp, kq, bp, bq, np, nq⟩, -, -⟩ := HT.out w1 h1
        go_wp2_with fail
        refine (HD.out _).mono ?_
        clear lp lq kp kq bp bq np nq
        rintro e w2 ⟨rfl, h2⟩
        have h2 := h1.trans (h2.mono h1.size)
        obtain ⟨⟨lp, lq, kp, kq, bp, bq, np, nq⟩, -, -⟩ := HT.out w2 h2
        go_wp2
        go_ret
        exact ⟨ret_bool (by rw [HF.out, ← HL.out]; simp), hb.trans (h2.mono hb.size)⟩

end Go.Proofs.Ytggjcjijoihilaa
