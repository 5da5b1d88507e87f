/- The document's own May of layer 1. -/
import Derived.Test.YtlokhhochhajmaaDoorRefBit
import Derived.Test.YtlokhhochhajmaaDoorKeyMay
namespace Go.Proofs.YtlokhhochhajmaaDoor
open Go.RowKit Go.Sort
attribute [local go_sem ↓] loadVar_key loadVar_pre

/-- No bit of a key is set from a place on, up to another one. -/
def NoneSet (k : Nat → Nat) (l i : Nat) : Prop := ∀ j, l ≤ j → j < i → bt k j = 0

/-- What is known of a world in which one prefix lies. -/
structure OnePre (w : World) (B : Nat) (p : Pre) : Prop where
  lp : (preLoad ⟨B, 0, none⟩).run Tryd.prog w = .ok (.agg (pc p)) w
  kp : (keyLoad ⟨B, 2, none⟩).run Tryd.prog w = .ok (.agg (kc p.key)) w
  bp : w.cell? ⟨B, 0, none⟩ = some (.int .i64 p.bits)
  np : w.cell? ⟨B, 1, none⟩ = some (.int .i64 p.len)

theorem onePre_of {w : World} {B : Nat} {p : Pre} (rp : RowAt w B 0 (pc p)) : OnePre w B p := ⟨run_preLoad rp, run_keyLoad rp.key, rp.bits, by simpa using rp.len⟩

set_option maxHeartbeats 400000 in
set_option maxRecDepth 100000 in
theorem rmay_no (p : Pre) (h : ¬ ((p.bits = 32 ∨ p.bits = 128) ∧ 0 ≤ p.len ∧ p.len ≤ p.bits)) (w : World) :
    Calls Tryd.prog 24 #[.agg (pc p)] w fun e w' => e = .returned (.bool false) ∧ Below w.heap.size w w' := by
  have hp := pc_bits p
  have hl := pc_len p
  by_cases h32 : p.bits = 32
  · have b1 : (p.bits != 32) = false := by rw [bne_eq_false_iff_eq]; exact h32
    by_cases h0 : p.len < 0
    · clear h h32
      go_enter Tryd.func24, Tryd.ntmps24
      go_wp2
      go_ret
      exact ⟨rfl, (Below.refl _ _).alloc (Nat.le_refl _) _⟩
    · have h1 : p.bits < p.len := by omega
      clear h h32
      go_enter Tryd.func24, Tryd.ntmps24
      go_wp2
      go_ret
      exact ⟨rfl, (Below.refl _ _).alloc (Nat.le_refl _) _⟩
  · have b1 : (p.bits != 32) = true := by rw [bne_iff_ne]; exact h32
    by_cases h128 : p.bits = 128
    · have b2 : (p.bits != 128) = false := by rw [bne_eq_false_iff_eq]; exact h128
      by_cases h0 : p.len < 0
      · clear h h32 h128
        go_enter Tryd.func24, Tryd.ntmps24
        go_wp2
        go_ret
        exact ⟨rfl, (Below.refl _ _).alloc (Nat.le_refl _) _⟩
      · have h1 : p.bits < p.len := by omega
        clear h h32 h128
        go_enter Tryd.func24, Tryd.ntmps24
        go_wp2
        go_ret
        exact ⟨rfl, (Below.refl _ _).alloc (Nat.le_refl _) _⟩
    · have b2 : (p.bits != 128) = true := by rw [bne_iff_ne]; exact h128
      clear h h32 h128
      go_enter Tryd.func24, Tryd.ntmps24
      go_wp2
      go_ret
      exact ⟨rfl, (Below.refl _ _).alloc (Nat.le_refl _) _⟩

set_option maxHeartbeats 2000000 in
set_option maxRecDepth 100000 in
theorem rmay_yes (p : Pre) (b2 : Bool) (h1 : (p.bits != 32) = b2) (h2 : b2 = true → (p.bits != 128) = false) (l : Nat) (hl : p.len = l) (hlb : (l : Int) ≤ p.bits) (h128 : l ≤ 128) (hk : Bytes16 p.key) (w : World) :
    Calls Tryd.prog 24 #[.agg (pc p)] w fun e w' => e = .returned (.bool (endsB p.key l)) ∧ Below w.heap.size w w' := by
  have hr := rowAt_new w (pc p) 25
  have hb : Below w.heap.size w (w.alloc (.cells (pc p) 25)) := (Below.refl _ _).alloc (Nat.le_refl _) _
  have hsz : (w.alloc (.cells (pc p) 25)).heap.size = w.heap.size + 1 := by simp
  obtain ⟨lp, kp, bp, np⟩ := onePre_of hr
  rw [hl] at np
  have hp := pc_bits p
  have hq := pc_len p
  rw [hl] at hq
  have HK := Lib.hid (fun w1 (h : Below (w.alloc (.cells (pc p) 25)).heap.size (w.alloc (.cells (pc p) 25)) w1) => onePre_of (hr.below h (by omega)))
  clear hl hsz hr
  cases b2 with
  | true =>
    have h2 := h2 rfl
    go_enter Tryd.func24, Tryd.ntmps24
    go_wp2
    generalize w.alloc (.cells (pc p) 25) = W at *
    clear lp kp bp np
    go_loopw [3] (fun t wr => ∃ i : Nat, l ≤ i ∧ i ≤ 128 ∧ t = .int .i64 i ∧ NoneSet p.key l i ∧ Below W.heap.size W wr) (fun t _ => 128 - (intOf t).toNat)
    case atStart => exact ⟨l, Nat.le_refl _, h128, rfl, fun j h3 h4 => absurd h3 (by omega), Below.refl _ _⟩
    case round =>
      obtain ⟨i, hi1, hi2, rfl, hns, hwr⟩ := hrel
      obtain ⟨lp, kp, bp, np⟩ := HK.out wr hwr
      by_cases hlt : i < 128
      · have hlt' : (i : Int) < 128 := by omega
        have C1 := rbit_any p.key i wr hk
        rw [bitZ_at _ _ hlt] at C1
        by_cases hbit : bt p.key i = 0
        · rw [hbit] at C1
          have HC := Lib.hid C1
          clear C1
          have hns2 : NoneSet p.key l (i + 1) := fun j h3 h4 => by
            by_cases e : j = i
            · rw [e, hbit]
            · exact hns j h3 (by omega)
          clear hbit
          go_wp2_with fail
          refine HC.out.mono ?_
          rintro e w1 ⟨rfl, g1⟩
          go_wp2
          go_roundw
          case rel => exact ⟨i + 1, by omega, by omega, by go_num, hns2, hwr.trans (g1.mono hwr.size)⟩
          case measure => simp [intOf]; omega
        · have hbit1 : bt p.key i = 1 := by have := bt_lt p.key i; omega
          have he : endsB p.key l = false := by
            cases e : endsB p.key l with
            | false => rfl
            | true => exact absurd ((endsB_iff hk l).1 e i hi1 hlt) hbit
          rw [hbit1] at C1
          have HC := Lib.hid C1
          have HE := Lib.hid he
          clear C1 he hbit hbit1
          go_wp2_with fail
          refine HC.out.mono ?_
          rintro e w1 ⟨rfl, g1⟩
          go_wp2
          go_ret
          exact ⟨ret_bool HE.out.symm, hb.trans ((hwr.trans (g1.mono hwr.size)).mono hb.size)⟩
      · obtain rfl : i = 128 := by omega
        have he : endsB p.key l = true := (endsB_iff hk l).2 fun j h3 h4 => hns j h3 h4
        have HE := Lib.hid he
        clear he
        go_wp2
        go_ret
        exact ⟨ret_bool HE.out.symm, hb.trans (hwr.mono hb.size)⟩
  | false =>
    clear h2
    go_enter Tryd.func24, Tryd.ntmps24
    go_wp2
    generalize w.alloc (.cells (pc p) 25) = W at *
    clear lp kp bp np
    go_loopw [3] (fun t wr => ∃ i : Nat, l ≤ i ∧ i ≤ 128 ∧ t = .int .i64 i ∧ NoneSet p.key l i ∧ Below W.heap.size W wr) (fun t _ => 128 - (intOf t).toNat)
    case atStart => exact ⟨l, Nat.le_refl _, h128, rfl, fun j h3 h4 => absurd h3 (by omega), Below.refl _ _⟩
    case round =>
      obtain ⟨i, hi1, hi2, rfl, hns, hwr⟩ := hrel
      obtain ⟨lp, kp, bp, np⟩ := HK.out wr hwr
      by_cases hlt : i < 128
      · have hlt' : (i : Int) < 128 := by omega
        have C1 := rbit_any p.key i wr hk
        rw [bitZ_at _ _ hlt] at C1
        by_cases hbit : bt p.key i = 0
        · rw [hbit] at C1
          have HC := Lib.hid C1
          clear C1
          have hns2 : NoneSet p.key l (i + 1) := fun j h3 h4 => by
            by_cases e : j = i
            · rw [e, hbit]
            · exact hns j h3 (by omega)
          clear hbit
          go_wp2_with fail
          refine HC.out.mono ?_
          rintro e w1 ⟨rfl, g1⟩
          go_wp2
          go_roundw
          case rel => exact ⟨i + 1, by omega, by omega, by go_num, hns2, hwr.trans (g1.mono hwr.size)⟩
          case measure => simp [intOf]; omega
        · have hbit1 : bt p.key i = 1 := by have := bt_lt p.key i; omega
          have he : endsB p.key l = false := by
            cases e : endsB p.key l with
            | false => rfl
            | true => exact absurd ((endsB_iff hk l).1 e i hi1 hlt) hbit
          rw [hbit1] at C1
          have HC := Lib.hid C1
          have HE := Lib.hid he
          clear C1 he hbit hbit1
          go_wp2_with fail
          refine HC.out.mono ?_
          rintro e w1 ⟨rfl, g1⟩
          go_wp2
          go_ret
          exact ⟨ret_bool HE.out.symm, hb.trans ((hwr.trans (g1.mono hwr.size)).mono hb.size)⟩
      · obtain rfl : i = 128 := by omega
        have he : endsB p.key l = true := (endsB_iff hk l).2 fun j h3 h4 => hns j h3 h4
        have HE := Lib.hid he
        clear he
        go_wp2
        go_ret
        exact ⟨ret_bool HE.out.symm, hb.trans (hwr.mono hb.size)⟩

theorem rmay_any (p : Pre) (hk : Bytes16 p.key) (w : World) :
    Calls Tryd.prog 24 #[.agg (pc p)] w fun e w' => e = .returned (.bool (mayB p)) ∧ Below w.heap.size w w' := by
  by_cases h : (p.bits = 32 ∨ p.bits = 128) ∧ 0 ≤ p.len ∧ p.len ≤ p.bits
  · obtain ⟨h1, h2, h3⟩ := h
    have e : mayB p = endsB p.key p.len.toNat := by
      unfold mayB
      have : (p.bits == 32 || p.bits == 128) = true := by simpa using h1
      rw [this]; simp [h2, h3]
    rw [e]
    exact rmay_yes p _ rfl (fun h4 => by rw [bne_iff_ne] at h4; rw [bne_eq_false_iff_eq]; omega) p.len.toNat (by omega) (by omega) (by omega) hk w
  · have e : mayB p = false := by
      cases e : mayB p with
      | false => rfl
      | true =>
        have := (mayB_iff p hk).1 e
        exact absurd ⟨this.1, this.2.1, this.2.2.1⟩ h
    rw [e]
    exact rmay_no p h w

end Go.Proofs.YtlokhhochhajmaaDoor
