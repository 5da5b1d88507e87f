/- key.May: what it hands back; of what was there nothing has turned. -/
import Derived.Test.YtlokhhochhajmaaDoorKeyCut
import Derived.Test.YtlokhhochhajmaaDoorKeyEnds
namespace Go.Proofs.YtlokhhochhajmaaDoor
open Go.RowKit Go.Sort
attribute [local go_sem ↓] loadVar_key loadVar_pre

theorem RowAt.bits {w : World} {b off : Nat} {p : Pre} (h : RowAt w b off (pc p)) : w.cell? ⟨b, off, none⟩ = some (.int .i64 p.bits) := h 0 _ (pc_bits p)

theorem RowAt.len {w : World} {b off : Nat} {p : Pre} (h : RowAt w b off (pc p)) : w.cell? ⟨b, off + 1, none⟩ = some (.int .i64 p.len) := h 1 _ (pc_len p)

set_option maxHeartbeats 400000 in
set_option maxRecDepth 100000 in
theorem may_no (p : Pre) (h : ¬ (p.bits = 32 ∨ p.bits = 128)) (w : World) :
    Calls Tryd.prog 22 #[.agg (pc p)] w fun e w' => e = .returned (.bool false) ∧ Below w.heap.size w w' := by
  have h1 : (p.bits != 32) = true := by rw [bne_iff_ne]; omega
  have h2 : (p.bits != 128) = true := by rw [bne_iff_ne]; omega
  have hp := pc_bits p
  go_enter Tryd.func22, Tryd.ntmps22
  go_wp2
  go_ret
  exact ⟨rfl, (Below.refl _ _).alloc (Nat.le_refl _) _⟩

set_option maxHeartbeats 1000000 in
set_option maxRecDepth 100000 in
theorem may_yes (p : Pre) (b2 : Bool) (h1 : (p.bits != 32) = b2) (h2 : b2 = true → (p.bits != 128) = false) (hk : Bytes16 p.key) (w : World) :
    Calls Tryd.prog 22 #[.agg (pc p)] w fun e w' => e = .returned (.bool (decide (0 ≤ p.len) && decide (p.len ≤ p.bits) && endsB p.key p.len.toNat)) ∧ Below w.heap.size w w' := by
  have hr := rowAt_new w (pc p) 25
  have hb : Below w.heap.size w (w.alloc (.cells (pc p) 25)) := (Below.refl _ _).alloc (Nat.le_refl _) _
  have hp := pc_bits p
  have hq := pc_len p
  have L := run_keyLoad hr.key
  have hsz : (w.alloc (.cells (pc p) 25)).heap.size = w.heap.size + 1 := by simp
  cases b2 with
  | true =>
    have h2 := h2 rfl
    by_cases h3 : 0 ≤ p.len
    · by_cases h4 : p.len ≤ p.bits
      · have HF : Hid ((decide (0 ≤ p.len) && decide (p.len ≤ p.bits) && endsB p.key p.len.toNat) = endsB p.key p.len.toNat) := by show _ = _; simp [h3, h4]
        go_enter Tryd.func22, Tryd.ntmps22
        go_wp2_with (go_at_call 36; refine (ends_any cut_any p.key p.len _ hk).mono ?_; rintro e w' ⟨rfl, hb1⟩)
        go_ret
        exact ⟨ret_bool HF.out.symm, hb.trans (hb1.mono (by rw [hsz]; omega))⟩
      · go_enter Tryd.func22, Tryd.ntmps22
        go_wp2
        go_ret
        exact ⟨ret_bool (by simp; intro h5; omega), hb⟩
    · have HF : Hid ((decide (0 ≤ p.len) && decide (p.len ≤ p.bits) && endsB p.key p.len.toNat) = false) := by show _ = _; simp [h3]
      go_enter Tryd.func22, Tryd.ntmps22
      go_wp2
      go_ret
      exact ⟨ret_bool HF.out.symm, hb⟩
  | false =>
    clear h2
    by_cases h3 : 0 ≤ p.len
    · by_cases h4 : p.len ≤ p.bits
      · have HF : Hid ((decide (0 ≤ p.len) && decide (p.len ≤ p.bits) && endsB p.key p.len.toNat) = endsB p.key p.len.toNat) := by show _ = _; simp [h3, h4]
        go_enter Tryd.func22, Tryd.ntmps22
        go_wp2_with (go_at_call 36; refine (ends_any cut_any p.key p.len _ hk).mono ?_; rintro e w' ⟨rfl, hb1⟩)
        go_ret
        exact ⟨ret_bool HF.out.symm, hb.trans (hb1.mono (by rw [hsz]; omega))⟩
      · go_enter Tryd.func22, Tryd.ntmps22
        go_wp2
        go_ret
        exact ⟨ret_bool (by simp; intro h5; omega), hb⟩
    · have HF : Hid ((decide (0 ≤ p.len) && decide (p.len ≤ p.bits) && endsB p.key p.len.toNat) = false) := by show _ = _; simp [h3]
      go_enter Tryd.func22, Tryd.ntmps22
      go_wp2
      go_ret
      exact ⟨ret_bool HF.out.symm, hb⟩

theorem may_any (p : Pre) (hk : Bytes16 p.key) (w : World) :
    Calls Tryd.prog 22 #[.agg (pc p)] w fun e w' => e = .returned (.bool (mayB p)) ∧ Below w.heap.size w w' := by
  by_cases h : p.bits = 32 ∨ p.bits = 128
  · have e : mayB p = (decide (0 ≤ p.len) && decide (p.len ≤ p.bits) && endsB p.key p.len.toNat) := by
      unfold mayB
      have : (p.bits == 32 || p.bits == 128) = true := by simpa using h
      rw [this, Bool.true_and]
    rw [e]
    exact may_yes p _ rfl (fun h2 => by rw [bne_iff_ne] at h2; rw [bne_eq_false_iff_eq]; omega) hk w
  · have e : mayB p = false := by
      unfold mayB
      have : (p.bits == 32 || p.bits == 128) = false := by simpa using h
      rw [this]; rfl
    rw [e]
    exact may_no p h w

end Go.Proofs.YtlokhhochhajmaaDoor
