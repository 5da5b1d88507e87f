/- key.May, Fits, Covers: what each call hands back; of what was there nothing has turned. -/
import Derived.Test.YtcpdpcfejpbdpaaKeyCom
import Derived.Test.YtcpdpcfejpbdpaaKeyCut
import Derived.Test.YtcpdpcfejpbdpaaKeyEnds
namespace Go.Proofs.Ytcpdpcfejpbdpaa
open Go.RowKit Go.Sort
attribute [local go_sem ↓] loadVar_key loadVar_pre

theorem ret_bool {a b : Bool} (h : a = b) : Ending.returned (.bool a) = .returned (.bool b) := by rw [h]

theorem RowAt.bits {w : World} {b off : Nat} {p : Pre} (h : RowAt w b off (pc p)) : w.cell? ⟨b, off, none⟩ = some (.int .i64 p.bits) := h 0 _ (pc_bits p)
theorem RowAt.len {w : World} {b off : Nat} {p : Pre} (h : RowAt w b off (pc p)) : w.cell? ⟨b, off + 1, none⟩ = some (.int .i64 p.len) := h 1 _ (pc_len p)

set_option maxHeartbeats 400000 in
set_option maxRecDepth 100000 in
theorem may_no (p : Pre) (h : ¬ (p.bits = 32 ∨ p.bits = 128)) (w : World) :
    Calls Try.prog 25 #[.agg (pc p)] w fun e w' => e = .returned (.bool false) ∧ Below w.heap.size w w' := by
  have h1 : (p.bits != 32) = true := by rw [bne_iff_ne]; omega
  have h2 : (p.bits != 128) = true := by rw [bne_iff_ne]; omega
  have hp := pc_bits p
  go_enter Try.func25, Try.ntmps25
  go_wp2
  go_ret
  exact ⟨rfl, (Below.refl _ _).alloc (Nat.le_refl _) _⟩

set_option maxHeartbeats 1000000 in
set_option maxRecDepth 100000 in
theorem may_yes (p : Pre) (b2 : Bool) (h1 : (p.bits != 32) = b2) (h2 : b2 = true → (p.bits != 128) = false) (hk : Bytes16 p.key) (w : World) :
    Calls Try.prog 25 #[.agg (pc p)] w fun e w' => e = .returned (.bool (decide (0 ≤ p.len) && decide (p.len ≤ p.bits) && endsB p.key p.len.toNat)) ∧ Below w.heap.size w w' := by
  have hr := rowAt_new w (pc p) 26
  have hb : Below w.heap.size w (w.alloc (.cells (pc p) 26)) := (Below.refl _ _).alloc (Nat.le_refl _) _
  have hp := pc_bits p
  have hq := pc_len p
  have L := run_keyLoad hr.key
  have hsz : (w.alloc (.cells (pc p) 26)).heap.size = w.heap.size + 1 := by simp
  cases b2 with
  | true =>
    have h2 := h2 rfl
    by_cases h3 : 0 ≤ p.len
    · by_cases h4 : p.len ≤ p.bits
      · have HF : Hid ((decide (0 ≤ p.len) && decide (p.len ≤ p.bits) && endsB p.key p.len.toNat) = endsB p.key p.len.toNat) := by show _ = _; simp [h3, h4]
        go_enter Try.func25, Try.ntmps25
        go_wp2_with (go_at_call 45; refine (ends_any cut_any p.key p.len _ hk).mono ?_; rintro e w' ⟨rfl, hb1⟩)
        go_ret
        exact ⟨ret_bool HF.out.symm, hb.trans (hb1.mono (by rw [hsz]; omega))⟩
      · go_enter Try.func25, Try.ntmps25
        go_wp2
        go_ret
        exact ⟨ret_bool (by simp; intro h5; omega), hb⟩
    · have HF : Hid ((decide (0 ≤ p.len) && decide (p.len ≤ p.bits) && endsB p.key p.len.toNat) = false) := by show _ = _; simp [h3]
      go_enter Try.func25, Try.ntmps25
      go_wp2
      go_ret
      exact ⟨ret_bool HF.out.symm, hb⟩
  | false =>
    clear h2
    by_cases h3 : 0 ≤ p.len
    · by_cases h4 : p.len ≤ p.bits
      · have HF : Hid ((decide (0 ≤ p.len) && decide (p.len ≤ p.bits) && endsB p.key p.len.toNat) = endsB p.key p.len.toNat) := by show _ = _; simp [h3, h4]
        go_enter Try.func25, Try.ntmps25
        go_wp2_with (go_at_call 45; refine (ends_any cut_any p.key p.len _ hk).mono ?_; rintro e w' ⟨rfl, hb1⟩)
        go_ret
        exact ⟨ret_bool HF.out.symm, hb.trans (hb1.mono (by rw [hsz]; omega))⟩
      · go_enter Try.func25, Try.ntmps25
        go_wp2
        go_ret
        exact ⟨ret_bool (by simp; intro h5; omega), hb⟩
    · have HF : Hid ((decide (0 ≤ p.len) && decide (p.len ≤ p.bits) && endsB p.key p.len.toNat) = false) := by show _ = _; simp [h3]
      go_enter Try.func25, Try.ntmps25
      go_wp2
      go_ret
      exact ⟨ret_bool HF.out.symm, hb⟩

theorem may_any (p : Pre) (hk : Bytes16 p.key) (w : World) :
    Calls Try.prog 25 #[.agg (pc p)] w fun e w' => e = .returned (.bool (mayB p)) ∧ Below w.heap.size w w' := by
  by_cases h : p.bits = 32 ∨ p.bits = 128
  · have e : mayB p = (decide (0 ≤ p.len) && decide (p.len ≤ p.bits) && endsB p.key p.len.toNat) := by
      unfold mayB
      have : (p.bits == 32 || p.bits == 128) = true := by simpa using h
      rw [this, Bool.true_and]
    rw [e]
    exact may_yes p _ rfl (fun h2 => by rw [bne_iff_ne] at h2; rw [bne_eq_false_iff_eq]; omega) hk w
  · have e : mayB p = false := by
      unfold mayB
      have : (p.bits == 32 || p.bits == 128) = false := by simpa using h
      rw [this]; rfl
    rw [e]
    exact may_no p h w

/-- A contract of a callee in a region that draws its order: met in every world that may stand there. -/
theorem fits_cases (p : Pre) (k : Nat → Nat) : fitsB p k = if mayB p = true then (if endsB k p.bits.toNat = true then decide (p.len ≤ (com p.key k : Int)) else false) else false := by
  unfold fitsB
  cases mayB p <;> cases endsB k p.bits.toNat <;> simp

set_option maxHeartbeats 1000000 in
set_option maxRecDepth 100000 in
theorem fits_any (p : Pre) (k : Nat → Nat) (hp : Bytes16 p.key) (hk : Bytes16 k) (w : World) :
    Calls Try.prog 22 #[.agg (pc p), .agg (kc k)] w fun e w' => e = .returned (.bool (fitsB p k)) ∧ Below w.heap.size w w' := by
  have hb : Below w.heap.size w ((w.alloc (.cells (pc p) 26)).alloc (.cells (kc k) 24)) := ((Below.refl _ _).alloc (Nat.le_refl _) _).alloc (by simp) _
  have rp : RowAt ((w.alloc (.cells (pc p) 26)).alloc (.cells (kc k) 24)) w.heap.size 0 (pc p) := (rowAt_new w (pc p) _).below (B := w.heap.size + 1) ((Below.refl _ _).alloc (by simp) _) (by omega)
  have rk : RowAt ((w.alloc (.cells (pc p) 26)).alloc (.cells (kc k) 24)) (w.heap.size + 1) 0 (kc k) := by simpa using rowAt_new (w.alloc (.cells (pc p) 26)) (kc k) 24
  have HF := show Hid _ from fits_cases p k
  cases hm : mayB p with
  | false =>
    rw [hm] at HF
    have HM := show Hid _ from hm
    clear hm
    go_enter Try.func22, Try.ntmps22
    go_wp2
    generalize (w.alloc (.cells (pc p) 26)).alloc (.cells (kc k) 24) = W at *
    have L1 := fun d os => run_preLoad (rowAt_regrown rp d os)
    have C1 := fun d os => Calls.regrown_of (may_any p hp (grow (redrawn W d) os))
    rw [HM.out] at C1
    refine wp_region_quiet_below (by kernel_rfl) (by kernel_rfl) ?_
    repeat (go_big_quiet_step (exact C1 _ _))
    refine wpQuiet_nil fun w1 hw1 => ?_
    have hb1 : Below w.heap.size w w1 := by
      obtain ⟨p, rfl⟩ := hw1
      exact hb.trans ((below_regrown W p.d p.os).mono hb.size)
    clear hw1 L1 C1
    go_wp2
    go_ret
    exact ⟨ret_bool (by rw [HF.out]; rfl), hb1⟩
  | true =>
    rw [hm] at HF
    have HM := show Hid _ from hm
    clear hm
    cases he : endsB k p.bits.toNat with
    | false =>
      rw [he] at HF
      have HE := show Hid _ from he
      clear he
      go_enter Try.func22, Try.ntmps22
      go_wp2
      generalize (w.alloc (.cells (pc p) 26)).alloc (.cells (kc k) 24) = W at *
      have L1 := fun d os => run_preLoad (rowAt_regrown rp d os)
      have L2 := fun d os => run_keyLoad (rowAt_regrown rk d os)
      have c0 := cell_regrown rp.bits
      have C1 := fun d os => Calls.regrown_of (may_any p hp (grow (redrawn W d) os))
      have C2 := fun d os => Calls.regrown_of (ends_any cut_any k p.bits (grow (redrawn W d) os) hk)
      rw [HM.out] at C1
      rw [HE.out] at C2
      refine wp_region_quiet_below (by kernel_rfl) (by kernel_rfl) ?_
      repeat (go_big_quiet_step (first | exact C1 _ _ | exact C2 _ _))
      refine wpQuiet_nil fun w1 hw1 => ?_
      have hb1 : Below w.heap.size w w1 := by
        obtain ⟨p, rfl⟩ := hw1
        exact hb.trans ((below_regrown W p.d p.os).mono hb.size)
      clear hw1 L1 C1 L2 C2 c0
      go_wp2
      go_ret
      exact ⟨ret_bool (by rw [HF.out]; rfl), hb1⟩
    | true =>
      rw [he] at HF
      have HE := show Hid _ from he
      clear he
      go_enter Try.func22, Try.ntmps22
      go_wp2
      generalize (w.alloc (.cells (pc p) 26)).alloc (.cells (kc k) 24) = W at *
      have L1 := fun d os => run_preLoad (rowAt_regrown rp d os)
      have L2 := fun d os => run_keyLoad (rowAt_regrown rk d os)
      have L3 := fun d os => run_keyLoad (rowAt_regrown rp.key d os)
      have c0 := cell_regrown rp.bits
      have c1 := cell_regrown rp.len
      have C1 := fun d os => Calls.regrown_of (may_any p hp (grow (redrawn W d) os))
      have C2 := fun d os => Calls.regrown_of (ends_any cut_any k p.bits (grow (redrawn W d) os) hk)
      have C3 := fun d os => Calls.regrown_of (com_any p.key k (grow (redrawn W d) os) hp hk)
      rw [HM.out] at C1
      rw [HE.out] at C2
      simp only [Nat.zero_add] at L3 c1
      refine wp_region_quiet_below (by kernel_rfl) (by kernel_rfl) ?_
      repeat (go_big_quiet_step (first | exact C1 _ _ | exact C2 _ _ | exact C3 _ _))
      refine wpQuiet_nil fun w1 hw1 => ?_
      have hb1 : Below w.heap.size w w1 := by
        obtain ⟨p, rfl⟩ := hw1
        exact hb.trans ((below_regrown W p.d p.os).mono hb.size)
      clear hw1 L1 C1 L2 C2 L3 C3 c0 c1
      go_wp2
      go_ret
      exact ⟨ret_bool (by rw [HF.out]; rfl), hb1⟩

end Go.Proofs.Ytcpdpcfejpbdpaa
