/- The rules and the orders of a block: what each hands back. -/
import Derived.Test.YtkpdkpfmljcllaaWearMem
namespace Go.Proofs.Ytkpdkpfmljcllaa.Wear
open Go.RowKit Go.Sort Go.Shelf
attribute [local go_sem ↓] loadVar_wb storeVar_wb loadVar_bl storeVar_bl build_bl

set_option maxHeartbeats 1000000 in
theorem free_any (b : Wb) (p : Int) (w : World) : Calls Try.prog 18 #[blV b p] w fun e w' => e = .returned (.bool (freeB p b)) ∧ Below w.heap.size w w' := by
  obtain ⟨lv, us, wo, bad⟩ := b
  unfold blV freeB
  dsimp only
  have HB := below1 w
  cases bad with
  | true =>
    go_enter Try.func18, Try.ntmps18
    go_wp2
    go_ret
    exact ⟨rfl, HB _⟩
  | false =>
    obtain ⟨c, hc⟩ : ∃ c, decide (us < p) = c := ⟨_, rfl⟩
    rw [hc]
    go_enter Try.func18, Try.ntmps18
    go_wp2
    go_ret
    exact ⟨rfl, HB _⟩

set_option maxHeartbeats 1000000 in
theorem dead_any (b : Wb) (p : Int) (w : World) : Calls Try.prog 21 #[blV b p] w fun e w' => e = .returned (.bool (deadB b)) ∧ Below w.heap.size w w' := by
  obtain ⟨lv, us, wo, bad⟩ := b
  unfold blV deadB
  dsimp only
  have HB := below1 w
  cases bad with
  | true =>
    go_enter Try.func21, Try.ntmps21
    go_wp2
    go_ret
    exact ⟨rfl, HB _⟩
  | false =>
    by_cases h1 : lv = 0
    · subst h1
      by_cases h2 : 0 < us
      · go_enter Try.func21, Try.ntmps21
        go_wp2
        go_ret
        exact ⟨by simp [h2], HB _⟩
      · go_enter Try.func21, Try.ntmps21
        go_wp2
        go_ret
        exact ⟨by simp [h2], HB _⟩
    · have d1 : (lv == 0) = false := by simpa using h1
      go_enter Try.func21, Try.ntmps21
      go_wp2
      go_ret
      exact ⟨by simp [h1], HB _⟩

set_option maxHeartbeats 1000000 in
theorem mixed_any (b : Wb) (p : Int) (w : World) : Calls Try.prog 22 #[blV b p] w fun e w' => e = .returned (.bool (mixedB p b)) ∧ Below w.heap.size w w' := by
  obtain ⟨lv, us, wo, bad⟩ := b
  unfold blV mixedB
  dsimp only
  have HB := below1 w
  cases bad with
  | true =>
    go_enter Try.func22, Try.ntmps22
    go_wp2
    go_ret
    exact ⟨rfl, HB _⟩
  | false =>
    by_cases h1 : us = p
    · subst h1
      by_cases h2 : 0 < lv
      · by_cases h3 : lv < us
        · go_enter Try.func22, Try.ntmps22
          go_wp2
          go_ret
          exact ⟨by first | (simp; done) | (simp; intros; omega), HB _⟩
        · go_enter Try.func22, Try.ntmps22
          go_wp2
          go_ret
          exact ⟨by first | (simp; done) | (simp; intros; omega), HB _⟩
      · go_enter Try.func22, Try.ntmps22
        go_wp2
        go_ret
        exact ⟨by first | (simp; done) | (simp; intros; omega), HB _⟩
    · have d1 : (us == p) = false := by simpa using h1
      go_enter Try.func22, Try.ntmps22
      go_wp2
      go_ret
      exact ⟨by first | (simp; done) | (simp; intros; omega), HB _⟩

set_option maxHeartbeats 1000000 in
theorem rightE_any (b : Wb) (p : Int) (w : World) : Calls Try.prog 29 #[blV b p] w fun e w' => e = .returned (.bool (rightE p b)) ∧ Below w.heap.size w w' := by
  obtain ⟨lv, us, wo, bad⟩ := b
  unfold blV rightE top
  dsimp only
  have HB := below1 w
  by_cases h1 : 0 ≤ lv
  · by_cases h2 : lv ≤ us
    · by_cases h3 : us ≤ p
      · by_cases h4 : 0 ≤ wo
        · by_cases h5 : wo ≤ 1099511627776
          all_goals
            go_enter Try.func29, Try.ntmps29
            go_wp2
            go_ret
            exact ⟨by first | (simp; done) | (simp; intros; omega), HB _⟩
        · go_enter Try.func29, Try.ntmps29
          go_wp2
          go_ret
          exact ⟨by first | (simp; done) | (simp; intros; omega), HB _⟩
      · go_enter Try.func29, Try.ntmps29
        go_wp2
        go_ret
        exact ⟨by first | (simp; done) | (simp; intros; omega), HB _⟩
    · go_enter Try.func29, Try.ntmps29
      go_wp2
      go_ret
      exact ⟨by first | (simp; done) | (simp; intros; omega), HB _⟩
  · go_enter Try.func29, Try.ntmps29
    go_wp2
    go_ret
    exact ⟨by first | (simp; done) | (simp; intros; omega), HB _⟩

set_option maxHeartbeats 1000000 in
theorem nan_any (a : Int) (w : World) : Calls Try.prog 36 #[.int .i64 a] w fun e w' => e = .returned (.bool false) ∧ w = w' := by
  go_enter Try.func36, Try.ntmps36
  go_wp2
  go_ret
  exact ⟨by simp, rfl⟩
set_option maxHeartbeats 1000000 in
theorem compare_int (a b : Int) (w : World) : Calls Try.prog 34 #[.int .i64 a, .int .i64 b] w fun e w' => e = .returned (.int .i64 (cmpI a b)) ∧ w = w' := by
  have C1 := Lib.hid (fun w => nan_any a w)
  have C2 := Lib.hid (fun w => nan_any b w)
  unfold cmpI
  by_cases h1 : a < b
  · rw [if_pos h1]
    go_enter Try.func34, Try.ntmps34
    go_wp2_with (go_at_call 36; (first | (with_reducible refine (C1.out _).mono ?_) | (with_reducible refine (C2.out _).mono ?_)); rintro e w' ⟨rfl, rfl⟩)
    go_ret
    exact ⟨rfl, rfl⟩
  · rw [if_neg h1]
    by_cases h2 : b < a
    · rw [if_pos h2]
      go_enter Try.func34, Try.ntmps34
      go_wp2_with (go_at_call 36; (first | (with_reducible refine (C1.out _).mono ?_) | (with_reducible refine (C2.out _).mono ?_)); rintro e w' ⟨rfl, rfl⟩)
      go_ret
      exact ⟨rfl, rfl⟩
    · rw [if_neg h2]
      go_enter Try.func34, Try.ntmps34
      go_wp2_with (go_at_call 36; (first | (with_reducible refine (C1.out _).mono ?_) | (with_reducible refine (C2.out _).mono ?_)); rintro e w' ⟨rfl, rfl⟩)
      go_ret
      exact ⟨rfl, rfl⟩

set_option maxHeartbeats 1000000 in
theorem moreUsed_any (a b : Wb) (p q : Int) (w : World) : Calls Try.prog 19 #[blV a p, blV b q] w fun e w' => e = .returned (.int .i64 (moreUsed a b)) ∧ Below w.heap.size w w' := by
  obtain ⟨lv, us, wo, bad⟩ := a
  obtain ⟨lv', us', wo', bad'⟩ := b
  unfold blV moreUsed
  dsimp only
  have HB := below2 w
  have C1 := Lib.hid (fun w => compare_int us' us w)
  go_enter Try.func19, Try.ntmps19
  go_wp2_with (go_at_call 34; with_reducible refine (C1.out _).mono ?_; rintro e w' ⟨rfl, rfl⟩)
  go_ret
  exact ⟨rfl, HB _ _⟩
set_option maxHeartbeats 1000000 in
theorem lessWorn_any (a b : Wb) (p q : Int) (w : World) : Calls Try.prog 20 #[blV a p, blV b q] w fun e w' => e = .returned (.int .i64 (lessWorn a b)) ∧ Below w.heap.size w w' := by
  obtain ⟨lv, us, wo, bad⟩ := a
  obtain ⟨lv', us', wo', bad'⟩ := b
  unfold blV lessWorn
  dsimp only
  have HB := below2 w
  have C1 := Lib.hid (fun w => compare_int wo wo' w)
  go_enter Try.func20, Try.ntmps20
  go_wp2_with (go_at_call 34; with_reducible refine (C1.out _).mono ?_; rintro e w' ⟨rfl, rfl⟩)
  go_ret
  exact ⟨rfl, HB _ _⟩
set_option maxHeartbeats 1000000 in
theorem lessLive_any (a b : Wb) (p q : Int) (w : World) : Calls Try.prog 24 #[blV a p, blV b q] w fun e w' => e = .returned (.int .i64 (lessLive a b)) ∧ Below w.heap.size w w' := by
  obtain ⟨lv, us, wo, bad⟩ := a
  obtain ⟨lv', us', wo', bad'⟩ := b
  unfold blV lessLive
  dsimp only
  have HB := below2 w
  have C1 := Lib.hid (fun w => compare_int lv lv' w)
  go_enter Try.func24, Try.ntmps24
  go_wp2_with (go_at_call 34; with_reducible refine (C1.out _).mono ?_; rintro e w' ⟨rfl, rfl⟩)
  go_ret
  exact ⟨rfl, HB _ _⟩
set_option maxHeartbeats 1000000 in
theorem badAhead_any (a b : Wb) (p q : Int) (w : World) : Calls Try.prog 23 #[blV a p, blV b q] w fun e w' => e = .returned (.int .i64 (badAhead a b)) ∧ Below w.heap.size w w' := by
  obtain ⟨lv, us, wo, bad⟩ := a
  obtain ⟨lv', us', wo', bad'⟩ := b
  unfold blV badAhead
  dsimp only
  have HB := below2 w
  cases bad <;> cases bad'
  all_goals
    go_enter Try.func23, Try.ntmps23
    go_wp2
    go_ret
    exact ⟨rfl, HB _ _⟩

set_option maxHeartbeats 1000000 in
theorem roomE_any (b : Wb) (p : Int) (w : World) (hp : p ≤ 16) (hR : rightE p b = true) : Calls Try.prog 30 #[blV b p] w fun e w' => e = .returned (.int .i64 (roomE p b)) ∧ Below w.heap.size w w' := by
  obtain ⟨lv, us, wo, bad⟩ := b
  have h := rightE_iff.1 hR
  dsimp only at h
  have hz : wrap64 (p - us) = p - us := by unfold wrap64; omega
  have HB := below1 w
  unfold roomE
  have C := dead_any ⟨lv, us, wo, bad⟩ p (w.alloc (.cells (blA ⟨lv, us, wo, bad⟩ p) 36))
  have hld := box_bl (Box.new 36 w (blA ⟨lv, us, wo, bad⟩ p))
  obtain ⟨c, hc⟩ : ∃ c, deadB ⟨lv, us, wo, bad⟩ = c := ⟨_, rfl⟩
  rw [hc] at C ⊢
  have HC := Lib.hid C
  clear hR C h hc
  unfold blV blA at *
  dsimp only at *
  cases bad with
  | true =>
    go_enter Try.func30, Try.ntmps30
    go_wp2
    go_ret
    exact ⟨rfl, HB _⟩
  | false =>
    cases c with
    | true =>
      go_enter Try.func30, Try.ntmps30
      go_wp2_with fail
      refine HC.out.mono ?_
      rintro e w1 ⟨rfl, hb⟩
      obtain ⟨k1, k2⟩ := bcell hb
      have hb2 := (HB (.cells #[.int .i64 lv, .int .i64 us, .int .i64 wo, .bool false, .int .i64 p] 36)).trans (hb.mono (by simp))
      have c4 : w1.cell? ⟨w.heap.size, 4, none⟩ = some (.int .i64 p) := by rw [k1 _ _ (by simp), World.cell?_alloc_at _ _ _ _ rfl]; rfl
      clear k1 k2 hb
      go_wp2
      go_ret
      exact ⟨rfl, hb2⟩
    | false =>
      go_enter Try.func30, Try.ntmps30
      go_wp2_with fail
      refine HC.out.mono ?_
      rintro e w1 ⟨rfl, hb⟩
      obtain ⟨k1, k2⟩ := bcell hb
      have hb2 := (HB (.cells #[.int .i64 lv, .int .i64 us, .int .i64 wo, .bool false, .int .i64 p] 36)).trans (hb.mono (by simp))
      have c4 : w1.cell? ⟨w.heap.size, 4, none⟩ = some (.int .i64 p) := by rw [k1 _ _ (by simp), World.cell?_alloc_at _ _ _ _ rfl]; rfl
      have c1 : w1.cell? ⟨w.heap.size, 1, none⟩ = some (.int .i64 us) := by rw [k1 _ _ (by simp), World.cell?_alloc_at _ _ _ _ rfl]; rfl
      clear k1 k2 hb
      go_wp2
      go_ret
      exact ⟨rfl, hb2⟩
end Go.Proofs.Ytkpdkpfmljcllaa.Wear
