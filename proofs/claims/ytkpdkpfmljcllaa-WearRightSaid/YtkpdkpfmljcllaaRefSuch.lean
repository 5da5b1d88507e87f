/- The document's own Such and ahead: what each hands back. -/
import Derived.Test.YtkpdkpfmljcllaaWearOrd
import Derived.Test.YtkpdkpfmljcllaaWearAwake
namespace Go.Proofs.Ytkpdkpfmljcllaa.Wear
open Go.RowKit Go.Sort Go.Shelf
attribute [local go_sem ↓] loadVar_wb storeVar_wb loadVar_bl storeVar_bl build_bl build_wb

def such1 (p : Int) (b : Wb) : Bool := !b.bad && decide (¬ b.used = p)
def such2 (b : Wb) : Bool := !b.bad && decide (b.live = 0) && decide (¬ b.used = 0)
def such3 (p : Int) (b : Wb) : Bool := if b.bad = true then decide (0 < b.live) else decide (b.used = p) && decide (0 < b.live) && decide (¬ b.live = p)
def ahead1 (a b : Wb) : Bool := if a.used = b.used then decide (a.worn < b.worn) else decide (b.used < a.used)
def ahead2 (a b : Wb) : Bool := decide (a.worn < b.worn)
def ahead3 (a b : Wb) : Bool := if a.bad = b.bad then (if a.live = b.live then decide (a.worn < b.worn) else decide (a.live < b.live)) else a.bad

theorem ret_dec {P Q : Prop} [Decidable P] [Decidable Q] (h : P ↔ Q) : Ending.returned (.bool (decide P)) = .returned (.bool (decide Q)) := by
  rw [show decide P = decide Q from by rw [Bool.eq_iff_iff]; simpa using h]

set_option maxHeartbeats 1000000 in
theorem such1_any (b : Wb) (p : Int) (w : World) : Calls Try.prog 25 #[wbV b, .int .i64 p, .int .i64 1] w fun e w' => e = .returned (.bool (such1 p b)) ∧ Below w.heap.size w w' := by
  obtain ⟨lv, us, wo, bad⟩ := b
  unfold wbV such1
  dsimp only
  have HB := below1 w
  cases bad with
  | true =>
    go_enter Try.func25, Try.ntmps25
    go_wp2
    go_ret
    exact ⟨rfl, HB _⟩
  | false =>
    by_cases h1 : us = p
    · subst h1
      go_enter Try.func25, Try.ntmps25
      go_wp2
      go_ret
      exact ⟨by simp, HB _⟩
    · have d1 : (us != p) = true := by simpa using h1
      go_enter Try.func25, Try.ntmps25
      go_wp2
      go_ret
      exact ⟨by simp [h1], HB _⟩
set_option maxHeartbeats 1000000 in
theorem such2_any (b : Wb) (p : Int) (w : World) : Calls Try.prog 25 #[wbV b, .int .i64 p, .int .i64 2] w fun e w' => e = .returned (.bool (such2 b)) ∧ Below w.heap.size w w' := by
  obtain ⟨lv, us, wo, bad⟩ := b
  unfold wbV such2
  dsimp only
  have HB := below1 w
  cases bad with
  | true =>
    go_enter Try.func25, Try.ntmps25
    go_wp2
    go_ret
    exact ⟨rfl, HB _⟩
  | false =>
    by_cases h1 : lv = 0
    · subst h1
      by_cases h2 : us = 0
      · subst h2
        go_enter Try.func25, Try.ntmps25
        go_wp2
        go_ret
        exact ⟨by simp, HB _⟩
      · have d2 : (us != 0) = true := by simpa using h2
        go_enter Try.func25, Try.ntmps25
        go_wp2
        go_ret
        exact ⟨by simp [h2], HB _⟩
    · have d1 : (lv == 0) = false := by simpa using h1
      go_enter Try.func25, Try.ntmps25
      go_wp2
      go_ret
      exact ⟨by simp [h1], HB _⟩
set_option maxHeartbeats 1000000 in
theorem such3_any (b : Wb) (p : Int) (w : World) : Calls Try.prog 25 #[wbV b, .int .i64 p, .int .i64 3] w fun e w' => e = .returned (.bool (such3 p b)) ∧ Below w.heap.size w w' := by
  obtain ⟨lv, us, wo, bad⟩ := b
  unfold wbV such3
  dsimp only
  have HB := below1 w
  cases bad with
  | true =>
    by_cases h1 : 0 < lv
    · go_enter Try.func25, Try.ntmps25
      go_wp2
      go_ret
      exact ⟨by first | rfl | (simp; done) | (simp; omega), HB _⟩
    · go_enter Try.func25, Try.ntmps25
      go_wp2
      go_ret
      exact ⟨by simp; omega, HB _⟩
  | false =>
    by_cases h1 : us = p
    · subst h1
      by_cases h2 : 0 < lv
      · by_cases h3 : lv = us
        · subst h3
          go_enter Try.func25, Try.ntmps25
          go_wp2
          go_ret
          exact ⟨by simp, HB _⟩
        · have d3 : (lv != us) = true := by simpa using h3
          go_enter Try.func25, Try.ntmps25
          go_wp2
          go_ret
          exact ⟨by first | rfl | (simp; done) | (simp; omega), HB _⟩
      · have d2 : decide (0 < lv) = false := decide_eq_false h2
        go_enter Try.func25, Try.ntmps25
        go_wp2
        go_ret
        exact ⟨rfl, HB _⟩
    · have d1 : (us == p) = false := by simpa using h1
      go_enter Try.func25, Try.ntmps25
      go_wp2
      go_ret
      exact ⟨by first | rfl | (simp; done) | (simp; omega), HB _⟩

set_option maxHeartbeats 1000000 in
theorem ahead1_any (a b : Wb) (w : World) : Calls Try.prog 26 #[wbV a, wbV b, .int .i64 1] w fun e w' => e = .returned (.bool (ahead1 a b)) ∧ Below w.heap.size w w' := by
  obtain ⟨lv, us, wo, bad⟩ := a
  obtain ⟨lv', us', wo', bad'⟩ := b
  unfold wbV ahead1
  dsimp only
  have HB := below2 w
  by_cases h1 : us = us'
  · subst h1
    rw [if_pos rfl]
    go_enter Try.func26, Try.ntmps26
    go_wp2
    go_ret
    exact ⟨rfl, HB _ _⟩
  · rw [if_neg h1]
    have d1 : (us != us') = true := by simpa using h1
    go_enter Try.func26, Try.ntmps26
    go_wp2
    go_ret
    exact ⟨rfl, HB _ _⟩
set_option maxHeartbeats 1000000 in
theorem ahead2_any (a b : Wb) (w : World) : Calls Try.prog 26 #[wbV a, wbV b, .int .i64 2] w fun e w' => e = .returned (.bool (ahead2 a b)) ∧ Below w.heap.size w w' := by
  obtain ⟨lv, us, wo, bad⟩ := a
  obtain ⟨lv', us', wo', bad'⟩ := b
  unfold wbV ahead2
  dsimp only
  have HB := below2 w
  go_enter Try.func26, Try.ntmps26
  go_wp2
  go_ret
  exact ⟨rfl, HB _ _⟩
set_option maxHeartbeats 1000000 in
theorem ahead3_any (a b : Wb) (w : World) : Calls Try.prog 26 #[wbV a, wbV b, .int .i64 3] w fun e w' => e = .returned (.bool (ahead3 a b)) ∧ Below w.heap.size w w' := by
  obtain ⟨lv, us, wo, bad⟩ := a
  obtain ⟨lv', us', wo', bad'⟩ := b
  unfold wbV ahead3
  dsimp only
  have HB := below2 w
  rcases bad with - | - <;> rcases bad' with - | -
  · by_cases h1 : lv = lv'
    · subst h1
      simp only [if_true]
      go_enter Try.func26, Try.ntmps26
      go_wp2
      go_ret
      exact ⟨rfl, HB _ _⟩
    · simp only [if_true, if_neg h1]
      have d1 : (lv != lv') = true := by simpa using h1
      go_enter Try.func26, Try.ntmps26
      go_wp2
      go_ret
      exact ⟨rfl, HB _ _⟩
  · go_enter Try.func26, Try.ntmps26
    go_wp2
    go_ret
    exact ⟨rfl, HB _ _⟩
  · go_enter Try.func26, Try.ntmps26
    go_wp2
    go_ret
    exact ⟨rfl, HB _ _⟩
  · by_cases h1 : lv = lv'
    · subst h1
      simp only [if_true]
      go_enter Try.func26, Try.ntmps26
      go_wp2
      go_ret
      exact ⟨rfl, HB _ _⟩
    · simp only [if_true, if_neg h1]
      have d1 : (lv != lv') = true := by simpa using h1
      go_enter Try.func26, Try.ntmps26
      go_wp2
      go_ret
      exact ⟨rfl, HB _ _⟩

/-! ### Of right blocks they are the rules and the orders -/
theorem such1_free {p : Int} {b : Wb} (h : rightE p b = true) : such1 p b = freeB p b := by
  have := rightE_iff.1 h
  unfold such1 freeB
  rw [show decide (¬ b.used = p) = decide (b.used < p) by rw [Bool.eq_iff_iff]; simp; omega]
theorem such2_dead {p : Int} {b : Wb} (h : rightE p b = true) : such2 b = deadB b := by
  have := rightE_iff.1 h
  unfold such2 deadB
  rw [show decide (¬ b.used = 0) = decide (0 < b.used) by rw [Bool.eq_iff_iff]; simp; omega]
theorem such3_mixed {p : Int} {b : Wb} (h : rightE p b = true) : such3 p b = mixedB p b := by
  have := rightE_iff.1 h
  unfold such3 mixedB
  split
  · rfl
  · by_cases hu : b.used = p
    · rw [show decide (¬ b.live = p) = decide (b.live < p) by rw [Bool.eq_iff_iff]; simp; omega]
    · rw [decide_eq_false hu]; rfl
theorem ahead1_is (a b : Wb) : ahead1 a b = decide (cmpL [moreUsed, lessWorn] a b < 0) := by
  unfold ahead1
  show _ = decide ((if cmpI b.used a.used = 0 then (if cmpI a.worn b.worn = 0 then (0 : Int) else cmpI a.worn b.worn) else cmpI b.used a.used) < 0)
  rcases cmpI_cases b.used a.used with ⟨h1, h2⟩ | ⟨h1, h2⟩ | ⟨h1, h2⟩ <;> rcases cmpI_cases a.worn b.worn with ⟨h3, h4⟩ | ⟨h3, h4⟩ | ⟨h3, h4⟩ <;> rw [h2, h4] <;> split <;> simp <;> omega
theorem ahead2_is (a b : Wb) : ahead2 a b = decide (cmpL [lessWorn] a b < 0) := by
  unfold ahead2
  show _ = decide ((if cmpI a.worn b.worn = 0 then (0 : Int) else cmpI a.worn b.worn) < 0)
  rcases cmpI_cases a.worn b.worn with ⟨h3, h4⟩ | ⟨h3, h4⟩ | ⟨h3, h4⟩ <;> rw [h4] <;> simp <;> omega
theorem ahead3_is (a b : Wb) : ahead3 a b = decide (cmpL [badAhead, lessLive, lessWorn] a b < 0) := by
  unfold ahead3
  show _ = decide ((if badAhead a b = 0 then (if cmpI a.live b.live = 0 then (if cmpI a.worn b.worn = 0 then (0 : Int) else cmpI a.worn b.worn) else cmpI a.live b.live) else badAhead a b) < 0)
  unfold badAhead
  by_cases hb : a.bad = b.bad
  · rw [if_pos hb, if_pos hb]
    simp only [if_true]
    rcases cmpI_cases a.live b.live with ⟨h1, h2⟩ | ⟨h1, h2⟩ | ⟨h1, h2⟩ <;> rcases cmpI_cases a.worn b.worn with ⟨h3, h4⟩ | ⟨h3, h4⟩ | ⟨h3, h4⟩ <;> rw [h2, h4] <;> split <;> simp <;> omega
  · rw [if_neg hb, if_neg hb]
    cases a.bad <;> simp
end Go.Proofs.Ytkpdkpfmljcllaa.Wear
