/- key.Less: what each call hands back; of what was there nothing has turned. -/
import Derived.Test.YtcpdpcfejpbdpaaKeyCmp

namespace Go.Proofs.Ytcpdpcfejpbdpaa
open Go.RowKit Go.Sort
attribute [local go_sem ↓] loadVar_key loadVar_pre

def lessIn (p q : Pre) : Bool := if p.bits = q.bits then (if num p.key = num q.key then decide (p.len < q.len) else decide (num p.key < num q.key)) else decide (p.bits < q.bits)

theorem less_cases (p q : Pre) : lessB p q = if mayB p = true then (if mayB q = true then lessIn p q else false) else false := by
  unfold lessB lessIn
  cases mayB p <;> cases mayB q <;> simp

set_option maxHeartbeats 2000000 in
set_option maxRecDepth 100000 in
theorem less_any (p q : Pre) (hp : Bytes16 p.key) (hq : Bytes16 q.key) (w : World) :
    Calls Try.prog 26 #[.agg (pc p), .agg (pc q)] w fun e w' => e = .returned (.bool (lessB p q)) ∧ Below w.heap.size w w' := by
  obtain ⟨rp, rq, hb, hz⟩ := rows_two w (pc p) (pc q) 26 26
  have C1 := fun w => may_any p hp w
  have C2 := fun w => may_any q hq w
  have HZ := Lib.hid hz
  clear hz
  have HF := Lib.hid (less_cases p q)
  have T : ∀ w1, Below ((w.alloc (.cells (pc p) 26)).alloc (.cells (pc q) 26)).heap.size ((w.alloc (.cells (pc p) 26)).alloc (.cells (pc q) 26)) w1 → (TwoPre w1 w.heap.size p q ∧ RowAt w1 w.heap.size 0 (pc p) ∧ RowAt w1 (w.heap.size + 1) 0 (pc q)) ∧ Below w.heap.size w w1 :=
    fun w1 h => ⟨⟨twoPre_of (rp.below h (by rw [HZ.out]; omega)) (rq.below h (by rw [HZ.out]; omega)), rp.below h (by rw [HZ.out]; omega), rq.below h (by rw [HZ.out]; omega)⟩, hb.trans (h.mono hb.size)⟩
  obtain ⟨lp, lq, kp, kq, bp, bq, np, nq⟩ := twoPre_of rp rq
  have HT := Lib.hid T
  clear T hb
  cases hm : mayB p with
  | false =>
    rw [hm] at HF
    simp only [hm] at C1
    have HC := Lib.hid C1
    clear hm C1 C2
    go_enter Try.func26, Try.ntmps26
    go_wp2_with (go_at_call 25; refine (HC.out _).mono ?_; rintro e w1 ⟨rfl, h1⟩; obtain ⟨-, hb1⟩ := HT.out w1 h1)
    go_ret
    exact ⟨ret_bool (by rw [HF.out]; rfl), hb1⟩
  | true =>
    rw [hm] at HF
    simp only [hm] at C1
    have HC := Lib.hid C1
    clear hm C1
    cases hm : mayB q with
    | false =>
      rw [hm] at HF
      simp only [hm] at C2
      have HD := Lib.hid C2
      clear hm C2
      go_enter Try.func26, Try.ntmps26
      go_wp2_with fail
      refine (HC.out _).mono ?_
      rintro e w1 ⟨rfl, h1⟩
      obtain ⟨⟨⟨lp, lq, kp, kq, bp, bq, np, nq⟩, -, -⟩, hb1⟩ := HT.out w1 h1
      go_wp2_with fail
      refine (HD.out _).mono ?_
      rintro e w2 ⟨rfl, h2⟩
      go_wp2
      go_ret
      exact ⟨ret_bool (by rw [HF.out]; rfl), hb1.trans (h2.mono hb1.size)⟩
    | true =>
      rw [hm] at HF
      simp only [hm] at C2
      have HD := Lib.hid C2
      clear hm C2
      by_cases hbits : p.bits = q.bits
      · have hne : (p.bits != q.bits) = false := by simpa using hbits
        by_cases hn : num p.key = num q.key
        · have e0 : (numCmp p.key q.key != 0) = false := by unfold numCmp; rw [if_neg (by omega), if_pos hn]; rfl
          have HL := Lib.hid (show lessIn p q = decide (p.len < q.len) by unfold lessIn; rw [if_pos hbits, if_pos hn])
          clear hn hbits
          go_enter Try.func26, Try.ntmps26
          go_wp2_with fail
          refine (HC.out _).mono ?_
          rintro e w1 ⟨rfl, h1⟩
          obtain ⟨⟨⟨lp, lq, kp, kq, bp, bq, np, nq⟩, -, -⟩, hb1⟩ := HT.out w1 h1
          go_wp2_with fail
          refine (HD.out _).mono ?_
          rintro e w2 ⟨rfl, h2⟩
          have h12 := h1.trans (h2.mono h1.size)
          obtain ⟨⟨⟨lp, lq, kp, kq, bp, bq, np, nq⟩, rp2, rq2⟩, hb2⟩ := HT.out w2 h12
          go_wp2
          have cc := fun d os => cmp_any (w := grow (redrawn w2 d) os) (b1 := w.heap.size) (o1 := 2) (b2 := w.heap.size + 1) (o2 := 2) (c1 := 16) (c2 := 16) hp hq (by simpa using (rowAt_regrown rp2 d os).key) (by simpa using (rowAt_regrown rq2 d os).key)
          refine wp_region_quiet_below (by kernel_rfl) (by kernel_rfl) ?_
          repeat (go_big_quiet_step ((refine Calls.mono (cc _ _) ?_; rintro e w' ⟨rfl, rfl⟩; exact ⟨rfl, ⟨_, _⟩, rfl⟩)))
          refine wpQuiet_nil fun w3 hw3 => ?_
          have hb3 : Below w.heap.size w w3 ∧ Below w2.heap.size w2 w3 := by
            obtain ⟨p, rfl⟩ := hw3
            exact ⟨hb2.trans ((below_regrown w2 p.d p.os).mono hb2.size), below_regrown w2 p.d p.os⟩
          obtain ⟨⟨⟨lp, lq, kp, kq, bp, bq, np, nq⟩, -, -⟩, -⟩ := HT.out w3 (h12.trans (hb3.2.mono h12.size))
          obtain ⟨hb3, -⟩ := hb3
          clear hw3 cc
          go_wp2
          go_ret
          exact ⟨ret_bool (by rw [HF.out, ← HL.out]; simp), hb3⟩
        · have e0 : (numCmp p.key q.key != 0) = true := by
            unfold numCmp
            by_cases h : num p.key < num q.key
            · rw [if_pos h]; rfl
            · rw [if_neg h, if_neg hn]; rfl
          have HL := Lib.hid (show lessIn p q = decide (numCmp p.key q.key < 0) by
            unfold lessIn numCmp; rw [if_pos hbits, if_neg hn]
            by_cases h : num p.key < num q.key
            · rw [if_pos h]; simp [h]
            · rw [if_neg h, if_neg hn]; simp; omega)
          clear hn hbits
          go_enter Try.func26, Try.ntmps26
          go_wp2_with fail
          refine (HC.out _).mono ?_
          rintro e w1 ⟨rfl, h1⟩
          obtain ⟨⟨⟨lp, lq, kp, kq, bp, bq, np, nq⟩, -, -⟩, hb1⟩ := HT.out w1 h1
          go_wp2_with fail
          refine (HD.out _).mono ?_
          rintro e w2 ⟨rfl, h2⟩
          have h12 := h1.trans (h2.mono h1.size)
          obtain ⟨⟨⟨lp, lq, kp, kq, bp, bq, np, nq⟩, rp2, rq2⟩, hb2⟩ := HT.out w2 h12
          go_wp2
          have cc := fun d os => cmp_any (w := grow (redrawn w2 d) os) (b1 := w.heap.size) (o1 := 2) (b2 := w.heap.size + 1) (o2 := 2) (c1 := 16) (c2 := 16) hp hq (by simpa using (rowAt_regrown rp2 d os).key) (by simpa using (rowAt_regrown rq2 d os).key)
          refine wp_region_quiet_below (by kernel_rfl) (by kernel_rfl) ?_
          repeat (go_big_quiet_step ((refine Calls.mono (cc _ _) ?_; rintro e w' ⟨rfl, rfl⟩; exact ⟨rfl, ⟨_, _⟩, rfl⟩)))
          refine wpQuiet_nil fun w3 hw3 => ?_
          have hb3 : Below w.heap.size w w3 ∧ Below w2.heap.size w2 w3 := by
            obtain ⟨p, rfl⟩ := hw3
            exact ⟨hb2.trans ((below_regrown w2 p.d p.os).mono hb2.size), below_regrown w2 p.d p.os⟩
          obtain ⟨⟨⟨lp, lq, kp, kq, bp, bq, np, nq⟩, -, -⟩, -⟩ := HT.out w3 (h12.trans (hb3.2.mono h12.size))
          obtain ⟨hb3, -⟩ := hb3
          clear hw3 cc
          go_wp2
          go_ret
          exact ⟨ret_bool (by rw [HF.out, ← HL.out]; simp), hb3⟩
      · have hne : (p.bits != q.bits) = true := by simpa using hbits
        have HL := Lib.hid (show lessIn p q = decide (p.bits < q.bits) by unfold lessIn; rw [if_neg hbits])
        clear hbits
        go_enter Try.func26, Try.ntmps26
        go_wp2_with fail
        refine (HC.out _).mono ?_
        rintro e w1 ⟨rfl, h1⟩
        obtain ⟨⟨⟨lp, lq, kp, kq, bp, bq, np, nq⟩, -, -⟩, hb1⟩ := HT.out w1 h1
        go_wp2_with fail
        refine (HD.out _).mono ?_
        rintro e w2 ⟨rfl, h2⟩
        have h12 := h1.trans (h2.mono h1.size)
        obtain ⟨⟨⟨lp, lq, kp, kq, bp, bq, np, nq⟩, rp2, rq2⟩, hb2⟩ := HT.out w2 h12
        go_wp2
        go_ret
        exact ⟨ret_bool (by rw [HF.out, ← HL.out]; simp), hb2⟩

end Go.Proofs.Ytcpdpcfejpbdpaa
