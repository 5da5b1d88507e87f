/- The document's own Less and Step of layer 1 hand back what the program's do. -/
import Derived.Test.YtpjmhdolmemmlaaRefC
import Derived.Test.YtpjmhdolmemmlaaKeyCuts
namespace Go.Proofs.Ytpjmhdolmemmlaa
open Go.RowKit Go.Sort
attribute [local go_sem ↓] loadVar_key loadVar_pre

theorem lessIn_com {p q : Pre} (hp : Bytes16 p.key) (hq : Bytes16 q.key) (hb : p.bits = q.bits) :
    (com p.key q.key = 128 → lessIn p q = decide (p.len < q.len)) ∧ (com p.key q.key < 128 → lessIn p q = (((bt p.key (com p.key q.key) : Nat) : Int) == 0)) := by
  unfold lessIn
  rw [if_pos hb]
  rcases num_com hp hq with ⟨h1, h2⟩ | ⟨h1, ⟨h2, h3, h4⟩ | ⟨h2, h3, h4⟩⟩
  · exact ⟨fun _ => by rw [if_pos h2], fun h => by omega⟩
  · exact ⟨fun h => by omega, fun _ => by rw [if_neg (by omega), h2]; simp [h4]⟩
  · exact ⟨fun h => by omega, fun _ => by rw [if_neg (by omega), h2]; simp; omega⟩

set_option maxHeartbeats 4000000 in
set_option maxRecDepth 100000 in
theorem rless_any (p q : Pre) (hp : Bytes16 p.key) (hq : Bytes16 q.key) (w : World) :
    Calls Try.prog 24 #[.agg (pc p), .agg (pc q)] w fun e w' => e = .returned (.bool (lessB p q)) ∧ Below w.heap.size w w' := by
  obtain ⟨rp, rq, hb, hz⟩ := rows_two w (pc p) (pc q) 25 25
  have C1 := fun w => rmay_any p hp w
  have C2 := fun w => rmay_any q hq w
  have HF := Lib.hid (less_cases p q)
  generalize hW : (w.alloc (.cells (pc p) 25)).alloc (.cells (pc q) 25) = W at *
  have HW := Lib.hid hW
  have HT := Lib.hid (fun w1 (h : Below W.heap.size W w1) => (⟨twoPre_of (rp.below h (by omega)) (rq.below h (by omega)), rp.below h (by omega), rq.below h (by omega)⟩ : TwoPre w1 w.heap.size p q ∧ RowAt w1 w.heap.size 0 (pc p) ∧ RowAt w1 (w.heap.size + 1) 0 (pc q)))
  have lp := run_preLoad rp
  rw [← hW] at lp
  clear hW hz rp rq
  cases hm : mayB p with
  | false =>
    rw [hm] at HF
    simp only [hm] at C1
    have HC := Lib.hid C1
    clear hm C1 C2
    go_enter Try.func24, Try.ntmps24
    go_wp2_with fail
    rw [HW.out]
    refine (HC.out _).mono ?_
    rintro e w1 ⟨rfl, h1⟩
    go_wp2
    go_ret
    exact ⟨ret_bool (by rw [HF.out]; rfl), hb.trans (h1.mono hb.size)⟩
  | true =>
    rw [hm] at HF
    simp only [hm] at C1
    have HC := Lib.hid C1
    clear hm C1
    cases hm : mayB q with
    | false =>
      rw [hm] at HF
      simp only [hm] at C2
      have HD := Lib.hid C2
      clear hm C2
      go_enter Try.func24, Try.ntmps24
      go_wp2_with fail
      rw [HW.out]
      refine (HC.out _).mono ?_
      rintro e w1 ⟨rfl, h1⟩
      obtain ⟨⟨lp, lq, kp, kq, bp, bq, np, nq⟩, -, -⟩ := HT.out w1 h1
      go_wp2_with fail
      refine (HD.out _).mono ?_
      rintro e w2 ⟨rfl, h2⟩
      go_wp2
      go_ret
      exact ⟨ret_bool (by rw [HF.out]; rfl), hb.trans ((h1.trans (h2.mono h1.size)).mono hb.size)⟩
    | true =>
      rw [hm] at HF
      simp only [hm] at C2
      have HD := Lib.hid C2
      clear hm C2
      by_cases hbits : p.bits = q.bits
      · have hne : (p.bits != q.bits) = false := by simpa using hbits
        have HL := Lib.hid (lessIn_com hp hq hbits)
        clear hbits
        go_enter Try.func24, Try.ntmps24
        go_wp2_with fail
        rw [HW.out]
        refine (HC.out _).mono ?_
        rintro e w1 ⟨rfl, h1⟩
        obtain ⟨⟨lp, lq, kp, kq, bp, bq, np, nq⟩, -, -⟩ := HT.out w1 h1
        go_wp2_with fail
        refine (HD.out _).mono ?_
        clear lp lq kp kq bp bq np nq
        rintro e w2 ⟨rfl, h2⟩
        have h2 := h1.trans (h2.mono h1.size)
        obtain ⟨⟨lp, lq, kp, kq, bp, bq, np, nq⟩, -, -⟩ := HT.out w2 h2
        go_wp2
        clear lp lq kp kq bp bq np nq hne
        go_loopw [5] (fun t wr => ∃ i : Nat, i ≤ com p.key q.key ∧ t = .int .i64 i ∧ Below W.heap.size W wr) (fun t _ => 128 - (intOf t).toNat)
        case atStart => exact ⟨0, Nat.zero_le _, rfl, h2⟩
        case round =>
          clear h1 h2
          obtain ⟨i, hi, rfl, hwr⟩ := hrel
          have hi128 := (com_is p.key q.key).le
          obtain ⟨⟨lp, lq, kp, kq, bp, bq, np, nq⟩, rp, rq⟩ := HT.out wr hwr
          have fin : ∀ w5, (∃ p : Regrown, w5 = grow (redrawn wr p.d) p.os) → Below W.heap.size W w5 := by
            rintro w5 ⟨p, rfl⟩
            exact hwr.trans ((below_regrown wr p.d p.os).mono hwr.size)
          have HG := Lib.hid fin
          clear fin
          by_cases hlt : i < 128
          · have hlt' : (i : Int) < 128 := by omega
            have L1 := fun d os => run_keyLoad (rowAt_regrown rp.key d os)
            have L2 := fun d os => run_keyLoad (rowAt_regrown rq.key d os)
            simp only [Nat.zero_add] at L1 L2
            have C1 := fun d os => Calls.regrown_of (rbit_any p.key i (grow (redrawn wr d) os) hp)
            have C2 := fun d os => Calls.regrown_of (rbit_any q.key i (grow (redrawn wr d) os) hq)
            have C3 := fun w => rbit_any p.key i w hp
            simp only [bitZ_at _ _ hlt] at C1 C2 C3
            have HB := Lib.hid C3
            clear rp rq hwr C3 lp lq kp kq bp bq np nq
            by_cases he : i < com p.key q.key
            · rw [(com_is p.key q.key).same i he] at C1
              go_wp2
              refine wp_region_quiet_below (by kernel_rfl) (by kernel_rfl) ?_
              repeat (go_big_quiet_step ((with_reducible first | exact C1 _ _ | exact C2 _ _)))
              refine wpQuiet_nil fun w5 hw5 => ?_
              have hb5 := HG.out w5 hw5
              clear hw5 C1 C2 L1 L2
              go_wp2
              go_roundw
              case rel => exact ⟨i + 1, by omega, by go_num, hb5⟩
              case measure => simp [intOf]; omega
            · have hic : i = com p.key q.key := by omega
              have hlc : com p.key q.key < 128 := by omega
              have hne : (((bt p.key i : Nat) : Int) != ((bt q.key i : Nat) : Int)) = true := by
                rw [bne_iff_ne]
                have := (com_is p.key q.key).part hlc
                rw [hic]; omega
              have hl := HL.out.2 hlc
              rw [← hic] at hl
              have HR := Lib.hid hl
              clear hl he hi hic hlc hi128
              generalize bt p.key i = x at *
              generalize bt q.key i = y at *
              go_wp2
              refine wp_region_quiet_below (by kernel_rfl) (by kernel_rfl) ?_
              repeat (go_big_quiet_step ((with_reducible first | exact C1 _ _ | exact C2 _ _)))
              refine wpQuiet_nil fun w5 hw5 => ?_
              have hb5 := HG.out w5 hw5
              obtain ⟨⟨lp, lq, kp, kq, bp, bq, np, nq⟩, -, -⟩ := HT.out w5 hb5
              clear hw5 C1 C2 L1 L2
              go_wp2_with fail
              refine (HB.out _).mono ?_
              rintro e w6 ⟨rfl, h6⟩
              go_wp2
              go_ret
              exact ⟨ret_bool (by rw [HF.out, HR.out]; simp), hb.trans ((hb5.trans (h6.mono hb5.size)).mono hb.size)⟩
          · obtain rfl : i = 128 := by omega
            have hl := HL.out.1 (by omega)
            have HR := Lib.hid hl
            clear hl rp rq HG hlt hi hi128
            go_wp2
            go_ret
            exact ⟨ret_bool (by rw [HF.out, HR.out]; simp), hb.trans (hwr.mono hb.size)⟩
      · have hne : (p.bits != q.bits) = true := by simpa using hbits
        have HL := Lib.hid (show lessIn p q = decide (p.bits < q.bits) by unfold lessIn; rw [if_neg hbits])
        clear hbits
        go_enter Try.func24, Try.ntmps24
        go_wp2_with fail
        rw [HW.out]
        refine (HC.out _).mono ?_
        rintro e w1 ⟨rfl, h1⟩
        obtain ⟨⟨lp, lq, kp, kq, bp, bq, np, nq⟩, -, -⟩ := HT.out w1 h1
        go_wp2_with fail
        refine (HD.out _).mono ?_
        clear lp lq kp kq bp bq np nq
        rintro e w2 ⟨rfl, h2⟩
        have h2 := h1.trans (h2.mono h1.size)
        obtain ⟨⟨lp, lq, kp, kq, bp, bq, np, nq⟩, -, -⟩ := HT.out w2 h2
        go_wp2
        go_ret
        exact ⟨ret_bool (by rw [HF.out, ← HL.out]; simp), hb.trans (h2.mono hb.size)⟩

set_option maxHeartbeats 1000000 in
set_option maxRecDepth 100000 in
theorem rstep_in (k : Nat → Nat) (i : Nat) (hlt : i < 32) (w : World) (hk : Bytes16 k) :
    Calls Try.prog 16 #[.agg (kc k), .int .i64 i] w fun e w' => e = .returned (.int .i64 (stepZ k i)) ∧ Below w.heap.size w w' := by
  have rk := rowAt_new w (kc k) 23
  have hb : Below w.heap.size w (w.alloc (.cells (kc k) 23)) := (Below.refl _ _).alloc (Nat.le_refl _) _
  have h1 : (i : Int) ≤ 31 := by omega
  have h2 : (0 : Int) ≤ i := by omega
  have hs := keyCuts.stepZ_bits hk i hlt
  rw [hs]
  clear hs
  have r0 := keyCuts.bitZ_range k (4 * (i : Int))
  have r1 := keyCuts.bitZ_range k (4 * (i : Int) + 1)
  have r2 := keyCuts.bitZ_range k (4 * (i : Int) + 2)
  have r3 := keyCuts.bitZ_range k (4 * (i : Int) + 3)
  have D1 := fun w => rbit_any k (4 * (i : Int)) w hk
  have D2 := fun w => rbit_any k (4 * (i : Int) + 1) w hk
  have D3 := fun w => rbit_any k (4 * (i : Int) + 2) w hk
  have D4 := fun w => rbit_any k (4 * (i : Int) + 3) w hk
  generalize bitZ k (4 * (i : Int)) = b0 at *
  generalize bitZ k (4 * (i : Int) + 1) = b1 at *
  generalize bitZ k (4 * (i : Int) + 2) = b2 at *
  generalize bitZ k (4 * (i : Int) + 3) = b3 at *
  obtain ⟨p0, q0⟩ := r0
  obtain ⟨p1, q1⟩ := r1
  obtain ⟨p2, q2⟩ := r2
  obtain ⟨p3, q3⟩ := r3
  have E1 := Lib.hid D1
  have E2 := Lib.hid D2
  have E3 := Lib.hid D3
  have E4 := Lib.hid D4
  clear D1 D2 D3 D4
  go_enter Try.func16, Try.ntmps16
  go_wp2
  generalize w.alloc (.cells (kc k) 23) = W at *
  have L1 := fun d os => run_keyLoad (rowAt_regrown rk d os)
  have C1 := fun d os => Calls.regrown_of (E1.out (grow (redrawn W d) os))
  have C2 := fun d os => Calls.regrown_of (E2.out (grow (redrawn W d) os))
  have C3 := fun d os => Calls.regrown_of (E3.out (grow (redrawn W d) os))
  have C4 := fun d os => Calls.regrown_of (E4.out (grow (redrawn W d) os))
  have fin : ∀ w5, (∃ p : Regrown, w5 = grow (redrawn W p.d) p.os) → Below w.heap.size w w5 := by
    rintro w5 ⟨p, rfl⟩
    exact hb.trans ((below_regrown W p.d p.os).mono hb.size)
  have HG := Lib.hid fin
  clear fin rk
  refine wp_region_quiet_below (by kernel_rfl) (by kernel_rfl) ?_
  repeat (go_big_quiet_step ((with_reducible first | exact C1 _ _ | exact C2 _ _ | exact C3 _ _ | exact C4 _ _)))
  refine wpQuiet_nil fun w5 hw5 => ?_
  have hb5 := HG.out w5 hw5
  clear hw5 C1 C2 C3 C4 L1 p0 p1 p2 p3 q0 q1 q2 q3
  go_wp2
  go_ret
  exact ⟨rfl, hb5⟩

set_option maxHeartbeats 400000 in
set_option maxRecDepth 100000 in
theorem rstep_out (k : Nat → Nat) (n : Int) (hn : n < 0 ∨ 32 ≤ n) (w : World) :
    Calls Try.prog 16 #[.agg (kc k), .int .i64 n] w fun e w' => e = .returned (.int .i64 0) ∧ Below w.heap.size w w' := by
  rcases hn with hn | hn
  · go_enter Try.func16, Try.ntmps16
    go_wp2
    go_ret
    exact ⟨rfl, (Below.refl _ _).alloc (Nat.le_refl _) _⟩
  · have h0 : ¬ n < 0 := by omega
    have h1 : 31 < n := by omega
    go_enter Try.func16, Try.ntmps16
    go_wp2
    go_ret
    exact ⟨rfl, (Below.refl _ _).alloc (Nat.le_refl _) _⟩

theorem rstep_any (k : Nat → Nat) (n : Int) (w : World) (hk : Bytes16 k) :
    Calls Try.prog 16 #[.agg (kc k), .int .i64 n] w fun e w' => e = .returned (.int .i64 (stepZ k n)) ∧ Below w.heap.size w w' := by
  by_cases h : 0 ≤ n ∧ n < 32
  · obtain ⟨m, rfl⟩ := Int.eq_ofNat_of_zero_le h.1
    exact rstep_in k m (by omega) w hk
  · rw [show stepZ k n = 0 by unfold stepZ; rw [if_neg h]]
    exact rstep_out k n (by omega) w

end Go.Proofs.Ytpjmhdolmemmlaa
