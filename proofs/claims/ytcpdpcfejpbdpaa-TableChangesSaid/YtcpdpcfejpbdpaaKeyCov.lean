/- key.Covers: what each call hands back; of what was there nothing has turned. -/
import Derived.Test.YtcpdpcfejpbdpaaKeyMay
namespace Go.Proofs.Ytcpdpcfejpbdpaa
open Go.RowKit Go.Sort
attribute [local go_sem ↓] loadVar_key loadVar_pre

theorem covers_cases (p q : Pre) : coversB p q = if mayB q = true then (if (p.bits == q.bits) = true then (if p.len ≤ q.len then fitsB p q.key else false) else false) else false := by
  unfold coversB
  by_cases h : p.len ≤ q.len <;> cases mayB q <;> cases p.bits == q.bits <;> simp [h]

/-- What is known of a world in which two prefixes lie, one block behind the other. -/
structure TwoPre (w : World) (B : Nat) (p q : Pre) : Prop where
  lp : (preLoad ⟨B, 0, none⟩).run Try.prog w = .ok (.agg (pc p)) w
  lq : (preLoad ⟨B + 1, 0, none⟩).run Try.prog w = .ok (.agg (pc q)) w
  kp : (keyLoad ⟨B, 2, none⟩).run Try.prog w = .ok (.agg (kc p.key)) w
  kq : (keyLoad ⟨B + 1, 2, none⟩).run Try.prog w = .ok (.agg (kc q.key)) w
  bp : w.cell? ⟨B, 0, none⟩ = some (.int .i64 p.bits)
  bq : w.cell? ⟨B + 1, 0, none⟩ = some (.int .i64 q.bits)
  np : w.cell? ⟨B, 1, none⟩ = some (.int .i64 p.len)
  nq : w.cell? ⟨B + 1, 1, none⟩ = some (.int .i64 q.len)

theorem twoPre_of {w : World} {B : Nat} {p q : Pre} (rp : RowAt w B 0 (pc p)) (rq : RowAt w (B + 1) 0 (pc q)) : TwoPre w B p q :=
  ⟨run_preLoad rp, run_preLoad rq, run_keyLoad rp.key, run_keyLoad rq.key, rp.bits, rq.bits, by simpa using rp.len, by simpa using rq.len⟩

theorem rows_two (w : World) (a b : Array Value) (s t : TypeId) : RowAt ((w.alloc (.cells a s)).alloc (.cells b t)) w.heap.size 0 a ∧ RowAt ((w.alloc (.cells a s)).alloc (.cells b t)) (w.heap.size + 1) 0 b ∧
    Below w.heap.size w ((w.alloc (.cells a s)).alloc (.cells b t)) ∧ ((w.alloc (.cells a s)).alloc (.cells b t)).heap.size = w.heap.size + 2 :=
  ⟨(rowAt_new w a _).below (B := w.heap.size + 1) ((Below.refl _ _).alloc (by simp) _) (by omega), by simpa using rowAt_new (w.alloc (.cells a s)) b t, ((Below.refl _ _).alloc (Nat.le_refl _) _).alloc (by simp) _, by simp⟩

set_option maxHeartbeats 2000000 in
set_option maxRecDepth 100000 in
theorem covers_any (p q : Pre) (hp : Bytes16 p.key) (hq : Bytes16 q.key) (w : World) :
    Calls Try.prog 23 #[.agg (pc p), .agg (pc q)] w fun e w' => e = .returned (.bool (coversB p q)) ∧ Below w.heap.size w w' := by
  obtain ⟨rp, rq, hb, hz⟩ := rows_two w (pc p) (pc q) 26 26
  have C1 := may_any q hq ((w.alloc (.cells (pc p) 26)).alloc (.cells (pc q) 26))
  have HZ := Lib.hid hz
  clear hz
  have HF := Lib.hid (covers_cases p q)
  have T : ∀ w1, Below ((w.alloc (.cells (pc p) 26)).alloc (.cells (pc q) 26)).heap.size ((w.alloc (.cells (pc p) 26)).alloc (.cells (pc q) 26)) w1 → TwoPre w1 w.heap.size p q ∧ Below w.heap.size w w1 :=
    fun w1 h => ⟨twoPre_of (rp.below h (by rw [HZ.out]; omega)) (rq.below h (by rw [HZ.out]; omega)), hb.trans (h.mono hb.size)⟩
  obtain ⟨lp, lq, kp, kq, bp, bq, np, nq⟩ := twoPre_of rp rq
  have HT := Lib.hid T
  clear T hb
  cases hm : mayB q with
  | false =>
    rw [hm] at HF C1
    have HC := Lib.hid C1
    clear hm C1
    go_enter Try.func23, Try.ntmps23
    go_wp2_with (go_at_call 25; refine HC.out.mono ?_; rintro e w1 ⟨rfl, h1⟩; obtain ⟨-, hb1⟩ := HT.out w1 h1)
    go_ret
    exact ⟨ret_bool (by rw [HF.out]; rfl), hb1⟩
  | true =>
    rw [hm] at HF C1
    have HC := Lib.hid C1
    clear hm C1
    cases he : p.bits == q.bits with
    | false =>
      rw [he] at HF
      go_enter Try.func23, Try.ntmps23
      go_wp2_with (go_at_call 25; refine HC.out.mono ?_; rintro e w1 ⟨rfl, h1⟩; obtain ⟨⟨lp, lq, kp, kq, bp, bq, np, nq⟩, hb1⟩ := HT.out w1 h1)
      go_ret
      exact ⟨ret_bool (by rw [HF.out]; rfl), hb1⟩
    | true =>
      rw [he] at HF
      by_cases hl : p.len ≤ q.len
      · rw [if_pos hl] at HF
        go_enter Try.func23, Try.ntmps23
        go_wp2_with (first
          | (go_at_call 25; refine HC.out.mono ?_; rintro e w1 ⟨rfl, h1⟩; obtain ⟨⟨lp, lq, kp, kq, bp, bq, np, nq⟩, hb1⟩ := HT.out w1 h1)
          | (go_at_call 22; refine (fits_any p q.key hp hq _).mono ?_; rintro e w2 ⟨rfl, h2⟩))
        go_ret
        exact ⟨ret_bool (by rw [HF.out]; rfl), hb1.trans (h2.mono hb1.size)⟩
      · rw [if_neg hl] at HF
        have hl2 : decide (p.len ≤ q.len) = false := by simpa using hl
        go_enter Try.func23, Try.ntmps23
        go_wp2_with (go_at_call 25; refine HC.out.mono ?_; rintro e w1 ⟨rfl, h1⟩; obtain ⟨⟨lp, lq, kp, kq, bp, bq, np, nq⟩, hb1⟩ := HT.out w1 h1)
        go_ret
        exact ⟨ret_bool (by rw [HF.out]; rfl), hb1⟩

end Go.Proofs.Ytcpdpcfejpbdpaa
