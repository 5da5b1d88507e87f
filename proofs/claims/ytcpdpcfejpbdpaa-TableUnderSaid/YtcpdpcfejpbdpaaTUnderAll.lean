/- The statement TableUnder, walked: at whatever routes, prefix and key. -/
import Derived.Test.YtcpdpcfejpbdpaaTUnder
namespace Go.Proofs.Ytcpdpcfejpbdpaa.tableUnder
open Go.RowKit Go.Sort Go.Shelf
attribute [local go_sem ↓] loadVar_key loadVar_pre loadVar_route storeVar_pre storeVar_route build_pre build_route build_key build_change buildSlice_rows buildSlice_chs binOp_preNeq

set_option maxHeartbeats 1000000 in
set_option maxRecDepth 100000 in
theorem walk_no (l : List Rt) (p : Pre) (hp : Bytes16 p.key) (k : Nat → Nat) (v : Value) (w : World) (hR : Rd w v l) (hno : ¬ l.length ≤ 100 ∨ rightB l = false ∨ mayB p = false) :
    Calls Try.prog 7 #[v, .agg (pc p), .agg (kc k)] w fun e w' => e = .returned (.bool true) ∧ Below w.heap.size w w' := by
  obtain ⟨rp, rk, hb0, hz0⟩ := rows_two w (pc p) (kc k) 26 24
  obtain ⟨W0, hW0⟩ : ∃ W0, (w.alloc (.cells (pc p) 26)).alloc (.cells (kc k) 24) = W0 := ⟨_, rfl⟩
  have HW0 := Lib.hid hW0
  rw [hW0] at rp hb0 hz0
  have T : ∀ W, Below W0.heap.size W0 W → (preLoad ⟨w.heap.size, 0, none⟩).run Try.prog W = .ok (.agg (pc p)) W ∧ Rd W v l ∧ Below w.heap.size w W := fun W h => by
    have h2 := hb0.trans (h.mono (by omega))
    exact ⟨run_preLoad (rp.below h (by omega)), hR.later h2, h2⟩
  have HT := Lib.hid T
  have H1 := Lib.hid (awake_any W0)
  have H2 := Lib.hid (fun W h => right_any l v W h)
  have H3 := Lib.hid (fun W => may_any p hp W)
  obtain ⟨a, cap, hv, hmx⟩ := rd_len hR
  unfold maxLen at hmx
  obtain ⟨n, hn⟩ : ∃ n, n = l.length := ⟨_, rfl⟩
  rw [← hn] at hv hmx hno
  subst hv
  clear T rp rk hb0 hz0 hR hn
  by_cases hl : n ≤ 100
  · have hlI : (n : Int) ≤ 100 := by omega
    cases hr : rightB l with
    | false =>
      rw [hr] at H2
      clear hl hmx hno hr
      go_enter Try.func7, Try.ntmps7
      go_wp2_with fail
      refine H1.out.mono ?_
      rintro e1 w1 ⟨rfl, h1⟩
      have B1 := Lib.hid h1
      clear h1
      go_wp2_with fail
      refine (H2.out _ (HT.out w1 B1.out).2.1).mono ?_
      rintro e1 w2 ⟨rfl, h2⟩
      have FIN := Lib.hid (HT.out w2 (B1.out.trans (h2.mono B1.out.size))).2.2
      clear h2
      go_wp2
      go_ret
      exact ⟨rfl, FIN.out⟩
    | true =>
      have hm : mayB p = false := by
        rcases hno with h | h | h
        · exact absurd hl h
        · rw [hr] at h; cases h
        · exact h
      rw [hr] at H2
      rw [hm] at H3
      clear hl hmx hno hr hm
      go_enter Try.func7, Try.ntmps7
      go_wp2_with fail
      refine H1.out.mono ?_
      rintro e1 w1 ⟨rfl, h1⟩
      have B1 := Lib.hid h1
      clear h1
      go_wp2_with fail
      refine (H2.out _ (HT.out w1 B1.out).2.1).mono ?_
      rintro e1 w2 ⟨rfl, h2⟩
      have B2 := Lib.hid (B1.out.trans (h2.mono B1.out.size))
      clear h2
      obtain ⟨lp, -, -⟩ := HT.out w2 B2.out
      go_wp2_with fail
      refine (H3.out _).mono ?_
      rintro e1 w3 ⟨rfl, h3⟩
      have FIN := Lib.hid (HT.out w3 (B2.out.trans (h3.mono B2.out.size))).2.2
      clear h3 lp
      go_wp2
      go_ret
      exact ⟨rfl, FIN.out⟩
  · have hlI : (100 : Int) < n := by omega
    clear hl hmx hno
    go_enter Try.func7, Try.ntmps7
    go_wp2_with fail
    refine H1.out.mono ?_
    rintro e1 w1 ⟨rfl, h1⟩
    have FIN := Lib.hid (HT.out w1 h1).2.2
    clear h1
    go_wp2
    go_ret
    exact ⟨rfl, FIN.out⟩

theorem walkAll (l : List Rt) (p : Pre) (k : Nat → Nat) (v : Value) (w : World) (hR : Rd w v l) (hp : Bytes16 p.key) (hpz : ∀ i, 16 ≤ i → p.key i = 0) (hk : Bytes16 k) :
    Calls Try.prog 7 #[v, .agg (pc p), .agg (kc k)] w fun e w' => e = .returned (.bool true) ∧ Below w.heap.size w w' := by
  by_cases hl : l.length ≤ 100
  · cases hr : rightB l with
    | false => exact walk_no l p hp k v w hR (.inr (.inl hr))
    | true =>
      cases hm : mayB p with
      | false => exact walk_no l p hp k v w hR (.inr (.inr hm))
      | true => exact walk l p hp hpz hm k hk v w hR hl ((right_iff l).1 hr).2
  · exact walk_no l p hp k v w hR (.inl hl)
end Go.Proofs.Ytcpdpcfejpbdpaa.tableUnder
