/- bywaylaw03.short: the routes of short keys. -/
import Derived.Test.YtcpdpcfejpbdpaaTabChgP
import Derived.Test.YtcpdpcfejpbdpaaTabUnder
namespace Go.Proofs.Ytcpdpcfejpbdpaa
open Go.RowKit Go.Sort Go.Shelf
attribute [local go_sem ↓] loadVar_key loadVar_pre loadVar_route storeVar_pre storeVar_route buildSlice_row

set_option maxHeartbeats 1000000 in
set_option maxRecDepth 100000 in
theorem short_any (l : List Rt) (hl : l.length ≤ 256) (v : Value) (w : World) (hR : Rd w v l) :
    Calls Try.prog 24 #[v] w (ListPost w (shortL l)) := by
  obtain ⟨a, cap, hv, -⟩ := rd_len hR
  have HR := Lib.hid hR
  obtain ⟨n, hn⟩ : ∃ n, n = l.length := ⟨_, rfl⟩
  rw [← hn] at hv hl
  have hlI : (n : Int) ≤ 256 := by omega
  have HN := Lib.hid hn
  have HL : Hid (n ≤ 256) := hl
  subst hv
  obtain ⟨i0, hi0, hz0, hz1, hz2⟩ := infoR'
  have H0 := Lib.hid hi0
  have H1 := Lib.hid hz0
  have H2 := Lib.hid hz1
  have H3 := Lib.hid hz2
  clear hR hn hi0 hz0 hz1 hz2 hl
  unfold ListPost
  go_enter Try.func24, Try.ntmps24
  go_wp2
  go_loopw [3, 4] (fun s t wr => ∃ i : Nat, i ≤ n ∧ t = .int .i64 i ∧ Hid (Own wr w.heap.size s (shortL (l.take i))) ∧ Hid (Below w.heap.size w wr)) (fun _ t _ => n - (intOf t).toNat)
  case atStart => exact ⟨0, Nat.zero_le _, rfl, own_nil _ _, Below.refl _ _⟩
  case round =>
    obtain ⟨i, hi, rfl, HO, HW⟩ := hrel
    by_cases hlt : i < n
    · have hltI : (i : Int) < n := by omega
      have hi0 : (0 : Int) ≤ i := by omega
      obtain ⟨r, hrr⟩ : ∃ r, l[i]? = some r := ⟨l[i]'(by rw [← HN.out]; exact hlt), List.getElem?_eq_getElem _⟩
      obtain ⟨a', rfl, hca⟩ : ∃ a', a = some a' ∧ CellsAt wr a' (fl l) := by
        rcases HR.out.later HW.out with ⟨h, hnil⟩ | ⟨a', cap', h, _, _, hc⟩
        · exfalso; rw [hnil] at hrr; cases hrr
        · simp only [Value.slice.injEq] at h
          exact ⟨a', h.1, hc⟩
      have hc := hca.route hrr
      have ld := run_routeLoad hc
      have c0 : wr.cell? (a'.add (i * 19)) = some (.int .i64 r.pre.bits) := by
        have h0 := hc 0 (.int .i64 r.pre.bits) (by unfold rl pc; rfl)
        rw [add_zero'] at h0; exact h0
      have htake : l.take (i + 1) = l.take i ++ [r] := by rw [List.take_add_one, hrr]; rfl
      have hbd := fun W => run_rowBuild r W
      cases hb : (r.pre.bits == 32) with
      | false =>
        have HE : Hid (shortL (l.take (i + 1)) = shortL (l.take i)) := by
          show _ = _
          unfold shortL
          rw [htake, List.filter_append]; simp [hb]
        clear hca hc htake hrr ld
        go_wp2
        go_roundw
        case rel => exact ⟨i + 1, by omega, by go_num, by rw [HE.out]; exact HO.out, HW.out⟩
        case measure => simp [intOf]; omega
      | true =>
        have HE : Hid (shortL (l.take (i + 1)) = shortL (l.take i) ++ [r]) := by
          show _ = _
          unfold shortL
          rw [htake, List.filter_append]; simp [hb]
        obtain ⟨q, hq⟩ : ∃ q, q = shortL (l.take i) := ⟨_, rfl⟩
        have hql : Hid (q.length ≤ 256) := by
          show q.length ≤ 256
          rw [hq]; unfold shortL
          refine Nat.le_trans (List.length_filter_le _ _) ?_
          rw [List.length_take]; have := HL.out; omega
        have ho := HO.out
        rw [← hq] at HE ho
        have hal : Below wr.heap.size wr (wr.alloc (.cells (rc r) 34)) := (Below.refl _ _).alloc (Nat.le_refl _) _
        have hown := ho.later hal
        have hnew := newRoute wr r
        have hsz : w.heap.size ≤ wr.heap.size := HW.out.size
        clear hca hc htake hrr ho hq
        go_wp2_with (at_builtin; refine wpList_append_own _ rfl _ _ 22 rfl w.heap.size 34 i0 (.agg (rc zrt)) 19 40 Try.underlying22 H0.out H1.out H2.out H3.out (rc_size _) (by decide) _ q.length (fl q) rfl hown ⟨wr.heap.size, 0, none⟩ 1 1 (rl r) rfl (rl_length r) hnew (rl_one r) (by have := hql.out; simp only [maxLen]; omega) (by have := hql.out; omega) (by simp; omega) ?_)
        intro v' w3 hown' hg _
        have hb3 := (HW.out.trans (hal.mono hsz)).grown hg (Nat.le_trans hsz hal.size) (fun k hk => (hown.lt k hk).1)
        have hown3 : Own w3 w.heap.size v' (q ++ [r]) := by unfold Own; rw [List.length_append, fl_append, fl_one]; exact hown'
        clear hown' hg hown ld
        go_wp2
        go_roundw
        case rel => exact ⟨i + 1, by omega, by go_num, by rw [HE.out]; exact hown3, hb3⟩
        case measure => simp [intOf]; omega
    · obtain rfl : i = n := by omega
      go_wp2
      go_ret
      have hO := HO.out
      rw [List.take_of_length_le (by rw [← HN.out]; exact Nat.le_refl _)] at hO
      exact ⟨_, rfl, hO, HW.out⟩
end Go.Proofs.Ytcpdpcfejpbdpaa
