/- bywayref03.Same: two lists that read the same are. -/
import Derived.Test.YtcpdpcfejpbdpaaTabEq
import Derived.Test.YtcpdpcfejpbdpaaTabPure
import Derived.Deep.QuietTactic
import Derived.BigQuiet
namespace Go.Proofs.Ytcpdpcfejpbdpaa
open Go.RowKit Go.Sort Go.Shelf
attribute [local go_sem ↓] loadVar_key loadVar_pre loadVar_route storeVar_pre storeVar_route binOp_rtNeq

theorem rtEq_refl (r : Rt) : rtEq r r = true := by unfold rtEq; rw [preEq_refl]; simp
theorem run_rtNeq (r s : Rt) (w : World) : (rtNeq (.agg (rc r)) (.agg (rc s))).run Try.prog w = .ok (.bool (!rtEq r s)) w := by
  unfold rtNeq
  rw [run_neq_struct, run_eqRoute]; rfl

theorem rd_at {w : World} {a : Option Addr} {n cap : Nat} {l : List Rt} (h : Rd w (.slice a n cap) l) {i : Nat} {r : Rt} (hr : l[i]? = some r) : ∃ a', a = some a' ∧ ∀ k, (routeLoad (a'.add (i * 19))).run Try.prog (w.drewN k) = .ok (.agg (rc r)) (w.drewN k) := by
  rcases h with ⟨h, hnil⟩ | ⟨a', cap', h, _, _, hc⟩
  · exfalso; rw [hnil] at hr; cases hr
  · simp only [Value.slice.injEq] at h
    exact ⟨a', h.1, fun k => run_routeLoad (fun j u hu => hc.route hr j u hu)⟩

set_option maxHeartbeats 1000000 in
set_option maxRecDepth 100000 in
theorem same_yes (l : List Rt) (v u : Value) (w : World) (hv : Rd w v l) (hu : Rd w u l) (h16 : l.length ≤ 65536) :
    Calls Try.prog 15 #[v, u] w fun e w' => e = .returned (.bool true) ∧ Below w.heap.size w w' := by
  obtain ⟨a, cap, ev, -⟩ := rd_len hv
  obtain ⟨b, cbp, eu, -⟩ := rd_len hu
  obtain ⟨m, hm⟩ : ∃ m, m = l.length := ⟨_, rfl⟩
  rw [← hm] at ev eu h16
  have hmI : (m : Int) ≤ 65536 := by omega
  have HM := Lib.hid hm
  have HV := Lib.hid hv
  have HU := Lib.hid hu
  subst ev
  subst eu
  clear hv hu hm
  go_enter Try.func15, Try.ntmps15
  go_wp2
  go_loopw [5] (fun i wr => ∃ n : Nat, n ≤ m ∧ i = .int .i64 n ∧ Hid (Below w.heap.size w wr)) (fun i _ => m - (intOf i).toNat)
  case atStart => exact ⟨0, Nat.zero_le _, rfl, Below.refl _ _⟩
  case round =>
    obtain ⟨n, hn, rfl, HW⟩ := hrel
    by_cases hlt : n < m
    · have hltI : (n : Int) < m := by omega
      have hn0 : (0 : Int) ≤ n := by omega
      obtain ⟨r, hr⟩ : ∃ r, l[n]? = some r := ⟨l[n]'(by rw [← HM.out]; exact hlt), List.getElem?_eq_getElem _⟩
      obtain ⟨a', rfl, la⟩ := rd_at (HV.out.later HW.out) hr
      obtain ⟨b', rfl, lb⟩ := rd_at (HU.out.later HW.out) hr
      have hq := run_rtNeq r r
      rw [rtEq_refl] at hq
      clear hr
      go_wp2
      go_quiet (fail)
      clear la lb hq
      go_wp2
      go_roundw
      case rel => exact ⟨n + 1, by omega, by go_num, ⟨HW.out.os, HW.out.tape, HW.out.output, HW.out.size, HW.out.block⟩⟩
      case measure => simp [intOf]; omega
    · obtain rfl : n = m := by omega
      go_wp2
      go_ret
      exact ⟨rfl, HW.out⟩
end Go.Proofs.Ytcpdpcfejpbdpaa
