/- slices.Backward over routes: who ranges over it gets them, the last one first. -/
import Derived.Test.YtggjcjijoihilaaTabPlace
import Derived.RangeFuncNested
import Derived.RangeFuncBound
import Derived.RangeFuncCalls
import Derived.RangeFuncLeaves
import Derived.Shelf.Abstract
import Derived.Shelf.RegionOpen
import Derived.WalkKit
import Derived.OwnWalkIn
import Derived.TacticsInMore
import Derived.LoopNIn
import Derived.LoopIn
namespace Go.Proofs.Ytggjcjijoihilaa
open Go.RowKit Go.Sort Go.Shelf
attribute [local go_sem ↓] loadVar_key loadVar_pre loadVar_route storeVar_pre
attribute [local go_sem] Oper.semAt_some

theorem back_any (N : Nat) (a : Option Addr) (m cap : Nat) (w : World) : CallsIn Fence.wide N Try.prog 37 #[.slice a m cap] w fun e w' =>
    e = .returned (.func (.func 67) #[] #[.pointer (some ⟨w.heap.size, 0, none⟩)]) ∧ w' = w.alloc (.cells #[.slice a m cap] 22) := by
  refine callsIn_of_wp Try.func37 rfl trivial ?_ rfl
  simp only [Try.ntmps37, List.size_toArray, List.length_cons, List.length_nil, Nat.reduceAdd, Nat.reduceSub, Array.replicate_succ, Array.replicate_zero, List.push_toArray, List.append_toArray, List.nil_append, List.cons_append]
  gi_wp2
  go_ret
  exact ⟨rfl, rfl⟩

def encB (x : Nat × Rt) : Array Value := #[.int .i64 (x.1 : Int), .agg (rc x.2)]

set_option maxRecDepth 100000 in
set_option maxHeartbeats 2000000 in
theorem back1_in (n : Nat) (hn : 1 ≤ n) (lp Bs n₀ : Nat) (l : List Rt) (v : Value) (h16 : l.length ≤ 65536) (hBn : Bs < n₀) (J Jx : List (Nat × Rt) → World → Prop)
    (hY : ∀ pre x W, J pre W → pre.length < l.length → YieldAt Fence.wide (n - 1) Try.prog lp #[.int .i64 ((x.1 : Nat) : Int), .agg (rc x.2)] W fun e W' =>
      (e = .returned (.bool true) ∧ J (pre ++ [x]) W' ∧ Below n₀ W W') ∨ (e = .returned (.bool false) ∧ Jx (pre ++ [x]) W'))
    (W : World) (hBs : W.cell? ⟨Bs, 0, none⟩ = some v) (hR : ∀ W', Below n₀ W W' → Rd W' v l) (h0 : J [] W) :
    CallsIn Fence.wide n Try.prog 67 #[.func (.yield lp) #[] #[], .pointer (some ⟨Bs, 0, none⟩)] W fun e W' => (∃ v, e = .returned v) ∧
      ((∃ ys, ys.map (·.2) = l.reverse ∧ J ys W') ∨ (∃ pre, pre.map (·.2) <+: l.reverse ∧ Jx pre W')) := by
  obtain ⟨a, cap, hv, -⟩ := rd_len (hR W (Below.refl _ _))
  have HR := Lib.hid hR
  have HB := Lib.hid hBs
  have HY := Lib.hid hY
  have H0 := Lib.hid h0
  obtain ⟨m, hm⟩ : ∃ m, m = l.length := ⟨_, rfl⟩
  rw [← hm] at hv h16
  have HM := Lib.hid hm
  have hmI : (m : Int) ≤ 65536 := by omega
  subst hv
  clear hR hY hm h0
  refine callsIn_of_wp Try.func67 rfl trivial ?_ rfl
  simp only [Try.ntmps67, List.size_toArray, List.length_cons, List.length_nil, Nat.reduceAdd, Nat.reduceSub, Array.replicate_succ, Array.replicate_zero, List.push_toArray, List.append_toArray, List.nil_append, List.cons_append]
  gi_wp2
  gi_loopw [3] (fun i wr => ∃ (k : Nat) (pre : List (Nat × Rt)) (z : Int), i = .int .i64 z ∧ Hid (z = (m : Int) - 1 - k ∧ k ≤ m ∧ pre.length = k ∧ pre.map (·.2) = l.reverse.take k) ∧ Hid (J pre wr) ∧ Hid (Below n₀ W wr)) (fun i _ => (intOf i + 1).toNat)
  case atStart => exact ⟨0, [], _, rfl, ⟨by omega, Nat.zero_le _, rfl, rfl⟩, H0, Below.refl _ _⟩
  case round =>
    obtain ⟨k, pre, z, rfl, HZ, HJ, HW⟩ := hrel
    obtain ⟨hz, hkm, hpl, hpm⟩ := HZ.out
    by_cases hlt : k < m
    · obtain ⟨q, rfl⟩ : ∃ q : Nat, z = q := ⟨m - 1 - k, by omega⟩
      have hq : q < m := by omega
      have hqI : (q : Int) < m := by omega
      obtain ⟨r, hr⟩ : ∃ r, l[q]? = some r := ⟨l[q]'(by rw [← HM.out]; exact hq), List.getElem?_eq_getElem _⟩
      obtain ⟨fn, tmps, assign, body, hy, hRd⟩ := HY.out pre (q, r) wr HJ.out (by rw [hpl, ← HM.out]; exact hlt)
      dsimp only at hy
      have hc : wr.cell? ⟨Bs, 0, none⟩ = some (.slice a m cap) := by rw [HW.out.cell (p := ⟨Bs, 0, none⟩) hBn]; exact HB.out
      obtain ⟨a', rfl, ld⟩ : ∃ a', a = some a' ∧ (routeLoad (a'.add (q * 19))).run Try.prog wr = .ok (.agg (rc r)) wr := by
        rcases HR.out wr HW.out with ⟨h, hnil⟩ | ⟨a', cap', h, _, _, hcc⟩
        · exfalso; rw [hnil] at hr; cases hr
        · simp only [Value.slice.injEq] at h
          exact ⟨a', h.1, run_routeLoad (hcc.route hr)⟩
      have HN : Hid ((q : Int) - 1 = (m : Int) - 1 - ((k + 1 : Nat) : Int) ∧ k + 1 ≤ m ∧ (pre ++ [(q, r)]).length = k + 1 ∧ (pre ++ [(q, r)]).map (·.2) = l.reverse.take (k + 1)) := by
        refine ⟨by omega, by omega, by rw [List.length_append, hpl]; rfl, ?_⟩
        rw [List.map_append, hpm, List.take_add_one]
        have hx : l.reverse[k]? = some r := by
          rw [List.getElem?_reverse (by rw [← HM.out]; exact hlt), ← HM.out, show m - 1 - k = q by omega]; exact hr
        rw [hx]; rfl
      clear hz hpl hpm hr HZ
      gi_wp2
      refine hRd.mono ?_
      rintro e W3 (⟨rfl, hJ3, hk3⟩ | ⟨rfl, hJx3⟩)
      · have HJ3 := Lib.hid hJ3
        have HB3 := Lib.hid (HW.out.trans hk3)
        clear hJ3 hk3
        gi_wp2
        go_roundw
        case rel => exact ⟨k + 1, pre ++ [(q, r)], _, rfl, HN, HJ3, HB3⟩
        case measure => simp [intOf]
      · have HJ3 := Lib.hid hJx3
        clear hJx3
        gi_wp2
        refine bodyPost_ret (results_none rfl _ _ _) rfl ?_
        exact ⟨⟨_, rfl⟩, .inr ⟨_, by rw [HN.out.2.2.2]; exact List.take_prefix _ _, HJ3.out⟩⟩
    · have hz0 : z < 0 := by omega
      have hzn : ¬ (0 : Int) ≤ z := by omega
      have HP : Hid (pre.map (·.2) = l.reverse) := by
        show _ = _
        rw [hpm, List.take_of_length_le (by rw [List.length_reverse, ← HM.out]; omega)]
      clear hz hpl hpm HZ
      gi_wp2
      go_end0
      exact ⟨⟨_, rfl⟩, .inl ⟨_, HP.out, HJ.out⟩⟩

theorem back_stops (n : Nat) (hn : 1 ≤ n) (Bs n₀ : Nat) (l : List Rt) (v : Value) (h16 : l.length ≤ 65536) (w : World) (hBn : Bs < n₀) (hn₀ : n₀ ≤ w.heap.size) (hBs : w.cell? ⟨Bs, 0, none⟩ = some v) (hR : ∀ W', Below n₀ w W' → Rd W' v l) :
    SeqStopsK Fence.wide n Try.prog 67 #[.pointer (some ⟨Bs, 0, none⟩)] encB (Below n₀) (fun ys => ys.map (·.2) = l.reverse) (fun pre => pre.map (·.2) <+: l.reverse) l.length w := fun lp J Jx W hW _ _ hY h0 =>
  back1_in n hn lp Bs n₀ l v h16 hBn J Jx hY W ((hW.cell (p := ⟨Bs, 0, none⟩) (by show Bs < _; omega)).trans hBs) (fun W' h => hR W' ((hW.mono hn₀).trans h)) h0
end Go.Proofs.Ytggjcjijoihilaa
