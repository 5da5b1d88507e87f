/- sort.Search, table.place, table.Get: what they hand back. -/
import Derived.Test.YtcpdpcfejpbdpaaTabRt
namespace Go.Proofs.Ytcpdpcfejpbdpaa
open Go.RowKit Go.Sort Go.Shelf
attribute [local go_sem ↓] loadVar_key loadVar_pre loadVar_route storeVar_pre binOp_preEql

set_option maxHeartbeats 1000000 in
set_option maxRecDepth 100000 in
theorem search_any (n at' g : Nat) (cb : Array Value) (w : World) (hn : n ≤ 65536) (ha : at' ≤ n) (eg : ∀ args w, (callFunc g args).run Try.prog w = .ok (.enter g args) w)
    (hC : ∀ (h : Nat) (W : World), h < n → Below w.heap.size w W → Calls Try.prog g (#[.int .i64 h] ++ cb) W fun e w' => e = .returned (.bool (decide (at' ≤ h))) ∧ Below W.heap.size W w') :
    Calls Try.prog 48 #[.int .i64 n, .func (.func g) #[] cb] w fun e w' => e = .returned (.int .i64 at') ∧ Below w.heap.size w w' := by
  have HC := Lib.hid hC
  have hnI : (n : Int) ≤ 65536 := by omega
  clear hC
  go_enter Try.func48, Try.ntmps48
  go_wp2
  go_loopw [5, 6, 7] (fun s t _ wr => ∃ i j : Nat, i ≤ at' ∧ at' ≤ j ∧ j ≤ n ∧ s = .int .i64 i ∧ t = .int .i64 j ∧ Hid (Below w.heap.size w wr)) (fun s t _ _ => (intOf t).toNat - (intOf s).toNat)
  case atStart => exact ⟨0, n, Nat.zero_le _, ha, Nat.le_refl _, rfl, rfl, Below.refl _ _⟩
  case round =>
    obtain ⟨i, j, hi, hj, hjn, rfl, rfl, HB⟩ := hrel
    by_cases hlt : i < j
    · have hltI : (i : Int) < j := by omega
      have hjI : (j : Int) ≤ 65536 := by omega
      have hiI : (i : Int) ≤ 65536 := by omega
      obtain ⟨h, hh⟩ : ∃ h, h = (i + j) / 2 := ⟨_, rfl⟩
      have h1 : i ≤ h := by omega
      have h2 : h < j := by omega
      have hw : ((i : Int) + j) / 2 = (h : Int) := by omega
      have hhI : (h : Int) ≤ 65536 := by omega
      have hc := HC.out h wr (by omega) HB.out
      have HH := Lib.hid hh
      clear hh
      by_cases hle : at' ≤ h
      · rw [decide_eq_true hle] at hc
        go_wp2_with (go_at_fn g; refine hc.mono ?_; rintro e w' ⟨rfl, hb'⟩)
        go_roundw
        case rel => exact ⟨i, h, hi, hle, by omega, rfl, rfl, HB.out.trans (hb'.mono HB.out.size)⟩
        case measure => simp [intOf]; omega
      · rw [decide_eq_false hle] at hc
        go_wp2_with (go_at_fn g; refine hc.mono ?_; rintro e w' ⟨rfl, hb'⟩)
        go_roundw
        case rel => exact ⟨h + 1, j, by omega, hj, hjn, by go_num, rfl, HB.out.trans (hb'.mono HB.out.size)⟩
        case measure => simp [intOf]; omega
    · obtain rfl : i = j := by omega
      obtain rfl : at' = i := by omega
      go_wp2
      go_ret
      exact ⟨rfl, HB.out⟩

/-- In a list of routes those that are ahead of a prefix stand ahead of all others. -/
structure PlaceAt (l : List Rt) (p : Pre) (at' : Nat) : Prop where
  le : at' ≤ l.length
  mono : ∀ i r, l[i]? = some r → lessB r.pre p = decide (i < at')

def thereB (l : List Rt) (p : Pre) (at' : Nat) : Bool := match l[at']? with
  | some r => preEq r.pre p
  | none => false

set_option maxHeartbeats 1000000 in
set_option maxRecDepth 100000 in
theorem placeC_any (l : List Rt) (p : Pre) (hp : Bytes16 p.key) (i : Nat) (r : Rt) (hr : l[i]? = some r) (hi63 : l.length ≤ 65536) (v : Value) (bt bp : Nat) (W : World) (hR : Rd W v l)
    (ht : W.heap[bt]? = some (.cells #[v] 22 (0, 0))) (hb : W.heap[bp]? = some (.cells (pc p) 26 (0, 0))) :
    Calls Try.prog 49 #[.int .i64 i, .pointer (some ⟨bt, 0, none⟩), .pointer (some ⟨bp, 0, none⟩)] W fun e w' => e = .returned (.bool (!lessB r.pre p)) ∧ Below W.heap.size W w' := by
  rcases hR with ⟨_, rfl⟩ | ⟨a, cap, rfl, _, _, hc⟩
  · cases hr
  · have hlt : i < l.length := (List.getElem?_eq_some_iff.1 hr).1
    obtain ⟨n, hn⟩ : ∃ n, n = l.length := ⟨_, rfl⟩
    have L1 := fun d os => run_preLoadA (w := grow (redrawn W d) os) ((hc.route hr).pre.later (below_regrown W d os))
    have L2 := fun d os => run_preLoad (rowAt_regrown (rowAt_of hb) d os)
    have c0 := fun d os => cell_regrown (show W.cell? ⟨bt, 0, none⟩ = some (.slice (some a) l.length cap) by rw [cell_of ht]; rfl) d os
    have C1 := fun d os => Calls.regrown_of (less_any r.pre p r.hk hp (grow (redrawn W d) os))
    rw [← hn] at c0 hlt hi63 ht
    have hltI : (i : Int) < n := by omega
    have hnI : (n : Int) ≤ 65536 := by omega
    cases hm : lessB r.pre p with
    | true =>
      rw [hm] at C1
      clear hm hn ht hb hr hc
      go_enter Try.func49, Try.ntmps49
      go_wp2
      refine wp_region_quiet_below (by kernel_rfl) (by kernel_rfl) ?_
      repeat (go_big_quiet_step (exact C1 _ _))
      refine wpQuiet_nil fun w1 hw1 => ?_
      have hb1 : Below W.heap.size W w1 := by
        obtain ⟨p, rfl⟩ := hw1
        exact below_regrown W p.d p.os
      clear hw1 L1 C1 L2 c0
      go_wp2
      go_ret
      exact ⟨rfl, hb1⟩
    | false =>
      rw [hm] at C1
      clear hm hn ht hb hr hc
      go_enter Try.func49, Try.ntmps49
      go_wp2
      refine wp_region_quiet_below (by kernel_rfl) (by kernel_rfl) ?_
      repeat (go_big_quiet_step (exact C1 _ _))
      refine wpQuiet_nil fun w1 hw1 => ?_
      have hb1 : Below W.heap.size W w1 := by
        obtain ⟨p, rfl⟩ := hw1
        exact below_regrown W p.d p.os
      clear hw1 L1 C1 L2 c0
      go_wp2
      go_ret
      exact ⟨rfl, hb1⟩

/-- Two boxes, one behind the other. -/
theorem boxes_two (w : World) (v : Value) (p : Pre) : ((w.alloc (.cells #[v] 22)).alloc (.cells (pc p) 26)).heap[w.heap.size]? = some (.cells #[v] 22 (0, 0)) ∧
    ((w.alloc (.cells #[v] 22)).alloc (.cells (pc p) 26)).heap[w.heap.size + 1]? = some (.cells (pc p) 26 (0, 0)) ∧
    Below w.heap.size w ((w.alloc (.cells #[v] 22)).alloc (.cells (pc p) 26)) ∧ ((w.alloc (.cells #[v] 22)).alloc (.cells (pc p) 26)).heap.size = w.heap.size + 2 := by
  refine ⟨?_, ?_, ((Below.refl _ _).alloc (Nat.le_refl _) _).alloc (by simp) _, by simp⟩
  · rw [Go.heap_alloc_old _ _ (by simp)]; exact Go.heap_alloc_new w _
  · have := Go.heap_alloc_new (w.alloc (.cells #[v] 22)) (.cells (pc p) 26)
    simpa using this

set_option maxHeartbeats 1000000 in
set_option maxRecDepth 100000 in
theorem place_any (l : List Rt) (p : Pre) (hp : Bytes16 p.key) (at' : Nat) (hm : PlaceAt l p at') (h63 : l.length ≤ 65536) (v : Value) (w : World) (hR : Rd w v l) :
    Calls Try.prog 27 #[v, .agg (pc p)] w fun e w' => e = .returned (.tuple #[.int .i64 at', .bool (thereB l p at')]) ∧ Below w.heap.size w w' := by
  obtain ⟨hbt, hbp, hb2, hz2⟩ := boxes_two w v p
  have S := search_any l.length at' 49 #[.pointer (some ⟨w.heap.size, 0, none⟩), .pointer (some ⟨w.heap.size + 1, 0, none⟩)] ((w.alloc (.cells #[v] 22)).alloc (.cells (pc p) 26)) h63 hm.le
    (enters_of Try.func49 (by kernel_rfl) rfl) (fun h W hh hW => by
      obtain ⟨r, hr⟩ : ∃ r, l[h]? = some r := ⟨l[h], List.getElem?_eq_getElem hh⟩
      have := placeC_any l p hp h r hr h63 v w.heap.size (w.heap.size + 1) W (hR.later (hb2.trans (hW.mono (by rw [hz2]; omega)))) (by rw [hW.block _ (by rw [hz2]; omega)]; exact hbt) (by rw [hW.block _ (by rw [hz2]; omega)]; exact hbp)
      rw [hm.mono h r hr] at this
      have e : (!decide (h < at')) = decide (at' ≤ h) := by
        by_cases hx : h < at'
        · simp [hx, Nat.not_le.2 hx]
        · simp [hx, Nat.not_lt.1 hx]
      rw [e] at this
      exact this)
  have HS := Lib.hid S
  clear S
  have T : ∀ w1, Below ((w.alloc (.cells #[v] 22)).alloc (.cells (pc p) 26)).heap.size ((w.alloc (.cells #[v] 22)).alloc (.cells (pc p) 26)) w1 →
      Rd w1 v l ∧ w1.heap[w.heap.size]? = some (.cells #[v] 22 (0, 0)) ∧ w1.heap[w.heap.size + 1]? = some (.cells (pc p) 26 (0, 0)) ∧ Below w.heap.size w w1 := fun w1 hW =>
    ⟨hR.later (hb2.trans (hW.mono (by rw [hz2]; omega))), by rw [hW.block _ (by rw [hz2]; omega)]; exact hbt, by rw [hW.block _ (by rw [hz2]; omega)]; exact hbp, hb2.trans (hW.mono (by rw [hz2]; omega))⟩
  have HT := Lib.hid T
  clear T
  obtain ⟨a, cap, hv, hmx⟩ := rd_len hR
  have HR := Lib.hid hR
  have HL := Lib.hid hm.le
  obtain ⟨n, hn⟩ : ∃ n, n = l.length := ⟨_, rfl⟩
  rw [← hn] at hv h63 HS HL
  have hnI : (n : Int) ≤ 65536 := by omega
  have haI : (at' : Int) ≤ n := by have := HL.out; omega
  have HN := Lib.hid hn
  subst hv
  clear hn hmx hbt hbp hb2 hz2 hR hm
  by_cases hlt : at' < n
  · have hltI : (at' : Int) < n := by omega
    obtain ⟨r, hr⟩ : ∃ r, l[at']? = some r := ⟨l[at']'(by rw [← HN.out]; exact hlt), List.getElem?_eq_getElem _⟩
    have hE : Hid (thereB l p at' = preEq r.pre p) := by show _ = _; simp [thereB, hr]
    have HRR := Lib.hid hr
    clear hr
    go_enter Try.func27, Try.ntmps27
    go_wp2_with fail
    refine HS.out.mono ?_
    rintro e w1 ⟨rfl, h1⟩
    obtain ⟨hR1, ht1, hp1, hb1⟩ := HT.out w1 h1
    go_wp2
    have L2 := fun d os => run_preLoad (rowAt_regrown (rowAt_of hp1) d os)
    have c0 := fun d os => cell_regrown (show w1.cell? ⟨w.heap.size, 0, none⟩ = some (.slice a n cap) by rw [cell_of ht1]; rfl) d os
    have E := fun W => run_preEql r.pre p W
    rcases hR1 with ⟨h, hnil⟩ | ⟨a', cap', h, _, _, hc⟩
    · exfalso
      have := HRR.out
      rw [hnil] at this
      cases this
    · obtain ⟨rfl, -, rfl⟩ : a = some a' ∧ n = l.length ∧ cap = cap' := by
        simp only [Value.slice.injEq] at h; exact h
      have L1 := fun d os => run_preLoadA (w := grow (redrawn w1 d) os) ((hc.route HRR.out).pre.later (below_regrown w1 d os))
      clear h hc ht1 hp1 h1
      refine wp_region_quiet_below (by kernel_rfl) (by kernel_rfl) ?_
      repeat (go_big_quiet_step (fail))
      refine wpQuiet_nil fun w2 hw2 => ?_
      have hb3 : Below w.heap.size w w2 := by
        obtain ⟨p, rfl⟩ := hw2
        exact hb1.trans ((below_regrown w1 p.d p.os).mono hb1.size)
      clear hw2 L1 L2 c0 E
      go_wp2
      go_ret2
      exact ⟨by rw [hE.out]; rfl, hb3⟩
  · have hltI : ¬ (at' : Int) < n := by omega
    have hltD : decide ((at' : Int) < n) = false := by simpa using hltI
    have hE : Hid (thereB l p at' = false) := by
      show _ = _
      unfold thereB; rw [List.getElem?_eq_none (by rw [← HN.out]; omega)]
    go_enter Try.func27, Try.ntmps27
    go_wp2_with fail
    refine HS.out.mono ?_
    rintro e w1 ⟨rfl, h1⟩
    obtain ⟨hR1, ht1, hp1, hb1⟩ := HT.out w1 h1
    go_wp2
    have L2 := fun d os => run_preLoad (rowAt_regrown (rowAt_of hp1) d os)
    have c0 := fun d os => cell_regrown (show w1.cell? ⟨w.heap.size, 0, none⟩ = some (.slice a n cap) by rw [cell_of ht1]; rfl) d os
    clear ht1 hp1 h1
    refine wp_region_quiet_below (by kernel_rfl) (by kernel_rfl) ?_
    repeat (go_big_quiet_step (fail))
    refine wpQuiet_nil fun w2 hw2 => ?_
    have hb3 : Below w.heap.size w w2 := by
      obtain ⟨p, rfl⟩ := hw2
      exact hb1.trans ((below_regrown w1 p.d p.os).mono hb1.size)
    clear hw2 L2 c0
    go_wp2
    go_ret2
    exact ⟨by rw [hE.out]; rfl, hb3⟩
end Go.Proofs.Ytcpdpcfejpbdpaa
