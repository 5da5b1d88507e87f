/- sort.Search, table.place, table.Get: what they hand back. Plain laws on lists of routes that are in order. table.Get: what it hands back. slices.Clone of routes: a row of the call's own that reads the same. table.Under: the routes whose prefixes a prefix covers, in order. -/
import Derived.Test.YtggjcjijoihilaaTabBase
import Derived.Lib.SliceRun
import Derived.Great.BuildSlice
import Derived.Test.YtggjcjijoihilaaKeyMay
import Derived.Deep.WholeRow
namespace Go.Proofs.Ytggjcjijoihilaa
open Go.RowKit Go.Sort Go.Shelf
attribute [local go_sem ↓] loadVar_key loadVar_pre loadVar_route storeVar_pre binOp_preEql

set_option maxHeartbeats 1000000 in
set_option maxRecDepth 100000 in
theorem search_any (n at' g : Nat) (cb : Array Value) (w : World) (hn : n ≤ 65536) (ha : at' ≤ n) (eg : ∀ args w, (callFunc g args).run Try.prog w = .ok (.enter g args) w)
    (hC : ∀ (h : Nat) (W : World), h < n → Below w.heap.size w W → Calls Try.prog g (#[.int .i64 h] ++ cb) W fun e w' => e = .returned (.bool (decide (at' ≤ h))) ∧ Below W.heap.size W w') :
    Calls Try.prog 64 #[.int .i64 n, .func (.func g) #[] cb] w fun e w' => e = .returned (.int .i64 at') ∧ Below w.heap.size w w' := by
  have HC := Lib.hid hC
  have hnI : (n : Int) ≤ 65536 := by omega
  clear hC
  go_enter Try.func64, Try.ntmps64
  go_wp2
  go_loopw [5, 6, 7] (fun s t _ wr => ∃ i j : Nat, i ≤ at' ∧ at' ≤ j ∧ j ≤ n ∧ s = .int .i64 i ∧ t = .int .i64 j ∧ Hid (Below w.heap.size w wr)) (fun s t _ _ => (intOf t).toNat - (intOf s).toNat)
  case atStart => exact ⟨0, n, Nat.zero_le _, ha, Nat.le_refl _, rfl, rfl, Below.refl _ _⟩
  case round =>
    obtain ⟨i, j, hi, hj, hjn, rfl, rfl, HB⟩ := hrel
    by_cases hlt : i < j
    · have hltI : (i : Int) < j := by omega
      have hjI : (j : Int) ≤ 65536 := by omega
      have hiI : (i : Int) ≤ 65536 := by omega
      obtain ⟨h, hh⟩ : ∃ h, h = (i + j) / 2 := ⟨_, rfl⟩
      have h1 : i ≤ h := by omega
      have h2 : h < j := by omega
      have hw : ((i : Int) + j) / 2 = (h : Int) := by omega
      have hhI : (h : Int) ≤ 65536 := by omega
      have hc := HC.out h wr (by omega) HB.out
      have HH := Lib.hid hh
      clear hh
      by_cases hle : at' ≤ h
      · rw [decide_eq_true hle] at hc
        go_wp2_with (go_at_fn g; refine hc.mono ?_; rintro e w' ⟨rfl, hb'⟩)
        go_roundw
        case rel => exact ⟨i, h, hi, hle, by omega, rfl, rfl, HB.out.trans (hb'.mono HB.out.size)⟩
        case measure => simp [intOf]; omega
      · rw [decide_eq_false hle] at hc
        go_wp2_with (go_at_fn g; refine hc.mono ?_; rintro e w' ⟨rfl, hb'⟩)
        go_roundw
        case rel => exact ⟨h + 1, j, by omega, hj, hjn, by go_num, rfl, HB.out.trans (hb'.mono HB.out.size)⟩
        case measure => simp [intOf]; omega
    · obtain rfl : i = j := by omega
      obtain rfl : at' = i := by omega
      go_wp2
      go_ret
      exact ⟨rfl, HB.out⟩

/-- In a list of routes those that are ahead of a prefix stand ahead of all others. -/
structure PlaceAt (l : List Rt) (p : Pre) (at' : Nat) : Prop where
  le : at' ≤ l.length
  mono : ∀ i r, l[i]? = some r → lessB r.pre p = decide (i < at')

def thereB (l : List Rt) (p : Pre) (at' : Nat) : Bool := match l[at']? with
  | some r => preEq r.pre p
  | none => false

set_option maxHeartbeats 1000000 in
set_option maxRecDepth 100000 in
theorem placeC_any (l : List Rt) (p : Pre) (hp : Bytes16 p.key) (i : Nat) (r : Rt) (hr : l[i]? = some r) (hi63 : l.length ≤ 65536) (v : Value) (bt bp : Nat) (W : World) (hR : Rd W v l)
    (ht : W.heap[bt]? = some (.cells #[v] 22 (0, 0))) (hb : W.heap[bp]? = some (.cells (pc p) 26 (0, 0))) :
    Calls Try.prog 65 #[.int .i64 i, .pointer (some ⟨bt, 0, none⟩), .pointer (some ⟨bp, 0, none⟩)] W fun e w' => e = .returned (.bool (!lessB r.pre p)) ∧ Below W.heap.size W w' := by
  rcases hR with ⟨_, rfl⟩ | ⟨a, cap, rfl, _, _, hc⟩
  · cases hr
  · have hlt : i < l.length := (List.getElem?_eq_some_iff.1 hr).1
    obtain ⟨n, hn⟩ : ∃ n, n = l.length := ⟨_, rfl⟩
    have L1 := fun d os => run_preLoadA (w := grow (redrawn W d) os) ((hc.route hr).pre.later (below_regrown W d os))
    have L2 := fun d os => run_preLoad (rowAt_regrown (rowAt_of hb) d os)
    have c0 := fun d os => cell_regrown (show W.cell? ⟨bt, 0, none⟩ = some (.slice (some a) l.length cap) by rw [cell_of ht]; rfl) d os
    have C1 := fun d os => Calls.regrown_of (less_any r.pre p r.hk hp (grow (redrawn W d) os))
    rw [← hn] at c0 hlt hi63 ht
    have hltI : (i : Int) < n := by omega
    have hnI : (n : Int) ≤ 65536 := by omega
    cases hm : lessB r.pre p with
    | true =>
      rw [hm] at C1
      clear hm hn ht hb hr hc
      go_enter Try.func65, Try.ntmps65
      go_wp2
      refine wp_region_quiet_below (by kernel_rfl) (by kernel_rfl) ?_
      repeat (go_big_quiet_step (exact C1 _ _))
      refine wpQuiet_nil fun w1 hw1 => ?_
      have hb1 : Below W.heap.size W w1 := by
        obtain ⟨p, rfl⟩ := hw1
        exact below_regrown W p.d p.os
      clear hw1 L1 C1 L2 c0
      go_wp2
      go_ret
      exact ⟨rfl, hb1⟩
    | false =>
      rw [hm] at C1
      clear hm hn ht hb hr hc
      go_enter Try.func65, Try.ntmps65
      go_wp2
      refine wp_region_quiet_below (by kernel_rfl) (by kernel_rfl) ?_
      repeat (go_big_quiet_step (exact C1 _ _))
      refine wpQuiet_nil fun w1 hw1 => ?_
      have hb1 : Below W.heap.size W w1 := by
        obtain ⟨p, rfl⟩ := hw1
        exact below_regrown W p.d p.os
      clear hw1 L1 C1 L2 c0
      go_wp2
      go_ret
      exact ⟨rfl, hb1⟩

/-- Two boxes, one behind the other. -/
theorem boxes_two (w : World) (v : Value) (p : Pre) : ((w.alloc (.cells #[v] 22)).alloc (.cells (pc p) 26)).heap[w.heap.size]? = some (.cells #[v] 22 (0, 0)) ∧
    ((w.alloc (.cells #[v] 22)).alloc (.cells (pc p) 26)).heap[w.heap.size + 1]? = some (.cells (pc p) 26 (0, 0)) ∧
    Below w.heap.size w ((w.alloc (.cells #[v] 22)).alloc (.cells (pc p) 26)) ∧ ((w.alloc (.cells #[v] 22)).alloc (.cells (pc p) 26)).heap.size = w.heap.size + 2 := by
  refine ⟨?_, ?_, ((Below.refl _ _).alloc (Nat.le_refl _) _).alloc (by simp) _, by simp⟩
  · rw [Go.heap_alloc_old _ _ (by simp)]; exact Go.heap_alloc_new w _
  · have := Go.heap_alloc_new (w.alloc (.cells #[v] 22)) (.cells (pc p) 26)
    simpa using this

set_option maxHeartbeats 1000000 in
set_option maxRecDepth 100000 in
theorem place_any (l : List Rt) (p : Pre) (hp : Bytes16 p.key) (at' : Nat) (hm : PlaceAt l p at') (h63 : l.length ≤ 65536) (v : Value) (w : World) (hR : Rd w v l) :
    Calls Try.prog 36 #[v, .agg (pc p)] w fun e w' => e = .returned (.tuple #[.int .i64 at', .bool (thereB l p at')]) ∧ Below w.heap.size w w' := by
  obtain ⟨hbt, hbp, hb2, hz2⟩ := boxes_two w v p
  have S := search_any l.length at' 65 #[.pointer (some ⟨w.heap.size, 0, none⟩), .pointer (some ⟨w.heap.size + 1, 0, none⟩)] ((w.alloc (.cells #[v] 22)).alloc (.cells (pc p) 26)) h63 hm.le
    (enters_of Try.func65 (by kernel_rfl) rfl) (fun h W hh hW => by
      obtain ⟨r, hr⟩ : ∃ r, l[h]? = some r := ⟨l[h], List.getElem?_eq_getElem hh⟩
      have := placeC_any l p hp h r hr h63 v w.heap.size (w.heap.size + 1) W (hR.later (hb2.trans (hW.mono (by rw [hz2]; omega)))) (by rw [hW.block _ (by rw [hz2]; omega)]; exact hbt) (by rw [hW.block _ (by rw [hz2]; omega)]; exact hbp)
      rw [hm.mono h r hr] at this
      have e : (!decide (h < at')) = decide (at' ≤ h) := by
        by_cases hx : h < at'
        · simp [hx, Nat.not_le.2 hx]
        · simp [hx, Nat.not_lt.1 hx]
      rw [e] at this
      exact this)
  have HS := Lib.hid S
  clear S
  have T : ∀ w1, Below ((w.alloc (.cells #[v] 22)).alloc (.cells (pc p) 26)).heap.size ((w.alloc (.cells #[v] 22)).alloc (.cells (pc p) 26)) w1 →
      Rd w1 v l ∧ w1.heap[w.heap.size]? = some (.cells #[v] 22 (0, 0)) ∧ w1.heap[w.heap.size + 1]? = some (.cells (pc p) 26 (0, 0)) ∧ Below w.heap.size w w1 := fun w1 hW =>
    ⟨hR.later (hb2.trans (hW.mono (by rw [hz2]; omega))), by rw [hW.block _ (by rw [hz2]; omega)]; exact hbt, by rw [hW.block _ (by rw [hz2]; omega)]; exact hbp, hb2.trans (hW.mono (by rw [hz2]; omega))⟩
  have HT := Lib.hid T
  clear T
  obtain ⟨a, cap, hv, hmx⟩ := rd_len hR
  have HR := Lib.hid hR
  have HL := Lib.hid hm.le
  obtain ⟨n, hn⟩ : ∃ n, n = l.length := ⟨_, rfl⟩
  rw [← hn] at hv h63 HS HL
  have hnI : (n : Int) ≤ 65536 := by omega
  have haI : (at' : Int) ≤ n := by have := HL.out; omega
  have HN := Lib.hid hn
  subst hv
  clear hn hmx hbt hbp hb2 hz2 hR hm
  by_cases hlt : at' < n
  · have hltI : (at' : Int) < n := by omega
    obtain ⟨r, hr⟩ : ∃ r, l[at']? = some r := ⟨l[at']'(by rw [← HN.out]; exact hlt), List.getElem?_eq_getElem _⟩
    have hE : Hid (thereB l p at' = preEq r.pre p) := by show _ = _; simp [thereB, hr]
    have HRR := Lib.hid hr
    clear hr
    go_enter Try.func36, Try.ntmps36
    go_wp2_with fail
    refine HS.out.mono ?_
    rintro e w1 ⟨rfl, h1⟩
    obtain ⟨hR1, ht1, hp1, hb1⟩ := HT.out w1 h1
    go_wp2
    have L2 := fun d os => run_preLoad (rowAt_regrown (rowAt_of hp1) d os)
    have c0 := fun d os => cell_regrown (show w1.cell? ⟨w.heap.size, 0, none⟩ = some (.slice a n cap) by rw [cell_of ht1]; rfl) d os
    have E := fun W => run_preEql r.pre p W
    rcases hR1 with ⟨h, hnil⟩ | ⟨a', cap', h, _, _, hc⟩
    · exfalso
      have := HRR.out
      rw [hnil] at this
      cases this
    · obtain ⟨rfl, -, rfl⟩ : a = some a' ∧ n = l.length ∧ cap = cap' := by
        simp only [Value.slice.injEq] at h; exact h
      have L1 := fun d os => run_preLoadA (w := grow (redrawn w1 d) os) ((hc.route HRR.out).pre.later (below_regrown w1 d os))
      clear h hc ht1 hp1 h1
      refine wp_region_quiet_below (by kernel_rfl) (by kernel_rfl) ?_
      repeat (go_big_quiet_step (fail))
      refine wpQuiet_nil fun w2 hw2 => ?_
      have hb3 : Below w.heap.size w w2 := by
        obtain ⟨p, rfl⟩ := hw2
        exact hb1.trans ((below_regrown w1 p.d p.os).mono hb1.size)
      clear hw2 L1 L2 c0 E
      go_wp2
      go_ret2
      exact ⟨by rw [hE.out]; rfl, hb3⟩
  · have hltI : ¬ (at' : Int) < n := by omega
    have hltD : decide ((at' : Int) < n) = false := by simpa using hltI
    have hE : Hid (thereB l p at' = false) := by
      show _ = _
      unfold thereB; rw [List.getElem?_eq_none (by rw [← HN.out]; omega)]
    go_enter Try.func36, Try.ntmps36
    go_wp2_with fail
    refine HS.out.mono ?_
    rintro e w1 ⟨rfl, h1⟩
    obtain ⟨hR1, ht1, hp1, hb1⟩ := HT.out w1 h1
    go_wp2
    have L2 := fun d os => run_preLoad (rowAt_regrown (rowAt_of hp1) d os)
    have c0 := fun d os => cell_regrown (show w1.cell? ⟨w.heap.size, 0, none⟩ = some (.slice a n cap) by rw [cell_of ht1]; rfl) d os
    clear ht1 hp1 h1
    refine wp_region_quiet_below (by kernel_rfl) (by kernel_rfl) ?_
    repeat (go_big_quiet_step (fail))
    refine wpQuiet_nil fun w2 hw2 => ?_
    have hb3 : Below w.heap.size w w2 := by
      obtain ⟨p, rfl⟩ := hw2
      exact hb1.trans ((below_regrown w1 p.d p.os).mono hb1.size)
    clear hw2 L2 c0
    go_wp2
    go_ret2
    exact ⟨by rw [hE.out]; rfl, hb3⟩
end Go.Proofs.Ytggjcjijoihilaa
namespace Go.Proofs.Ytggjcjijoihilaa

/-- In order: each may be, and is ahead of all behind it. -/
structure Good (l : List Rt) : Prop where
  may : ∀ r ∈ l, mayB r.pre = true
  ord : l.Pairwise fun a b => lessB a.pre b.pre = true

theorem less_may {p q : Pre} (h : lessB p q = true) : mayB p = true ∧ mayB q = true := by
  unfold lessB at h
  simp only [Bool.and_eq_true] at h
  exact h.1
theorem less_trans {p q r : Pre} (h1 : lessB p q = true) (h2 : lessB q r = true) : lessB p r = true :=
  order_trans (less_may h1).1 (less_may h1).2 (less_may h2).2 h1 h2
theorem less_irrefl (p : Pre) : lessB p p = false := by
  unfold lessB; simp
theorem less_asymm {p q : Pre} (h : lessB p q = true) : lessB q p = false := by
  cases e : lessB q p with
  | false => rfl
  | true => have := less_irrefl p; rw [less_trans h e] at this; exact this

theorem Good.nil : Good [] := ⟨by simp, List.Pairwise.nil⟩
theorem Good.tail {r : Rt} {l : List Rt} (h : Good (r :: l)) : Good l := ⟨fun s hs => h.may s (List.mem_cons_of_mem _ hs), (List.pairwise_cons.1 h.ord).2⟩
theorem Good.cons {r : Rt} {l : List Rt} (hm : mayB r.pre = true) (ho : ∀ s ∈ l, lessB r.pre s.pre = true) (h : Good l) : Good (r :: l) :=
  ⟨fun s hs => by rcases List.mem_cons.1 hs with rfl | hs; · exact hm
                  · exact h.may s hs, List.pairwise_cons.2 ⟨ho, h.ord⟩⟩
theorem Good.sub {l l' : List Rt} (h : Good l) (hs : l'.Sublist l) : Good l' := ⟨fun s hm => h.may s (hs.subset hm), h.ord.sublist hs⟩

/-- Pairwise by neighbours. -/
theorem good_iff (l : List Rt) : Good l ↔ ∀ i r, l[i]? = some r → badAt l i = false := by
  constructor
  · intro h i r hr
    unfold badAt badB
    rw [hr]
    simp only [h.may r (List.mem_of_getElem? hr), if_true]
    cases i with
    | zero => simp
    | succ j =>
      have hlt : j + 1 < l.length := (List.getElem?_eq_some_iff.1 hr).1
      have hj : l[j]? = some l[j] := List.getElem?_eq_getElem (by omega)
      have := List.pairwise_iff_getElem.1 h.ord j (j + 1) (by omega) hlt (by omega)
      have hr2 : l[j + 1] = r := by rw [List.getElem?_eq_getElem hlt] at hr; simpa using hr
      rw [hr2] at this
      simp [prevOf, hj, this]
  · intro h
    have hm : ∀ (i : Nat) (r : Rt), l[i]? = some r → mayB r.pre = true := fun i r hr => by
      have := h i r hr
      unfold badAt badB at this
      rw [hr] at this
      cases e : mayB r.pre with
      | true => rfl
      | false => simp [e] at this
    have hn : ∀ (i : Nat) (r s : Rt), l[i]? = some r → l[i + 1]? = some s → lessB r.pre s.pre = true := fun i r s hr hs => by
      have := h (i + 1) s hs
      unfold badAt badB at this
      rw [hs] at this
      have hms := hm _ _ hs
      simpa [hms, prevOf, hr] using this
    refine ⟨fun r hr => by obtain ⟨i, hi⟩ := List.mem_iff_getElem?.1 hr; exact hm i r hi, ?_⟩
    rw [List.pairwise_iff_getElem]
    intro i j hi hj hij
    obtain ⟨d, rfl⟩ : ∃ d, j = i + 1 + d := ⟨j - i - 1, by omega⟩
    induction d with
    | zero => exact hn i _ _ (List.getElem?_eq_getElem hi) (List.getElem?_eq_getElem hj)
    | succ d ih => exact less_trans (ih (by omega) (by omega)) (hn (i + 1 + d) _ _ (List.getElem?_eq_getElem (by omega)) (List.getElem?_eq_getElem hj))

theorem okL_iff (l : List Rt) : okL l = true ↔ Good l := by
  rw [good_iff]
  unfold okL
  rw [List.all_eq_true]
  constructor
  · intro h i r hr
    have := h i (by simpa using (List.getElem?_eq_some_iff.1 hr).1)
    simpa using this
  · intro h i hi
    have hi : i < l.length := by simpa using hi
    simp [h i _ (List.getElem?_eq_getElem hi)]

theorem right_iff (l : List Rt) : rightB l = true ↔ l.length ≤ 256 ∧ Good l := by
  unfold rightB; rw [Bool.and_eq_true, decide_eq_true_eq, okL_iff]

/-- How many are ahead of a prefix. -/
def idxL (l : List Rt) (p : Pre) : Nat := (l.takeWhile fun r => lessB r.pre p).length

theorem idx_le (l : List Rt) (p : Pre) : idxL l p ≤ l.length := by
  unfold idxL
  exact (List.takeWhile_prefix _).length_le

theorem idx_mono {l : List Rt} (h : Good l) (p : Pre) : ∀ i r, l[i]? = some r → lessB r.pre p = decide (i < idxL l p) := by
  induction l with
  | nil => intro i r hr; simp at hr
  | cons s l ih =>
    intro i r hr
    unfold idxL
    rw [List.takeWhile_cons]
    cases hs : lessB s.pre p with
    | true =>
      rw [if_pos rfl, List.length_cons]
      cases i with
      | zero => simp at hr; subst hr; simp [hs]
      | succ i =>
        simp at hr
        rw [ih h.tail i r hr]
        unfold idxL
        congr 1
        apply propext; omega
    | false =>
      simp only [Bool.false_eq_true, if_false, List.length_nil, Nat.not_lt_zero, decide_false]
      cases i with
      | zero => simp at hr; subst hr; exact hs
      | succ i =>
        simp at hr
        have h1 := (List.pairwise_cons.1 h.ord).1 r (List.mem_of_getElem? hr)
        cases e : lessB r.pre p with
        | false => rfl
        | true => rw [less_trans h1 e] at hs; cases hs

theorem preEq_refl (p : Pre) : preEq p p = true := by unfold preEq keyEq; simp
/-- Prefixes as numbers are the same just if their cells are. -/
theorem rt_pre_ext {r s : Rt} (h : preEq r.pre s.pre = true) : r.pre = s.pre := by
  unfold preEq at h
  simp only [Bool.and_eq_true, beq_iff_eq, keyEq_iff] at h
  obtain ⟨⟨h1, h2⟩, h3⟩ := h
  have hk : r.pre.key = s.pre.key := by
    funext i
    by_cases hi : i < 16
    · exact h3 i hi
    · rw [r.hz i (by omega), s.hz i (by omega)]
  cases hr : r.pre; cases hs : s.pre
  simp only [hr, hs] at h1 h2 hk
  subst h1 h2 hk
  rfl
theorem rt_ext {r s : Rt} (h1 : r.pre = s.pre) (h2 : r.hop = s.hop) : r = s := by
  cases r; cases s; simp only at h1 h2; subst h1 h2; rfl
end Go.Proofs.Ytggjcjijoihilaa
namespace Go.Proofs.Ytggjcjijoihilaa
open Go.RowKit Go.Sort Go.Shelf
attribute [local go_sem ↓] loadVar_key loadVar_pre loadVar_route storeVar_pre binOp_preEql

theorem place_good {l : List Rt} (h : Good l) (p : Pre) : PlaceAt l p (idxL l p) := ⟨idx_le l p, idx_mono h p⟩

/-- What a prefix leads to, and the error's number. -/
def getL (l : List Rt) (p : Pre) : Nat × Int :=
  if rightB l = true then (if mayB p = true then (if thereB l p (idxL l p) = true then ((l[idxL l p]?.getD zrt).hop, 0) else (0, 6)) else (0, 1)) else (0, 1)

def GetPost (w : World) (x : Nat × Int) (e : Ending) (w' : World) : Prop := e = .returned (.tuple #[.int .u16 (x.1 : Nat), .int .i64 x.2]) ∧ Below w.heap.size w w'

set_option maxHeartbeats 1000000 in
set_option maxRecDepth 100000 in
theorem get_any (l : List Rt) (p : Pre) (hp : Bytes16 p.key) (v : Value) (w : World) (hR : Rd w v l) :
    Calls Try.prog 10 #[v, .agg (pc p)] w (GetPost w (getL l p)) := by
  have hb0 : Below w.heap.size w (w.alloc (.cells (pc p) 26)) := (Below.refl _ _).alloc (Nat.le_refl _) _
  have rp := rowAt_new w (pc p) 26
  have hz0 : (w.alloc (.cells (pc p) 26)).heap.size = w.heap.size + 1 := by simp
  have C1 := right_any l v (w.alloc (.cells (pc p) 26)) (hR.later hb0)
  have T : ∀ w1, Below (w.alloc (.cells (pc p) 26)).heap.size (w.alloc (.cells (pc p) 26)) w1 → (preLoad ⟨w.heap.size, 0, none⟩).run Try.prog w1 = .ok (.agg (pc p)) w1 ∧ Rd w1 v l ∧ Below w.heap.size w w1 := fun w1 h =>
    ⟨run_preLoad (rp.below h (by rw [hz0]; omega)), hR.later (hb0.trans (h.mono (by rw [hz0]; omega))), hb0.trans (h.mono (by rw [hz0]; omega))⟩
  have HT := Lib.hid T
  have HF : Hid (getL l p = getL l p) := rfl
  unfold getL at HF ⊢
  clear T rp hb0 hz0
  obtain ⟨a, cap, hv, hmx⟩ := rd_len hR
  have HV := Lib.hid hv
  clear hmx hR hv
  cases hr : rightB l with
  | false =>
    rw [hr] at C1
    have HC := Lib.hid C1
    clear C1 hr HF
    unfold GetPost
    go_enter Try.func10, Try.ntmps10
    go_wp2_with fail
    refine HC.out.mono ?_
    rintro e w1 ⟨rfl, h1⟩
    obtain ⟨lp, -, hb⟩ := HT.out w1 h1
    go_wp2
    go_ret2
    exact ⟨rfl, hb⟩
  | true =>
    rw [hr] at C1
    have HC := Lib.hid C1
    have C2 := fun w => may_any p hp w
    have HR := Lib.hid hr
    clear C1 hr
    cases hm : mayB p with
    | false =>
      simp only [hm] at C2
      have HD := Lib.hid C2
      clear C2 hm HF
      unfold GetPost
      go_enter Try.func10, Try.ntmps10
      go_wp2_with fail
      refine HC.out.mono ?_
      rintro e w1 ⟨rfl, h1⟩
      obtain ⟨lp, -, hb⟩ := HT.out w1 h1
      go_wp2_with fail
      refine (HD.out _).mono ?_
      rintro e w2 ⟨rfl, h2⟩
      have hb2 := hb.trans (h2.mono hb.size)
      go_wp2
      go_ret2
      exact ⟨rfl, hb2⟩
    | true =>
      simp only [hm] at C2
      have HD := Lib.hid C2
      clear C2 hm HF
      have hg := (right_iff l).1 HR.out
      have hle := hg.1
      have C3 := fun w hR => place_any l p hp (idxL l p) (place_good hg.2 p) (by omega) v w hR
      have hat := idx_le l p
      obtain ⟨x, hx⟩ : ∃ x, x = idxL l p := ⟨_, rfl⟩
      rw [← hx] at C3 hat ⊢
      obtain ⟨n, hn⟩ : ∃ n, n = l.length := ⟨_, rfl⟩
      rw [← hn] at hle hat HV
      have HN := Lib.hid hn
      have HX := Lib.hid hx
      clear hn hx hg
      cases ht : thereB l p x with
      | false =>
        rw [ht] at C3
        have HE := Lib.hid C3
        clear C3 ht
        unfold GetPost
        go_enter Try.func10, Try.ntmps10
        go_wp2_with fail
        refine HC.out.mono ?_
        rintro e w1 ⟨rfl, h1⟩
        obtain ⟨lp, -, hb⟩ := HT.out w1 h1
        go_wp2_with fail
        refine (HD.out _).mono ?_
        rintro e w2 ⟨rfl, h2⟩
        obtain ⟨lp, hr2, hb2⟩ := HT.out w2 (h1.trans (h2.mono h1.size))
        go_wp2_with fail
        refine (HE.out _ hr2).mono ?_
        rintro e w3 ⟨rfl, h3⟩
        have hb3 := hb2.trans (h3.mono hb2.size)
        go_wp2
        go_ret2
        exact ⟨rfl, hb3⟩
      | true =>
        rw [ht] at C3
        have HE := Lib.hid C3
        obtain ⟨r, hrr⟩ : ∃ r, l[x]? = some r := by
          unfold thereB at ht
          cases h : l[x]? with
          | none => rw [h] at ht; cases ht
          | some r => exact ⟨r, rfl⟩
        have hlt : x < n := by rw [HN.out]; exact (List.getElem?_eq_some_iff.1 hrr).1
        have hltI : (x : Int) < n := by omega
        have HRR := Lib.hid hrr
        have hout : ((l[x]?.getD zrt).hop, (0 : Int)) = (r.hop, 0) := by rw [hrr]; rfl
        rw [if_pos rfl, if_pos rfl, if_pos rfl, hout]
        clear C3 ht hrr hout hat
        obtain rfl := HV.out
        clear HV
        unfold GetPost
        go_enter Try.func10, Try.ntmps10
        go_wp2_with fail
        refine HC.out.mono ?_
        rintro e w1 ⟨rfl, h1⟩
        obtain ⟨lp, -, hb⟩ := HT.out w1 h1
        go_wp2_with fail
        refine (HD.out _).mono ?_
        rintro e w2 ⟨rfl, h2⟩
        obtain ⟨lp, hr2, hb2⟩ := HT.out w2 (h1.trans (h2.mono h1.size))
        go_wp2_with fail
        refine (HE.out _ hr2).mono ?_
        rintro e w3 ⟨rfl, h3⟩
        have hb3 := hb2.trans (h3.mono hb2.size)
        obtain ⟨a', rfl, hh⟩ : ∃ a', a = some a' ∧ w3.cell? ⟨(a'.add (x * 19)).block, (a'.add (x * 19)).off + 18, none⟩ = some (.int .u16 (r.hop : Nat)) := by
          rcases hr2.later h3 with ⟨h, hnil⟩ | ⟨a', cap', h, _, _, hc⟩
          · exfalso
            have := HRR.out
            rw [hnil] at this
            cases this
          · simp only [Value.slice.injEq] at h
            exact ⟨a', h.1, (hc.route HRR.out).hop⟩
        go_wp2
        go_ret2
        exact ⟨rfl, hb3⟩
end Go.Proofs.Ytggjcjijoihilaa
namespace Go.Proofs.Ytggjcjijoihilaa
open Go.RowKit Go.Sort Go.Shelf
attribute [local go_sem ↓] loadVar_key loadVar_pre loadVar_route storeVar_pre

theorem infoR : (Try.prog.info? 34).map (fun i => (i.zero, i.size, i.bytes)) = some (some (.agg (rc zrt)), 19, 40) := by kernel_rfl
theorem infoR' : ∃ i, Try.prog.info? 34 = some i ∧ i.zero = some (.agg (rc zrt)) ∧ i.size = 19 ∧ i.bytes = 40 := by
  obtain ⟨i, h0, h1, h2, h3⟩ := info_parts infoR
  exact ⟨i, h0, h1, h2, h3⟩

theorem Own.later {w w' : World} {base : Nat} {v : Value} {l : List Rt} (h : Own w base v l) (hb : Below w.heap.size w w') : Own w' base v l :=
  World.ownsRow.kept (row := none) h ⟨hb.os, hb.tape, hb.output, hb.size, fun k hk _ => hb.block k hk⟩ (by cases hv : v.ownBlock <;> simp)

/-- A slice of one route, behind a name, so that the walk meets it by a fact. -/
def rowBuild (parts : Array (Nat × Value)) : Sem Value := Instr.buildSlice 22 1 parts
theorem buildSlice_row (parts : Array (Nat × Value)) : Instr.buildSlice 22 1 parts = rowBuild parts := rfl
theorem run_rowBuild (r : Rt) (w : World) : (rowBuild #[(0, .agg (rc r))]).run Try.prog w = .ok (.slice (some ⟨w.heap.size, 0, none⟩) 1 1) (w.alloc (.cells (rc r) 34)) := by
  obtain ⟨i, h0, h1, h2, h3⟩ := infoR'
  exact run_buildSlice w 22 34 1 _ (rc r) i _ Try.underlying22 h0 h1 (by rw [h2]; decide) (by rw [h2]; decide) (by rw [h2]; kernel_rfl)

/-- What a call hands back that makes a list of routes. -/
def ListPost (w : World) (l : List Rt) (e : Ending) (w' : World) : Prop := ∃ v', e = .returned v' ∧ Own w' w.heap.size v' l ∧ Below w.heap.size w w'

theorem own_made0 (w : World) : Own (w.alloc (.cells #[] 34)) w.heap.size (.slice (some ⟨w.heap.size, 0, none⟩) 0 0) [] := by
  have := World.ownsRow_made (e := 34) (size := 19) w #[] 0 (Nat.le_refl _) (Nat.zero_le _) rfl
  exact this

set_option maxHeartbeats 1000000 in
set_option maxRecDepth 100000 in
theorem clone_any (l : List Rt) (h16 : l.length ≤ 65536) (v : Value) (w : World) (hR : Rd w v l) :
    Calls Try.prog 39 #[v] w (ListPost w l) := by
  rcases hR with ⟨rfl, rfl⟩ | ⟨a, cap, rfl, hlc, hcm, hc⟩
  · have E := fun w => Lib.run_eql_slice_nil (P := Try.prog) w 22 34 none 0 0 0 0 Try.underlying22
    unfold ListPost
    go_enter Try.func39, Try.ntmps39
    go_wp2
    go_ret
    exact ⟨_, rfl, own_nil _ _, Below.refl _ _⟩
  · obtain ⟨i0, hi0, hz0, hz1, hz2⟩ := infoR'
    have H0 := Lib.hid hi0
    have H1 := Lib.hid hz0
    have H2 := Lib.hid hz1
    have H3 := Lib.hid hz2
    have hown := own_made0 w
    have hc' : CellsAt (w.alloc (.cells #[] 34)) a (fl l) := hc.later ((Below.refl _ _).alloc (Nat.le_refl _) _)
    have HC := Lib.hid hc'
    obtain ⟨n, hn⟩ : ∃ n, n = l.length := ⟨_, rfl⟩
    rw [← hn] at h16 hlc ⊢
    have HN := Lib.hid hn
    have E := fun w => Lib.run_eql_slice_nil (P := Try.prog) w 22 34 (some a) n cap 0 0 Try.underlying22
    clear hi0 hz0 hz1 hz2 hc hc' hn
    unfold ListPost
    go_enter Try.func39, Try.ntmps39
    go_wp2_with (at_builtin; refine wpList_append_own _ rfl _ _ 22 rfl w.heap.size 34 i0 (.agg (rc zrt)) 19 40 Try.underlying22 H0.out H1.out H2.out H3.out (rc_size _) (by decide) _ 0 [] rfl hown a n cap (fl l) rfl (by rw [fl_length, HN.out]) HC.out (fl_ones l) (by simp only [maxLen]; omega) (by omega) (by simp) ?_)
    intro v' w' hown' hg _
    have hb := ((Below.refl w.heap.size w).alloc (Nat.le_refl _) (.cells #[] 34)).grown hg (by simp) (fun k hk => by simp [Value.ownBlock] at hk; omega)
    go_wp2
    go_ret
    exact ⟨_, rfl, by unfold Own; rw [← HN.out]; simpa using hown', hb⟩
end Go.Proofs.Ytggjcjijoihilaa
namespace Go.Proofs.Ytggjcjijoihilaa
open Go.RowKit Go.Sort Go.Shelf
attribute [local go_sem ↓] loadVar_key loadVar_pre loadVar_route storeVar_pre storeVar_route buildSlice_row

def underL (l : List Rt) (p : Pre) : List Rt := if rightB l = true then l.filter fun r => coversB p r.pre else []

/-- A whole route stored into a block laid for it. -/
theorem run_routeStore_new (r : Rt) (W : World) (Z : Array Value) (hZ : Z.size = 19) : (routeStore ⟨W.heap.size, 0, none⟩ (.agg (rc r))).run Try.prog (W.alloc (.cells Z 34)) = .ok () (W.alloc (.cells (rc r) 34)) := by
  have h := run_storeVar_row (P := Try.prog) (W.alloc (.cells Z 34)) W.heap.size 34 34 Z (rc r) (Go.heap_alloc_new W _) (by rw [rc_size]; exact infoRoute) (by rw [hZ, rc_size]) (by
    rw [Array.all_eq_true_iff_forall_mem]; intro v hv; exact rl_one r v (by simpa [rc] using hv))
  rw [World.setRow_alloc_new] at h
  exact h

/-- A new block that holds a route. -/
theorem newRoute (W : World) (r : Rt) : CellsAt (W.alloc (.cells (rc r) 34)) ⟨W.heap.size, 0, none⟩ (rl r) := fun j u hu => by
  have hadd : (⟨W.heap.size, 0, none⟩ : Addr).add j = ⟨W.heap.size, j, none⟩ := by unfold Addr.add; split <;> simp_all
  rw [hadd, World.cell?_alloc_at _ _ _ _ rfl]; simpa [rc] using hu

set_option maxHeartbeats 1000000 in
set_option maxRecDepth 100000 in
theorem under_any (l : List Rt) (p : Pre) (hp : Bytes16 p.key) (v : Value) (w : World) (hR : Rd w v l) :
    Calls Try.prog 13 #[v, .agg (pc p)] w (ListPost w (underL l p)) := by
  have hb0 : Below w.heap.size w (w.alloc (.cells (pc p) 26)) := (Below.refl _ _).alloc (Nat.le_refl _) _
  have rp := rowAt_new w (pc p) 26
  have hz0 : (w.alloc (.cells (pc p) 26)).heap.size = w.heap.size + 1 := by simp
  have C1 := right_any l v (w.alloc (.cells (pc p) 26)) (hR.later hb0)
  have T : ∀ w1, Below (w.alloc (.cells (pc p) 26)).heap.size (w.alloc (.cells (pc p) 26)) w1 → (preLoad ⟨w.heap.size, 0, none⟩).run Try.prog w1 = .ok (.agg (pc p)) w1 ∧ Rd w1 v l ∧ Below w.heap.size w w1 := fun w1 h =>
    ⟨run_preLoad (rp.below h (by rw [hz0]; omega)), hR.later (hb0.trans (h.mono (by rw [hz0]; omega))), hb0.trans (h.mono (by rw [hz0]; omega))⟩
  have HT := Lib.hid T
  clear T
  obtain ⟨a, cap, hv, hmx⟩ := rd_len hR
  have HR := Lib.hid hR
  cases hr : rightB l with
  | false =>
    rw [hr] at C1
    have HC := Lib.hid C1
    have HU : Hid (underL l p = []) := by show _ = _; unfold underL; rw [hr]; rfl
    clear C1 hr hv hmx hR
    unfold ListPost
    go_enter Try.func13, Try.ntmps13
    go_wp2_with fail
    refine HC.out.mono ?_
    rintro e w1 ⟨rfl, h1⟩
    obtain ⟨lp, -, hb⟩ := HT.out w1 h1
    go_wp2
    go_ret
    exact ⟨_, rfl, by rw [HU.out]; exact own_nil _ _, hb⟩
  | true =>
    rw [hr] at C1
    have HC := Lib.hid C1
    have hl := ((right_iff l).1 hr).1
    have HU : Hid (underL l p = l.filter fun r => coversB p r.pre) := by show _ = _; unfold underL; rw [hr]; rfl
    obtain ⟨n, hn⟩ : ∃ n, n = l.length := ⟨_, rfl⟩
    rw [← hn] at hv hl
    have hlI : (n : Int) ≤ 256 := by omega
    have HN := Lib.hid hn
    subst hv
    obtain ⟨i0, hi0, hz0, hz1, hz2⟩ := infoR'
    have H0 := Lib.hid hi0
    have H1 := Lib.hid hz0
    have H2 := Lib.hid hz1
    have H3 := Lib.hid hz2
    clear C1 hr hmx hR hn hi0 hz0 hz1 hz2 hb0 rp
    unfold ListPost
    go_enter Try.func13, Try.ntmps13
    go_wp2_with fail
    refine HC.out.mono ?_
    rintro e w1 ⟨rfl, h1⟩
    obtain ⟨lp, -, hb⟩ := HT.out w1 h1
    have HB := Lib.hid hb
    have HB1 := Lib.hid h1
    clear hb h1 lp
    go_wp2
    go_loopw [5, 7, 13] (fun s _ t wr => ∃ i : Nat, i ≤ n ∧ t = .int .i64 i ∧ Hid (Own wr w1.heap.size s ((l.take i).filter fun r => coversB p r.pre)) ∧ Hid (Below w1.heap.size w1 wr)) (fun _ _ t _ => n - (intOf t).toNat)
    case atStart => exact ⟨0, Nat.zero_le _, rfl, own_nil _ _, Below.refl _ _⟩
    case round =>
      obtain ⟨i, hi, rfl, HO, HW⟩ := hrel
      by_cases hlt : i < n
      · have hltI : (i : Int) < n := by omega
        obtain ⟨r, hrr⟩ : ∃ r, l[i]? = some r := ⟨l[i]'(by rw [← HN.out]; exact hlt), List.getElem?_eq_getElem _⟩
        have HRR := Lib.hid hrr
        obtain ⟨lp, hrd, -⟩ := HT.out wr (HB1.out.trans (HW.out.mono HB1.out.size))
        obtain ⟨a', rfl, ld⟩ : ∃ a', a = some a' ∧ (routeLoad (a'.add (i * 19))).run Try.prog wr = .ok (.agg (rc r)) wr := by
          rcases hrd with ⟨h, hnil⟩ | ⟨a', cap', h, _, _, hc⟩
          · exfalso; rw [hnil] at hrr; cases hrr
          · simp only [Value.slice.injEq] at h
            exact ⟨a', h.1, run_routeLoad (hc.route hrr)⟩
        have hst := run_routeStore_new r
        have hbw : Below wr.heap.size wr (wr.alloc (.cells (rc r) 34)) := (Below.refl _ _).alloc (Nat.le_refl _) _
        obtain ⟨lp, -, -⟩ := HT.out (wr.alloc (.cells (rc r) 34)) (HB1.out.trans ((HW.out.trans (hbw.mono HW.out.size)).mono HB1.out.size))
        have lr := run_preLoadA (newRoute wr r).pre
        have C2 := covers_any p r.pre hp r.hk (wr.alloc (.cells (rc r) 34))
        have T2 : ∀ w2, Below (wr.alloc (.cells (rc r) 34)).heap.size (wr.alloc (.cells (rc r) 34)) w2 → (routeLoad ⟨wr.heap.size, 0, none⟩).run Try.prog w2 = .ok (.agg (rc r)) w2 ∧ Own w2 w1.heap.size u5 ((l.take i).filter fun r => coversB p r.pre) ∧ Below w1.heap.size w1 w2 ∧ w1.heap.size ≤ w2.heap.size := fun w2 h2 => by
          have h3 : Below wr.heap.size wr w2 := hbw.trans (h2.mono (by simp))
          refine ⟨run_routeLoad ((newRoute wr r).below h2 (by simp)), HO.out.later h3, HW.out.trans (h3.mono HW.out.size), Nat.le_trans HW.out.size h3.size⟩
        have HT2 := Lib.hid T2
        have htake : l.take (i + 1) = l.take i ++ [r] := by
          rw [List.take_add_one, hrr]; rfl
        clear T2 hrr
        cases hcv : coversB p r.pre with
        | false =>
          rw [hcv] at C2
          have HC2 := Lib.hid C2
          have HE : Hid ((l.take (i + 1)).filter (fun r => coversB p r.pre) = (l.take i).filter fun r => coversB p r.pre) := by
            show _ = _
            rw [htake, List.filter_append]; simp [hcv]
          clear C2 hcv htake hbw
          go_wp2_with fail
          refine HC2.out.mono ?_
          rintro e w2 ⟨rfl, h2⟩
          obtain ⟨-, ho, hb, -⟩ := HT2.out w2 h2
          go_wp2
          go_roundw
          case rel => exact ⟨i + 1, by omega, by go_num, by rw [HE.out]; exact ho, hb⟩
          case measure => simp [intOf]; omega
        | true =>
          rw [hcv] at C2
          have HC2 := Lib.hid C2
          have HE : Hid ((l.take (i + 1)).filter (fun r => coversB p r.pre) = ((l.take i).filter fun r => coversB p r.pre) ++ [r]) := by
            show _ = _
            rw [htake, List.filter_append]; simp [hcv]
          have hf : ((l.take i).filter fun r => coversB p r.pre).length ≤ 256 := Nat.le_trans (List.length_filter_le _ _) (by rw [List.length_take]; omega)
          obtain ⟨q, hq⟩ : ∃ q, q = (l.take i).filter fun r => coversB p r.pre := ⟨_, rfl⟩
          rw [← hq] at hf HE HT2
          clear C2 hcv htake hbw hq
          go_wp2_with fail
          refine HC2.out.mono ?_
          rintro e w2 ⟨rfl, h2⟩
          obtain ⟨lr2, ho, hb, hz⟩ := HT2.out w2 h2
          have hbd := fun W => run_rowBuild r W
          have hal : Below w2.heap.size w2 (w2.alloc (.cells (rc r) 34)) := (Below.refl _ _).alloc (Nat.le_refl _) _
          have hown := ho.later hal
          have hnew := newRoute w2 r
          have hql : Hid (q.length ≤ 256) := hf
          clear hf
          go_wp2_with (at_builtin; refine wpList_append_own _ rfl _ _ 22 rfl w1.heap.size 34 i0 (.agg (rc zrt)) 19 40 Try.underlying22 H0.out H1.out H2.out H3.out (rc_size _) (by decide) _ q.length (fl q) rfl hown ⟨w2.heap.size, 0, none⟩ 1 1 (rl r) rfl (rl_length r) hnew (rl_one r) (by have := hql.out; simp only [maxLen]; omega) (by have := hql.out; omega) (by simp; omega) ?_)
          intro v' w3 hown' hg _
          have hb3 := (hb.trans (hal.mono hz)).grown hg (Nat.le_trans hz hal.size) (fun k hk => (hown.lt k hk).1)
          have hown3 : Own w3 w1.heap.size v' (q ++ [r]) := by unfold Own; rw [List.length_append, fl_append, fl_one]; exact hown'
          clear hown' hg hown
          go_wp2
          go_roundw
          case rel => exact ⟨i + 1, by omega, by go_num, by rw [HE.out]; exact hown3, hb3⟩
          case measure => simp [intOf]; omega
      · obtain rfl : i = n := by omega
        go_wp2
        go_ret
        have hO := HO.out
        rw [List.take_of_length_le (by rw [← HN.out]; exact Nat.le_refl _)] at hO
        exact ⟨_, rfl, by rw [HU.out]; exact ⟨hO.1, hO.2.imp id (fun ⟨g, c, cur, h1, h2, h3⟩ => ⟨g, c, cur, h1, Nat.le_trans HB.out.size h2, h3⟩)⟩, HB.out.trans (HW.out.mono HB.out.size)⟩
end Go.Proofs.Ytggjcjijoihilaa
