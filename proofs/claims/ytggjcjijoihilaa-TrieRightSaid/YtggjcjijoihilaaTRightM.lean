/- The document's own last, set and few of layer 4. -/
import Derived.Test.YtggjcjijoihilaaTRightP
import Derived.Test.YtggjcjijoihilaaTrieAwake
import Derived.Test.YtggjcjijoihilaaSlots
import Derived.Outline
namespace Go.Proofs.Ytggjcjijoihilaa
open Go.RowKit Go.Sort Go.Shelf
attribute [local go_sem ↓] loadVar_key loadVar_pre loadVar_route storeVar_key storeVar_pre storeVar_route

set_option maxHeartbeats 400000 in
theorem few_any (a : Option Addr) (n cap : Nat) (w : World) : Calls Try.prog 24 #[.slice a n cap] w fun e w' => e = .returned (.bool (decide ((n : Int) ≤ 40))) ∧ w = w' := by
  go_enter Try.func24, Try.ntmps24
  go_wp2
  go_ret
  exact ⟨rfl, rfl⟩
set_option maxHeartbeats 400000 in
theorem last_any (r : Rt) (h0 : 0 ≤ r.pre.len) (h1 : r.pre.len ≤ 128) (w : World) : Calls Try.prog 59 #[.agg (pc r.pre)] w fun e w' => e = .returned (.int .i64 (lastN r : Nat)) ∧ Below w.heap.size w w' := by
  have hb : Below w.heap.size w (w.alloc (.cells (pc r.pre) 26)) := (Below.refl _ _).alloc (Nat.le_refl _) _
  have hr := rowAt_new w (pc r.pre) 26
  have c1 := hr 1 _ (pc_len r.pre)
  rw [Nat.zero_add] at c1
  have HB := Lib.hid hb
  have HL : Hid (((r.pre.len - 1) / 4 : Int) = (lastN r : Nat) ∨ r.pre.len = 0) := by
    by_cases h : r.pre.len = 0
    · exact .inr h
    · refine .inl ?_
      unfold lastN
      omega
  have HZ : Hid (r.pre.len = 0 → lastN r = 0) := fun h => by unfold lastN; rw [h]; rfl
  obtain ⟨l, hl⟩ : ∃ l, r.pre.len = l := ⟨_, rfl⟩
  rw [hl] at c1 h0 h1 HL HZ
  clear hb hr hl
  by_cases e : l = 0
  · subst e
    rw [HZ.out rfl]
    go_enter Try.func59, Try.ntmps59
    go_wp2
    go_ret
    exact ⟨rfl, HB.out⟩
  · have hne : (l == 0) = false := by rw [beq_eq_false_iff_ne]; exact e
    have h2 : 1 ≤ l := by omega
    have HL2 : Hid (((l - 1) / 4 : Int) = (lastN r : Nat)) := HL.out.resolve_right e
    clear e
    go_enter Try.func59, Try.ntmps59
    go_wp2
    go_ret
    exact ⟨by rw [← HL2.out]; rfl, HB.out⟩

set_option maxHeartbeats 1000000 in
set_option maxRecDepth 100000 in
theorem set_any (v : List Nat) (hv : Low v) (h32 : v.length < 32) (b : Nat) (hb : b < 16) (w : World) : Calls Try.prog 58 #[.agg (kc (keyOf v)), .int .i64 (v.length : Int), .int .i64 (b : Int)] w fun e w' => e = .returned (.agg (kc (keyOf (v ++ [b])))) ∧ Below w.heap.size w w' := by
  obtain ⟨s, hs⟩ : ∃ s, v.length = s := ⟨_, rfl⟩
  rw [hs] at h32 ⊢
  have hb0 : (0 : Int) ≤ b := by omega
  have hb16 : (b : Int) < 16 := by omega
  have hs32 : (s : Int) < 32 := by omega
  obtain ⟨h, hh⟩ : ∃ h, s / 2 = h := ⟨_, rfl⟩
  have hhI : (s : Int) / 2 = (h : Int) := by omega
  have hh16 : (h : Int) < 16 := by omega
  have hh16n : h < 16 := by omega
  by_cases e : s % 2 = 0
  · have e1 : ((s : Int) % 2 == 0) = true := by rw [beq_iff_eq]; omega
    have kcell : (kc (keyOf v))[h]? = some (.int .u8 (keyOf v h : Nat)) := kc_at _ _ hh16n
    have hkk : kc (fun i => if i = h then 16 * b else keyOf v i) = kc (keyOf (v ++ [b])) := kc_ext (fun i _ => by rw [set_even v b (by rw [hs]; exact e), hs, hh])
    have hset : (kc (keyOf v)).setIfInBounds h (.int .u8 (16 * (b : Int))) = kc (keyOf (v ++ [b])) := by
      rw [← hkk, ← kc_set]; push_cast; rfl
    have hb2 : Below w.heap.size w ((w.alloc (.cells (kc (keyOf (v ++ [b]))) 24)).alloc (.cells (kc zkey) 24)) := ((Below.refl _ _).alloc (Nat.le_refl _) _).alloc (by simp) _
    have m0 : ((w.alloc (.cells (kc (keyOf (v ++ [b]))) 24)).alloc (.cells (kc zkey) 24)).heap[w.heap.size]? = some (.cells (kc (keyOf (v ++ [b]))) 24 (0, 0)) := by
      rw [heap_alloc_old _ _ (by simp), heap_alloc_new]
    have m1 : ((w.alloc (.cells (kc (keyOf (v ++ [b]))) 24)).alloc (.cells (kc zkey) 24)).heap[w.heap.size + 1]? = some (.cells (kc zkey) 24 (0, 0)) := heap_alloc2_new _ _ _
    have hW : (w.alloc (.cells ((kc (keyOf v)).setIfInBounds h (.int .u8 (16 * (b : Int)))) 24)).alloc (.cells (#[Value.int IntKind.u8 0, Value.int IntKind.u8 0, Value.int IntKind.u8 0, Value.int IntKind.u8 0, Value.int IntKind.u8 0, Value.int IntKind.u8 0, Value.int IntKind.u8 0, Value.int IntKind.u8 0, Value.int IntKind.u8 0, Value.int IntKind.u8 0, Value.int IntKind.u8 0, Value.int IntKind.u8 0, Value.int IntKind.u8 0, Value.int IntKind.u8 0, Value.int IntKind.u8 0, Value.int IntKind.u8 0] : Array Value) 24) = (w.alloc (.cells (kc (keyOf (v ++ [b]))) 24)).alloc (.cells (kc zkey) 24) := by rw [hset]; rfl
    rw [← hW] at hb2 m0 m1
    have L := run_keyLoad (b := w.heap.size) (off := 0) (k := keyOf (v ++ [b])) (w := (w.alloc (.cells ((kc (keyOf v)).setIfInBounds h (.int .u8 (16 * (b : Int)))) 24)).alloc (.cells (#[Value.int IntKind.u8 0, Value.int IntKind.u8 0, Value.int IntKind.u8 0, Value.int IntKind.u8 0, Value.int IntKind.u8 0, Value.int IntKind.u8 0, Value.int IntKind.u8 0, Value.int IntKind.u8 0, Value.int IntKind.u8 0, Value.int IntKind.u8 0, Value.int IntKind.u8 0, Value.int IntKind.u8 0, Value.int IntKind.u8 0, Value.int IntKind.u8 0, Value.int IntKind.u8 0, Value.int IntKind.u8 0] : Array Value) 24)) (fun j v hj => by rw [cell_of_row _ _ _ _ _ _ m0]; simpa using hj)
    have S := run_keyStore (k := keyOf (v ++ [b])) m1 (kc_size _)
    have m3 := setRow_heap _ _ (kc zkey) (kc (keyOf (v ++ [b]))) _ _ m1
    have hb3 := below_setRow hb2 (Nat.le_succ w.heap.size) (kc (keyOf (v ++ [b])))
    clear m0 m1 hb2 hset hkk hW
    rw [Nat.succ_eq_add_one] at hb3
    obtain ⟨W1, hW1⟩ : ∃ W1, (World.setRow ((w.alloc (.cells ((kc (keyOf v)).setIfInBounds h (.int .u8 (16 * (b : Int)))) 24)).alloc (.cells (#[Value.int IntKind.u8 0, Value.int IntKind.u8 0, Value.int IntKind.u8 0, Value.int IntKind.u8 0, Value.int IntKind.u8 0, Value.int IntKind.u8 0, Value.int IntKind.u8 0, Value.int IntKind.u8 0, Value.int IntKind.u8 0, Value.int IntKind.u8 0, Value.int IntKind.u8 0, Value.int IntKind.u8 0, Value.int IntKind.u8 0, Value.int IntKind.u8 0, Value.int IntKind.u8 0, Value.int IntKind.u8 0] : Array Value) 24)) (w.heap.size + 1) (kc (keyOf (v ++ [b])))) = W1 := ⟨_, rfl⟩
    rw [hW1] at S m3 hb3
    have HX := Lib.hid (And.intro m3 hb3)
    clear m3 hb3 hW1
    go_enter Try.func58, Try.ntmps58
    go_wp2
    refine bodyPost_ret (v := .agg (kc (keyOf (v ++ [b])))) (results_cell_row rfl _ _ (w.heap.size + 1) 24 (kc (keyOf (v ++ [b]))) (0, 0) _ rfl HX.out.1 Try.underlying24 rfl (by rw [kc_size]; exact infoKey)) rfl ?_
    exact ⟨rfl, HX.out.2⟩
  · have e1 : ((s : Int) % 2 == 0) = false := by rw [beq_eq_false_iff_ne]; omega
    have kb := keyOf_bytes hv h
    have kodd : keyOf v h + b < 256 := by
      have h1 := low_get hv (2 * h)
      have h2 : v.getD (2 * h + 1) 0 = 0 := by rw [List.getD_eq_getElem?_getD, List.getElem?_eq_none (by omega)]; rfl
      unfold keyOf
      omega
    have koddI : (keyOf v h : Int) + (b : Int) < 256 := by omega
    have kcell : (kc (keyOf v))[h]? = some (.int .u8 (keyOf v h : Nat)) := kc_at _ _ hh16n
    have hkk : kc (fun i => if i = h then keyOf v h + b else keyOf v i) = kc (keyOf (v ++ [b])) := kc_ext (fun i _ => by
      rw [set_odd v b (by rw [hs]; exact e), hs, hh]
      by_cases e9 : i = h
      · subst e9; rfl
      · rw [if_neg e9, if_neg e9])
    have hset : (kc (keyOf v)).setIfInBounds h (.int .u8 ((keyOf v h : Int) + (b : Int))) = kc (keyOf (v ++ [b])) := by
      rw [← hkk, ← kc_set]; push_cast; rfl
    have hb2 : Below w.heap.size w ((w.alloc (.cells (kc (keyOf (v ++ [b]))) 24)).alloc (.cells (kc zkey) 24)) := ((Below.refl _ _).alloc (Nat.le_refl _) _).alloc (by simp) _
    have m0 : ((w.alloc (.cells (kc (keyOf (v ++ [b]))) 24)).alloc (.cells (kc zkey) 24)).heap[w.heap.size]? = some (.cells (kc (keyOf (v ++ [b]))) 24 (0, 0)) := by
      rw [heap_alloc_old _ _ (by simp), heap_alloc_new]
    have m1 : ((w.alloc (.cells (kc (keyOf (v ++ [b]))) 24)).alloc (.cells (kc zkey) 24)).heap[w.heap.size + 1]? = some (.cells (kc zkey) 24 (0, 0)) := heap_alloc2_new _ _ _
    have hW : (w.alloc (.cells ((kc (keyOf v)).setIfInBounds h (.int .u8 ((keyOf v h : Int) + (b : Int)))) 24)).alloc (.cells (#[Value.int IntKind.u8 0, Value.int IntKind.u8 0, Value.int IntKind.u8 0, Value.int IntKind.u8 0, Value.int IntKind.u8 0, Value.int IntKind.u8 0, Value.int IntKind.u8 0, Value.int IntKind.u8 0, Value.int IntKind.u8 0, Value.int IntKind.u8 0, Value.int IntKind.u8 0, Value.int IntKind.u8 0, Value.int IntKind.u8 0, Value.int IntKind.u8 0, Value.int IntKind.u8 0, Value.int IntKind.u8 0] : Array Value) 24) = (w.alloc (.cells (kc (keyOf (v ++ [b]))) 24)).alloc (.cells (kc zkey) 24) := by rw [hset]; rfl
    rw [← hW] at hb2 m0 m1
    have L := run_keyLoad (b := w.heap.size) (off := 0) (k := keyOf (v ++ [b])) (w := (w.alloc (.cells ((kc (keyOf v)).setIfInBounds h (.int .u8 ((keyOf v h : Int) + (b : Int)))) 24)).alloc (.cells (#[Value.int IntKind.u8 0, Value.int IntKind.u8 0, Value.int IntKind.u8 0, Value.int IntKind.u8 0, Value.int IntKind.u8 0, Value.int IntKind.u8 0, Value.int IntKind.u8 0, Value.int IntKind.u8 0, Value.int IntKind.u8 0, Value.int IntKind.u8 0, Value.int IntKind.u8 0, Value.int IntKind.u8 0, Value.int IntKind.u8 0, Value.int IntKind.u8 0, Value.int IntKind.u8 0, Value.int IntKind.u8 0] : Array Value) 24)) (fun j v hj => by rw [cell_of_row _ _ _ _ _ _ m0]; simpa using hj)
    have S := run_keyStore (k := keyOf (v ++ [b])) m1 (kc_size _)
    have m3 := setRow_heap _ _ (kc zkey) (kc (keyOf (v ++ [b]))) _ _ m1
    have hb3 := below_setRow hb2 (Nat.le_succ w.heap.size) (kc (keyOf (v ++ [b])))
    clear m0 m1 hb2 hset hkk hW
    rw [Nat.succ_eq_add_one] at hb3
    obtain ⟨W1, hW1⟩ : ∃ W1, (World.setRow ((w.alloc (.cells ((kc (keyOf v)).setIfInBounds h (.int .u8 ((keyOf v h : Int) + (b : Int)))) 24)).alloc (.cells (#[Value.int IntKind.u8 0, Value.int IntKind.u8 0, Value.int IntKind.u8 0, Value.int IntKind.u8 0, Value.int IntKind.u8 0, Value.int IntKind.u8 0, Value.int IntKind.u8 0, Value.int IntKind.u8 0, Value.int IntKind.u8 0, Value.int IntKind.u8 0, Value.int IntKind.u8 0, Value.int IntKind.u8 0, Value.int IntKind.u8 0, Value.int IntKind.u8 0, Value.int IntKind.u8 0, Value.int IntKind.u8 0] : Array Value) 24)) (w.heap.size + 1) (kc (keyOf (v ++ [b])))) = W1 := ⟨_, rfl⟩
    rw [hW1] at S m3 hb3
    have HX := Lib.hid (And.intro m3 hb3)
    clear m3 hb3 hW1
    go_enter Try.func58, Try.ntmps58
    go_wp2
    refine bodyPost_ret (v := .agg (kc (keyOf (v ++ [b])))) (results_cell_row rfl _ _ (w.heap.size + 1) 24 (kc (keyOf (v ++ [b]))) (0, 0) _ rfl HX.out.1 Try.underlying24 rfl (by rw [kc_size]; exact infoKey)) rfl ?_
    exact ⟨rfl, HX.out.2⟩
end Go.Proofs.Ytggjcjijoihilaa
