/- The fixed answers with which each statement of layer 1 begins: all of them hold. -/
import Derived.Test.YtpjmhdolmemmlaaKeyLess
namespace Go.Proofs.Ytpjmhdolmemmlaa
open Go.RowKit Go.Sort
attribute [local go_sem ↓] loadVar_key loadVar_pre

def preStore (a : Addr) (v : Value) : Sem Unit := storeVar 25 a v
theorem storeVar_pre (a : Addr) (v : Value) : storeVar 25 a v = preStore a v := rfl
attribute [local go_sem ↓] storeVar_key storeVar_pre

theorem pc_one (p : Pre) : (pc p).all (·.oneCell') = true := by
  rw [Array.all_eq_true_iff_forall_mem]; intro v hv
  simp only [pc, List.mem_toArray, List.mem_cons] at hv
  rcases hv with rfl | rfl | hv
  · rfl
  · rfl
  · exact kl_one _ v hv

theorem run_preStore {w : World} {g : Nat} {cs : Array Value} {t : TypeId} {p : Pre} (hg : w.heap[g]? = some (.cells cs t (0, 0))) (hs : cs.size = 18) :
    (preStore ⟨g, 0, none⟩ (.agg (pc p))).run Try.prog w = .ok () (w.setRow g (pc p)) :=
  run_storeVar_row w g t 25 cs (pc p) hg (by rw [pc_size]; exact infoPre) (by rw [hs, pc_size]) (pc_one p)

/-- A key of a few first bytes. -/
def few (l : List Nat) : Nat → Nat := fun i => l.getD i 0
theorem few_bytes (l : List Nat) (h : ∀ x ∈ l, x < 256) : Bytes16 (few l) := fun i => by
  unfold few
  by_cases hi : i < l.length
  · rw [List.getD_eq_getElem?_getD, List.getElem?_eq_getElem hi]; exact h _ (List.getElem_mem hi)
  · rw [List.getD_eq_getElem?_getD, List.getElem?_eq_none (by omega)]; exact Nat.zero_lt_succ _

def preA : Pre := ⟨32, 8, few [10]⟩
def preB : Pre := ⟨32, 16, few [10, 1]⟩
def preZ : Pre := ⟨0, 0, zkey⟩

theorem calls_of_eq {f : FuncId} {args : Array Value} {w : World} {v v' : Value} (h : Calls Try.prog f args w fun e w' => e = .returned v ∧ Below w.heap.size w w') (e : v = v') :
    Calls Try.prog f args w fun e w' => e = .returned v' ∧ Below w.heap.size w w' := by rw [← e]; exact h

set_option maxHeartbeats 4000000 in
set_option maxRecDepth 100000 in
theorem awake_any (w : World) : Calls Try.prog 8 #[] w fun e w' => e = .returned (.bool true) ∧ Below w.heap.size w w' := by
  have hA : Bytes16 preA.key := few_bytes [10] (by decide)
  have hB : Bytes16 preB.key := few_bytes [10, 1] (by decide)
  have C1 : Hid (∀ w, Calls Try.prog 17 #[.agg (pc preA)] w fun e w' => e = .returned (.bool true) ∧ Below w.heap.size w w') := fun w => calls_of_eq (may_any preA hA w) (congrArg Value.bool (by decide +kernel))
  have C2 : Hid (∀ w, Calls Try.prog 21 #[.agg (pc preA), .agg (pc preB)] w fun e w' => e = .returned (.bool true) ∧ Below w.heap.size w w') := fun w => calls_of_eq (covers_any preA preB hA hB w) (congrArg Value.bool (by decide +kernel))
  have C3 : Hid (∀ w, Calls Try.prog 21 #[.agg (pc preB), .agg (pc preA)] w fun e w' => e = .returned (.bool false) ∧ Below w.heap.size w w') := fun w => calls_of_eq (covers_any preB preA hB hA w) (congrArg Value.bool (by decide +kernel))
  have C4 : Hid (∀ w, Calls Try.prog 23 #[.agg (pc preA), .agg (pc preB)] w fun e w' => e = .returned (.bool true) ∧ Below w.heap.size w w') := fun w => calls_of_eq (less_any preA preB hA hB w) (congrArg Value.bool (by decide +kernel))
  have C5 : Hid (∀ w, Calls Try.prog 19 #[.agg (pc preB), .agg (kc (few [10, 1, 2]))] w fun e w' => e = .returned (.bool true) ∧ Below w.heap.size w w') := fun w => calls_of_eq (fits_any preB (few [10, 1, 2]) hB (few_bytes _ (by decide)) w) (congrArg Value.bool (by decide +kernel))
  have C6 : Hid (∀ w, Calls Try.prog 13 #[.agg (kc preA.key), .agg (kc preB.key)] w fun e w' => e = .returned (.int .i64 15) ∧ Below w.heap.size w w') := fun w => calls_of_eq (com_any preA.key preB.key w hA hB) (congrArg (fun n : Nat => Value.int .i64 (n : Int)) (show com preA.key preB.key = 15 by decide +kernel))
  have C7 : Hid (∀ w, Calls Try.prog 15 #[.agg (kc preB.key), .int .i64 1] w fun e w' => e = .returned (.int .i64 10) ∧ Below w.heap.size w w') := fun w => calls_of_eq (step_any preB.key 1 w hB) (congrArg (Value.int .i64) (by decide +kernel))
  have C8 : Hid (∀ w, Calls Try.prog 9 #[.agg (kc preA.key), .int .i64 4] w fun e w' => e = .returned (.int .i64 1) ∧ Below w.heap.size w w') := fun w => calls_of_eq (bit_any preA.key 4 w hA) (congrArg (Value.int .i64) (by decide +kernel))
  have C9 : Hid (∀ w, Calls Try.prog 11 #[.agg (kc (few [255, 255])), .int .i64 9] w fun e w' => e = .returned (.agg (kc (cutB (few [255, 255]) 9))) ∧ Below w.heap.size w w') := fun w => cut_any (few [255, 255]) 9 w (few_bytes _ (by decide))
  have g0 : ((w.alloc (.cells (pc preZ) 25)).alloc (.cells (pc preZ) 25)).heap[w.heap.size]? = some (.cells (pc preZ) 25 (0, 0)) := heap_alloc2_old _ _ _
  have g1 : ((w.alloc (.cells (pc preZ) 25)).alloc (.cells (pc preZ) 25)).heap[w.heap.size + 1]? = some (.cells (pc preZ) 25 (0, 0)) := heap_alloc2_new _ _ _
  have hb : Below w.heap.size w ((w.alloc (.cells (pc preZ) 25)).alloc (.cells (pc preZ) 25)) := ((Below.refl _ _).alloc (Nat.le_refl _) _).alloc (by simp) _
  have S1 := run_preStore (p := preA) g0 (pc_size _)
  have g2 := setRow_heap _ _ (pc preZ) (pc preA) _ _ g0
  have g3 : (((w.alloc (.cells (pc preZ) 25)).alloc (.cells (pc preZ) 25)).setRow w.heap.size (pc preA)).heap[w.heap.size + 1]? = some (.cells (pc preZ) 25 (0, 0)) := by rw [setRow_other _ _ _ _ (by omega)]; exact g1
  have S2 := run_preStore (p := preB) g3 (pc_size _)
  have g4 := setRow_heap _ _ (pc preZ) (pc preB) _ _ g3
  have g5 : ((((w.alloc (.cells (pc preZ) 25)).alloc (.cells (pc preZ) 25)).setRow w.heap.size (pc preA)).setRow (w.heap.size + 1) (pc preB)).heap[w.heap.size]? = some (.cells (pc preA) 25 (0, 0)) := by rw [setRow_other _ _ _ _ (by omega)]; exact g2
  have hb2 := below_setRow (below_setRow hb (Nat.le_refl w.heap.size) (pc preA)) (Nat.le_succ w.heap.size) (pc preB)
  have hz : w.heap.size + 2 ≤ ((((w.alloc (.cells (pc preZ) 25)).alloc (.cells (pc preZ) 25)).setRow w.heap.size (pc preA)).setRow (w.heap.size + 1) (pc preB)).heap.size := by simp
  have rA : RowAt ((((w.alloc (.cells (pc preZ) 25)).alloc (.cells (pc preZ) 25)).setRow w.heap.size (pc preA)).setRow (w.heap.size + 1) (pc preB)) w.heap.size 0 (pc preA) := fun j v hj => by rw [cell_of_row _ _ _ _ _ _ g5]; simpa using hj
  have rB : RowAt ((((w.alloc (.cells (pc preZ) 25)).alloc (.cells (pc preZ) 25)).setRow w.heap.size (pc preA)).setRow (w.heap.size + 1) (pc preB)) (w.heap.size + 1) 0 (pc preB) := fun j v hj => by rw [cell_of_row _ _ _ _ _ _ g4]; simpa using hj
  have HZ := Lib.hid hz
  clear g0 g1 g2 g3 g4 g5 hb hz
  have lp := run_preLoad rA
  have zZ : pc preZ = #[Value.int IntKind.i64 0, Value.int IntKind.i64 0, Value.int IntKind.u8 0, Value.int IntKind.u8 0, Value.int IntKind.u8 0, Value.int IntKind.u8 0, Value.int IntKind.u8 0, Value.int IntKind.u8 0, Value.int IntKind.u8 0, Value.int IntKind.u8 0, Value.int IntKind.u8 0, Value.int IntKind.u8 0, Value.int IntKind.u8 0, Value.int IntKind.u8 0, Value.int IntKind.u8 0, Value.int IntKind.u8 0, Value.int IntKind.u8 0, Value.int IntKind.u8 0] := rfl
  have zA : pc preA = #[Value.int IntKind.i64 32, Value.int IntKind.i64 8, Value.int IntKind.u8 10, Value.int IntKind.u8 0, Value.int IntKind.u8 0, Value.int IntKind.u8 0, Value.int IntKind.u8 0, Value.int IntKind.u8 0, Value.int IntKind.u8 0, Value.int IntKind.u8 0, Value.int IntKind.u8 0, Value.int IntKind.u8 0, Value.int IntKind.u8 0, Value.int IntKind.u8 0, Value.int IntKind.u8 0, Value.int IntKind.u8 0, Value.int IntKind.u8 0, Value.int IntKind.u8 0] := rfl
  have zB : pc preB = #[Value.int IntKind.i64 32, Value.int IntKind.i64 16, Value.int IntKind.u8 10, Value.int IntKind.u8 1, Value.int IntKind.u8 0, Value.int IntKind.u8 0, Value.int IntKind.u8 0, Value.int IntKind.u8 0, Value.int IntKind.u8 0, Value.int IntKind.u8 0, Value.int IntKind.u8 0, Value.int IntKind.u8 0, Value.int IntKind.u8 0, Value.int IntKind.u8 0, Value.int IntKind.u8 0, Value.int IntKind.u8 0, Value.int IntKind.u8 0, Value.int IntKind.u8 0] := rfl
  rw [zZ, zA] at S1
  rw [zZ, zA, zB] at S2 hb2 rA rB HZ lp
  have HA := Lib.hid zA
  have HB := Lib.hid zB
  clear zZ zA zB
  go_enter Try.func8, Try.ntmps8
  go_wp2_with fail
  clear S1 S2 lp
  generalize (((w.alloc (.cells #[Value.int IntKind.i64 0, Value.int IntKind.i64 0, Value.int IntKind.u8 0, Value.int IntKind.u8 0, Value.int IntKind.u8 0, Value.int IntKind.u8 0, Value.int IntKind.u8 0, Value.int IntKind.u8 0, Value.int IntKind.u8 0, Value.int IntKind.u8 0, Value.int IntKind.u8 0, Value.int IntKind.u8 0, Value.int IntKind.u8 0, Value.int IntKind.u8 0, Value.int IntKind.u8 0, Value.int IntKind.u8 0, Value.int IntKind.u8 0, Value.int IntKind.u8 0] 25)).alloc (.cells #[Value.int IntKind.i64 0, Value.int IntKind.i64 0, Value.int IntKind.u8 0, Value.int IntKind.u8 0, Value.int IntKind.u8 0, Value.int IntKind.u8 0, Value.int IntKind.u8 0, Value.int IntKind.u8 0, Value.int IntKind.u8 0, Value.int IntKind.u8 0, Value.int IntKind.u8 0, Value.int IntKind.u8 0, Value.int IntKind.u8 0, Value.int IntKind.u8 0, Value.int IntKind.u8 0, Value.int IntKind.u8 0, Value.int IntKind.u8 0, Value.int IntKind.u8 0] 25)).setRow w.heap.size #[Value.int IntKind.i64 32, Value.int IntKind.i64 8, Value.int IntKind.u8 10, Value.int IntKind.u8 0, Value.int IntKind.u8 0, Value.int IntKind.u8 0, Value.int IntKind.u8 0, Value.int IntKind.u8 0, Value.int IntKind.u8 0, Value.int IntKind.u8 0, Value.int IntKind.u8 0, Value.int IntKind.u8 0, Value.int IntKind.u8 0, Value.int IntKind.u8 0, Value.int IntKind.u8 0, Value.int IntKind.u8 0, Value.int IntKind.u8 0, Value.int IntKind.u8 0]).setRow (w.heap.size + 1) #[Value.int IntKind.i64 32, Value.int IntKind.i64 16, Value.int IntKind.u8 10, Value.int IntKind.u8 1, Value.int IntKind.u8 0, Value.int IntKind.u8 0, Value.int IntKind.u8 0, Value.int IntKind.u8 0, Value.int IntKind.u8 0, Value.int IntKind.u8 0, Value.int IntKind.u8 0, Value.int IntKind.u8 0, Value.int IntKind.u8 0, Value.int IntKind.u8 0, Value.int IntKind.u8 0, Value.int IntKind.u8 0, Value.int IntKind.u8 0, Value.int IntKind.u8 0] = W at *
  rw [← HA.out] at rA
  rw [← HB.out] at rB
  rw [← HA.out]
  clear HA HB
  have T : ∀ w1, Below W.heap.size W w1 → TwoPre w1 w.heap.size preA preB :=
    fun w1 h => twoPre_of (rA.below h (by have := HZ.out; omega)) (rB.below h (by have := HZ.out; omega))
  have HT := Lib.hid T
  clear T
  refine (C1.out _).mono ?_
  rintro e w1 ⟨rfl, h1⟩
  obtain ⟨lp, lq, kp, kq, bp, bq, np, nq⟩ := HT.out w1 h1
  go_wp2_with fail
  refine (C2.out _).mono ?_
  clear lp lq kp kq bp bq np nq
  rintro e w2 ⟨rfl, g2⟩
  have h2 := h1.trans (g2.mono h1.size)
  clear g2 h1
  obtain ⟨lp, lq, kp, kq, bp, bq, np, nq⟩ := HT.out w2 h2
  go_wp2_with fail
  refine (C3.out _).mono ?_
  clear lp lq kp kq bp bq np nq
  rintro e w3 ⟨rfl, g3⟩
  have h3 := h2.trans (g3.mono h2.size)
  clear g3 h2
  obtain ⟨lp, lq, kp, kq, bp, bq, np, nq⟩ := HT.out w3 h3
  go_wp2_with fail
  refine (C4.out _).mono ?_
  clear lp lq kp kq bp bq np nq
  rintro e w4 ⟨rfl, g4⟩
  have h4 := h3.trans (g4.mono h3.size)
  clear g4 h3
  obtain ⟨lp, lq, kp, kq, bp, bq, np, nq⟩ := HT.out w4 h4
  have k5 : (#[Value.int IntKind.u8 10, Value.int IntKind.u8 1, Value.int IntKind.u8 2, Value.int IntKind.u8 0, Value.int IntKind.u8 0, Value.int IntKind.u8 0, Value.int IntKind.u8 0, Value.int IntKind.u8 0, Value.int IntKind.u8 0, Value.int IntKind.u8 0, Value.int IntKind.u8 0, Value.int IntKind.u8 0, Value.int IntKind.u8 0, Value.int IntKind.u8 0, Value.int IntKind.u8 0, Value.int IntKind.u8 0] : Array Value) = kc (few [10, 1, 2]) := rfl
  go_wp2_with fail
  refine (C5.out _).mono ?_
  clear lp lq kp kq bp bq np nq
  rintro e w5 ⟨rfl, g5⟩
  have h5 := h4.trans (g5.mono h4.size)
  clear g5 h4
  obtain ⟨lp, lq, kp, kq, bp, bq, np, nq⟩ := HT.out w5 h5
  clear k5
  go_wp2_with fail
  refine (C6.out _).mono ?_
  clear lp lq kp kq bp bq np nq
  rintro e w6 ⟨rfl, g6⟩
  have h6 := h5.trans (g6.mono h5.size)
  clear g6 h5
  obtain ⟨lp, lq, kp, kq, bp, bq, np, nq⟩ := HT.out w6 h6
  go_wp2_with fail
  refine (C7.out _).mono ?_
  clear lp lq kp kq bp bq np nq
  rintro e w7 ⟨rfl, g7⟩
  have h7 := h6.trans (g7.mono h6.size)
  clear g7 h6
  obtain ⟨lp, lq, kp, kq, bp, bq, np, nq⟩ := HT.out w7 h7
  go_wp2_with fail
  refine (C8.out _).mono ?_
  clear lp lq kp kq bp bq np nq
  rintro e w8 ⟨rfl, g8⟩
  have h8 := h7.trans (g8.mono h7.size)
  clear g8 h7
  obtain ⟨lp, lq, kp, kq, bp, bq, np, nq⟩ := HT.out w8 h8
  have k9 : (#[Value.int IntKind.u8 255, Value.int IntKind.u8 255, Value.int IntKind.u8 0, Value.int IntKind.u8 0, Value.int IntKind.u8 0, Value.int IntKind.u8 0, Value.int IntKind.u8 0, Value.int IntKind.u8 0, Value.int IntKind.u8 0, Value.int IntKind.u8 0, Value.int IntKind.u8 0, Value.int IntKind.u8 0, Value.int IntKind.u8 0, Value.int IntKind.u8 0, Value.int IntKind.u8 0, Value.int IntKind.u8 0] : Array Value) = kc (few [255, 255]) := rfl
  go_wp2_with fail
  refine (C9.out _).mono ?_
  clear lp lq kp kq bp bq np nq
  rintro e w9 ⟨rfl, g9⟩
  have h9 := h8.trans (g9.mono h8.size)
  clear g9 h8
  obtain ⟨lp, lq, kp, kq, bp, bq, np, nq⟩ := HT.out w9 h9
  clear k9
  have k10 : (#[Value.int IntKind.u8 255, Value.int IntKind.u8 128, Value.int IntKind.u8 0, Value.int IntKind.u8 0, Value.int IntKind.u8 0, Value.int IntKind.u8 0, Value.int IntKind.u8 0, Value.int IntKind.u8 0, Value.int IntKind.u8 0, Value.int IntKind.u8 0, Value.int IntKind.u8 0, Value.int IntKind.u8 0, Value.int IntKind.u8 0, Value.int IntKind.u8 0, Value.int IntKind.u8 0, Value.int IntKind.u8 0] : Array Value) = kc (few [255, 128]) := rfl
  have E := run_eqKey_top (cutB (few [255, 255]) 9) (few [255, 128]) w9
  rw [show keyEq (cutB (few [255, 255]) 9) (few [255, 128]) = true by decide +kernel] at E
  go_wp2
  go_ret
  exact ⟨rfl, hb2.trans (h9.mono hb2.size)⟩

end Go.Proofs.Ytpjmhdolmemmlaa
