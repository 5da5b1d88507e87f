/- trie.mayHold of a node whose slots' routes may all end there: true. -/
import Derived.Test.YtggjcjijoihilaaTrieBuild
import Derived.LoopTactic
namespace Go.Proofs.Ytggjcjijoihilaa
open Go.RowKit Go.Sort Go.Shelf

def sc (x : Nat × Nat) : Array Value := #[.int .i64 (x.1 : Nat), .int .u16 (x.2 : Nat)]
def slotLoad (a : Addr) : Sem Value := loadVar 100 a
theorem loadVar_slot (a : Addr) : loadVar 100 a = slotLoad a := rfl
theorem infoSlot : (Try.prog.info? 100).map (·.size) = some 2 := by kernel_rfl
def nodeLoad (a : Addr) : Sem Value := loadVar 104 a
theorem loadVar_node (a : Addr) : loadVar 104 a = nodeLoad a := rfl
def nodeStore (a : Addr) (v : Value) : Sem Unit := storeVar 104 a v
theorem storeVar_node (a : Addr) (v : Value) : storeVar 104 a v = nodeStore a v := rfl
theorem infoNode : (Try.prog.info? 104).map (·.size) = some 48 := by kernel_rfl
theorem run_nodeLoad {w : World} {a : Addr} {n : Nd} (h : CellsAt w a (ndl n)) : (nodeLoad a).run Try.prog w = .ok (.agg (nc n)) w :=
  run_load_at Try.underlying104 rfl (by rw [ndl_length]; exact infoNode) h
theorem run_nodeStore_new (n : Nd) (W : World) (Z : Array Value) (hZ : Z.size = 48) : (nodeStore ⟨W.heap.size, 0, none⟩ (.agg (nc n))).run Try.prog (W.alloc (.cells Z 104)) = .ok () (W.alloc (.cells (nc n) 104)) := by
  have h := run_storeVar_row (P := Try.prog) (W.alloc (.cells Z 104)) W.heap.size 104 104 Z (nc n) (Go.heap_alloc_new W _) (by rw [nc_size]; exact infoNode) (by rw [hZ, nc_size]) (by
    rw [Array.all_eq_true_iff_forall_mem]; intro v hv; exact ndl_one n v (by simpa [nc] using hv))
  rw [World.setRow_alloc_new] at h
  exact h
theorem nc_at (n : Nd) {j : Nat} (h : j < 48) : (nc n)[j]? = some (ndC n j) := by unfold nc; rw [List.getElem?_toArray]; exact ndl_at n h
theorem run_slotLoad {w : World} {b : Nat} {n : Nd} {t : TypeId} (h : w.heap[b]? = some (.cells (nc n) t (0, 0))) {i : Nat} (hi : i < 16) : (slotLoad ⟨b, i * 2, none⟩).run Try.prog w = .ok (.agg (sc (n.sl i))) w :=
  run_load_at (cs := [.int .i64 ((n.sl i).1 : Nat), .int .u16 ((n.sl i).2 : Nat)]) Try.underlying100 rfl infoSlot (fun j u hu => by
    have hj : j < 2 := by have := (List.getElem?_eq_some_iff.1 hu).1; simpa using this
    have hadd : (⟨b, i * 2, none⟩ : Addr).add j = ⟨b, i * 2 + j, none⟩ := by unfold Addr.add; split <;> simp_all
    rw [hadd, cell_of h, nc_at n (by omega)]
    have h2 : j = 0 ∨ j = 1 := by omega
    rcases h2 with rfl | rfl
    · rw [Nat.add_zero, Nat.mul_comm, ndC_len n hi]; simpa using hu
    · rw [Nat.mul_comm, ndC_hop n hi]; simpa using hu)
attribute [local go_sem ↓] loadVar_slot loadVar_node storeVar_node

set_option maxHeartbeats 1000000 in
set_option maxRecDepth 100000 in
theorem holdC_any (x : Nat × Nat) (s : Nat) (hs : s ≤ 32) (hx : x.1 ≤ 4 * s + 1) (bs : Nat) (W : World) (h : W.cell? ⟨bs, 0, none⟩ = some (.int .i64 s)) :
    Calls Try.prog 84 #[.agg (sc x), .pointer (some ⟨bs, 0, none⟩)] W fun e w' => e = .returned (.bool false) ∧ Below W.heap.size W w' := by
  have hal : Below W.heap.size W (W.alloc (.cells (sc x) 100)) := (Below.refl _ _).alloc (Nat.le_refl _) _
  have hx0 : (W.alloc (.cells (sc x) 100)).heap[W.heap.size]? = some (.cells (sc x) 100 (0, 0)) := Go.heap_alloc_new W _
  have hc1 : (W.alloc (.cells (sc x) 100)).cell? ⟨W.heap.size, 0, none⟩ = some (.int .i64 (x.1 : Nat)) := by rw [cell_of hx0]; rfl
  have hc2 : (W.alloc (.cells (sc x) 100)).cell? ⟨bs, 0, none⟩ = some (.int .i64 s) := by rw [hal.cell (block_lt_of_cell h)]; exact h
  have h0 : ¬ ((x.1 : Nat) : Int) < 0 := by omega
  have h1 : ¬ 4 * (s : Int) + 1 < ((x.1 : Nat) : Int) := by omega
  have hsI : (s : Int) ≤ 32 := by omega
  have hs0 : (0 : Int) ≤ s := by omega
  have HAL := Lib.hid hal
  clear hal hx0 hx h
  go_enter Try.func84, Try.ntmps84
  go_wp2
  go_ret
  exact ⟨rfl, HAL.out⟩

set_option maxHeartbeats 1000000 in
set_option maxRecDepth 100000 in
theorem indexS_any (n : Nd) (b : Nat) (g : Nat) (cb : Array Value) (t : TypeId) (w : World) (hb : w.heap[b]? = some (.cells (nc n) t (0, 0))) (eg : ∀ args w, (callFunc g args).run Try.prog w = .ok (.enter g args) w)
    (hC : ∀ i, i < 16 → ∀ W, Below w.heap.size w W → Calls Try.prog g (#[.agg (sc (n.sl i))] ++ cb) W fun e w' => e = .returned (.bool false) ∧ Below W.heap.size W w') :
    Calls Try.prog 88 #[.slice (some ⟨b, 0, none⟩) 16 16, .func (.func g) #[] cb] w fun e w' => e = .returned (.int .i64 (-1)) ∧ Below w.heap.size w w' := by
  have HBX : Hid (∀ W, Below w.heap.size w W → W.heap[b]? = some (.cells (nc n) t (0, 0))) := fun W hW => (hW.block _ (Array.getElem?_eq_some_iff.1 hb).1).trans hb
  have HC := Lib.hid hC
  clear hb hC
  go_enter Try.func88, Try.ntmps88
  go_wp2
  go_loopw [5, 8] (fun _ t8 wr => ∃ i : Nat, i ≤ 16 ∧ t8 = .int .i64 i ∧ Hid (Below w.heap.size w wr)) (fun _ t8 _ => 16 - (intOf t8).toNat)
  case atStart => exact ⟨0, Nat.zero_le _, rfl, Below.refl _ _⟩
  case round =>
    obtain ⟨i, hi, rfl, HW⟩ := hrel
    by_cases hlt : i < 16
    · have hltI : (i : Int) < 16 := by omega
      have hi0 : (0 : Int) ≤ i := by omega
      have hld := run_slotLoad (HBX.out wr HW.out) hlt
      have hc := HC.out i hlt wr HW.out
      go_wp2_with (go_at_fn g; refine hc.mono ?_; rintro e w' ⟨rfl, hi'⟩)
      go_roundw
      case rel => exact ⟨i + 1, by omega, by go_num, HW.out.trans (hi'.mono HW.out.size)⟩
      case measure => simp [intOf]; omega
    · obtain rfl : i = 16 := by omega
      go_wp2
      go_ret
      exact ⟨rfl, HW.out⟩

set_option maxHeartbeats 1000000 in
set_option maxRecDepth 100000 in
theorem hold_any (n : Nd) (s : Nat) (hs : s ≤ 32) (hn : ∀ i, i < 16 → (n.sl i).1 ≤ 4 * s + 1) (w : World) :
    Calls Try.prog 76 #[.agg (nc n), .int .i64 s] w fun e w' => e = .returned (.bool true) ∧ Below w.heap.size w w' := by
  have hb0 : Below w.heap.size w ((w.alloc (.cells (nc n) 104)).alloc (.cells #[.int .i64 s] 3)) := ((Below.refl _ _).alloc (Nat.le_refl _) _).alloc (by simp) _
  have hx1 : ((w.alloc (.cells (nc n) 104)).alloc (.cells #[.int .i64 s] 3)).heap[w.heap.size]? = some (.cells (nc n) 104 (0, 0)) := by
    rw [Go.heap_alloc_old _ _ (by simp)]; exact Go.heap_alloc_new w _
  have hx2 : ((w.alloc (.cells (nc n) 104)).alloc (.cells #[.int .i64 s] 3)).heap[w.heap.size + 1]? = some (.cells #[.int .i64 s] 3 (0, 0)) := by
    have := Go.heap_alloc_new (w.alloc (.cells (nc n) 104)) (.cells #[.int .i64 s] 3); simpa using this
  have C := indexS_any n w.heap.size 84 #[.pointer (some ⟨w.heap.size + 1, 0, none⟩)] _ _ hx1 (fun _ _ => by first | rfl | kernel_rfl) (fun i hi W hW => holdC_any (n.sl i) s hs (hn i hi) (w.heap.size + 1) W (by
    have h2 : ((w.alloc (.cells (nc n) 104)).alloc (.cells #[.int .i64 s] 3)).cell? ⟨w.heap.size + 1, 0, none⟩ = some (.int .i64 s) := by rw [cell_of hx2]; rfl
    rw [hW.cell (block_lt_of_cell h2)]; exact h2))
  have HC := Lib.hid C
  have HB := Lib.hid hb0
  have C2 : Calls Try.prog 83 #[.slice (some ⟨w.heap.size, 0, none⟩) 16 16, .func (.func 84) #[] #[.pointer (some ⟨w.heap.size + 1, 0, none⟩)]] ((w.alloc (.cells (nc n) 104)).alloc (.cells #[.int .i64 s] 3)) fun e w' => e = .returned (.bool false) ∧ Below w.heap.size w w' := by
    clear C hx1 hx2 hb0 hn
    go_enter Try.func83, Try.ntmps83
    go_wp2_with fail
    refine HC.out.mono ?_
    rintro e w' ⟨rfl, h1⟩
    have HF := Lib.hid (HB.out.trans (h1.mono HB.out.size))
    clear h1
    go_wp2
    go_ret
    exact ⟨rfl, HF.out⟩
  have HC2 := Lib.hid C2
  clear C C2 hx1 hx2 hb0 hn
  go_enter Try.func76, Try.ntmps76
  go_wp2_with fail
  refine HC2.out.mono ?_
  rintro e w' ⟨rfl, h1⟩
  have HF := Lib.hid h1
  clear h1
  go_wp2
  go_ret
  exact ⟨rfl, HF.out⟩
end Go.Proofs.Ytggjcjijoihilaa
