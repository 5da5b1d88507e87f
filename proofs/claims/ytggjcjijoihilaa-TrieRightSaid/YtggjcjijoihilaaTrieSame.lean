/- bywayref04.Same of two tries that read alike: true. -/
import Derived.Test.YtggjcjijoihilaaTrieAwake
import Derived.BigQuiet
namespace Go.Proofs.Ytggjcjijoihilaa
open Go.RowKit Go.Sort Go.Shelf

theorem eqItems_self (d k : Nat) (t : TypeId) (xs : Array Value) (w : World) : ∀ is : List Nat, (∀ i ∈ is, ∃ v, (part t xs (i * k)).run Try.prog w = .ok v w ∧ (Op.equalIn d t v v).run Try.prog w = .ok true w) → (Op.eqItems d t k xs xs is).run Try.prog w = .ok true w
  | [], _ => by simp [Op.eqItems]
  | i :: is, h => by
    obtain ⟨v, h1, h2⟩ := h i (by simp)
    simp only [Op.eqItems, Sem.run_bind, h1, Result.andThen_ok, h2]
    exact eqItems_self d k t xs w is fun j hj => h j (by simp [hj])
theorem slot_self (d : Nat) (x : Nat × Nat) (w : World) : (Op.equalIn (d + 2) 100 (.agg (sc x)) (.agg (sc x))).run Try.prog w = .ok true w := by
  have hs : Try.prog.stoodInHeld 100 = false := by kernel_rfl
  have hf : Try.prog.underlying 100 = some (.struct (Try.prog.fieldsOf 100)) := by unfold Program.fieldsOf; rw [Try.underlying100]
  rw [run_equalIn_struct w (d + 1) 100 _ _ hf hs]
  unfold Program.fieldsOf
  rw [Try.underlying100]
  have h0 : (sc x)[0]? = some (.int .i64 (x.1 : Nat)) := rfl
  have h1 : (sc x)[1]? = some (.int .u16 (x.2 : Nat)) := rfl
  simp [Op.eqFields, part, isAgg, run_underlying Try.underlying3, run_underlying Try.underlying29, h0, h1, Sem.run_bind, run_equalIn_int w d 3 .i64 .i64 _ _ Try.underlying3, run_equalIn_int w d 29 .u16 .u16 _ _ Try.underlying29]
theorem nc_slots (n : Nd) {i : Nat} (hi : i < 16) : ((nc n).extract 0 32).extract (i * 2) (i * 2 + 2) = sc (n.sl i) := by
  apply Array.ext_getElem?
  intro j
  rw [Array.getElem?_extract]
  have hz : ((nc n).extract 0 32).size = 32 := by rw [Array.size_extract, nc_size]; rfl
  rw [hz]
  by_cases h : j < 2
  · rw [if_pos (by omega), Array.getElem?_extract, nc_size, if_pos (by omega), Nat.zero_add, nc_at n (by omega)]
    have h2 : j = 0 ∨ j = 1 := by omega
    rcases h2 with rfl | rfl
    · rw [Nat.add_zero, Nat.mul_comm, ndC_len n hi]; rfl
    · rw [Nat.mul_comm, ndC_hop n hi]; rfl
  · rw [if_neg (by omega), Array.getElem?_eq_none (by unfold sc; simp; omega)]
theorem nc_nexts (n : Nd) {i : Nat} (hi : i < 16) : ((nc n).extract 32 48)[i]? = some (.int .i64 (n.nx i : Nat)) := by
  rw [Array.getElem?_extract, nc_size, if_pos (by omega), nc_at n (by omega), ndC_next]
theorem infoSl : ∃ i, Try.prog.info? 100 = some i ∧ Try.prog.cellsOf 100 = 2 := by
  have h : (Try.prog.info? 100).isSome = true := by kernel_rfl
  obtain ⟨i, hi⟩ := Option.isSome_iff_exists.1 h
  exact ⟨i, hi, by kernel_rfl⟩
theorem infoIn : ∃ i, Try.prog.info? 3 = some i ∧ Try.prog.cellsOf 3 = 1 := by
  have h : (Try.prog.info? 3).isSome = true := by kernel_rfl
  obtain ⟨i, hi⟩ := Option.isSome_iff_exists.1 h
  exact ⟨i, hi, by kernel_rfl⟩
theorem slots_self (d : Nat) (n : Nd) (w : World) : (Op.equalIn (d + 3) 101 (.agg ((nc n).extract 0 32)) (.agg ((nc n).extract 0 32))).run Try.prog w = .ok true w := by
  obtain ⟨i, hi, hc⟩ := infoSl
  rw [run_equalIn_array w (d + 2) _ _ Try.underlying101 hi, hc]
  refine eqItems_self _ _ _ _ w _ fun j hj => ⟨.agg (sc (n.sl j)), ?_, slot_self d _ w⟩
  have hj16 : j < 16 := by simpa using hj
  have := nc_slots n hj16
  obtain ⟨y, hy⟩ : ∃ y, (nc n).extract 0 32 = y := ⟨_, rfl⟩
  rw [hy] at this ⊢
  simp [part, isAgg, run_underlying Try.underlying100, Sem.run_bind, this]
theorem nexts_self (d : Nat) (n : Nd) (w : World) : (Op.equalIn (d + 3) 102 (.agg ((nc n).extract 32 48)) (.agg ((nc n).extract 32 48))).run Try.prog w = .ok true w := by
  obtain ⟨i, hi, hc⟩ := infoIn
  rw [run_equalIn_array w (d + 2) _ _ Try.underlying102 hi, hc]
  refine eqItems_self _ _ _ _ w _ fun j hj => ⟨.int .i64 (n.nx j : Nat), ?_, ?_⟩
  · have hj16 : j < 16 := by simpa using hj
    have := nc_nexts n hj16
    simp [part, isAgg, run_underlying Try.underlying3, Sem.run_bind, this]
  · rw [run_equalIn_int w (d + 1) 3 .i64 .i64 _ _ Try.underlying3]; simp
theorem node_self (n : Nd) (w : World) : (Op.equalIn 10000 104 (.agg (nc n)) (.agg (nc n))).run Try.prog w = .ok true w := by
  have hs : Try.prog.stoodInHeld 104 = false := by kernel_rfl
  have hf : Try.prog.underlying 104 = some (.struct (Try.prog.fieldsOf 104)) := by unfold Program.fieldsOf; rw [Try.underlying104]
  rw [run_equalIn_struct w 9999 104 _ _ hf hs]
  have h1 := slots_self 9996 n w
  have h2 := nexts_self 9996 n w
  unfold Program.fieldsOf
  rw [Try.underlying104]
  simp [Op.eqFields, part, isAgg, run_underlying Try.underlying102, run_underlying Try.underlying101, Sem.run_bind, h1, h2]
def nodeNeq (x y : Value) : Sem Value := binOp .neq 104 x y
theorem binOp_nodeNeq (x y : Value) : binOp .neq 104 x y = nodeNeq x y := rfl
theorem run_nodeNeq (n : Nd) (w : World) : (nodeNeq (.agg (nc n)) (.agg (nc n))).run Try.prog w = .ok (.bool false) w := by
  unfold nodeNeq
  rw [run_neq_struct, node_self]; rfl
end Go.Proofs.Ytggjcjijoihilaa
namespace Go.Proofs.Ytggjcjijoihilaa
open Go.RowKit Go.Sort Go.Shelf
attribute [local go_sem ↓] loadVar_trie storeVar_trie loadVar_node binOp_nodeNeq

/-- A trie's value whose nodes read so, or that has none. -/
def RdZ (w : World) (v : Value) (ns : List Nd) : Prop := ∃ a cap, v = .slice a ns.length cap ∧ (0 < ns.length → ∃ a', a = some a' ∧ CellsAt w a' (fn ns))
theorem OwnN.rdz {w : World} {base : Nat} {v : Value} {ns : List Nd} (h : OwnN w base v ns) : RdZ w v ns := by
  by_cases hp : 0 < ns.length
  · obtain ⟨a, cap, e, hc⟩ := h.rd hp
    exact ⟨some a, cap, e, fun _ => ⟨a, rfl, hc⟩⟩
  · rcases h.2 with ⟨h1, h2⟩ | ⟨g, cap, cur, h1, -⟩
    · exact ⟨none, 0, by rw [h1, h2], fun h => absurd h hp⟩
    · exact ⟨_, cap, h1, fun h => absurd h hp⟩

set_option maxHeartbeats 1500000 in
set_option maxRecDepth 100000 in
theorem tsame_yes (ns : List Nd) (bits : Int) (v u : Value) (w : World) (hv : RdZ w v ns) (hu : RdZ w u ns) (h16 : ns.length ≤ 512) :
    Calls Try.prog 27 #[.agg (tc bits v), .agg (tc bits u)] w fun e w' => e = .returned (.bool true) ∧ Below w.heap.size w w' := by
  have hb1 : Below w.heap.size w (w.alloc (.cells (tc bits v) 52)) := (Below.refl _ _).alloc (Nat.le_refl _) _
  have hb2 : Below w.heap.size w ((w.alloc (.cells (tc bits v) 52)).alloc (.cells (tc bits u) 52)) := hb1.alloc (by simp) _
  obtain ⟨a, cap, ev, cv⟩ := hv
  obtain ⟨b, cbp, eu, cu⟩ := hu
  obtain ⟨m, hm⟩ : ∃ m, m = ns.length := ⟨_, rfl⟩
  rw [← hm] at ev eu h16 cv cu
  have hmI : (m : Int) ≤ 512 := by omega
  have HM := Lib.hid hm
  have hx2 : ((w.alloc (.cells (tc bits v) 52)).alloc (.cells (tc bits u) 52)).heap[w.heap.size + 1]? = some (.cells (tc bits u) 52 (0, 0)) := by
    have := Go.heap_alloc_new (w.alloc (.cells (tc bits v) 52)) (.cells (tc bits u) 52)
    simpa using this
  have hx1 : ((w.alloc (.cells (tc bits v) 52)).alloc (.cells (tc bits u) 52)).heap[w.heap.size]? = some (.cells (tc bits v) 52 (0, 0)) := by
    have h1 := Go.heap_alloc_new w (.cells (tc bits v) 52)
    have h2 : Below (w.alloc (.cells (tc bits v) 52)).heap.size (w.alloc (.cells (tc bits v) 52)) ((w.alloc (.cells (tc bits v) 52)).alloc (.cells (tc bits u) 52)) := (Below.refl _ _).alloc (Nat.le_refl _) _
    exact (h2.block _ (Array.getElem?_eq_some_iff.1 h1).1).trans h1
  subst ev
  subst eu
  have k1 : ((w.alloc (.cells (tc bits (.slice a m cap)) 52)).alloc (.cells (tc bits (.slice b m cbp)) 52)).cell? ⟨w.heap.size, 0, none⟩ = some (.int .i64 bits) := by rw [cell_of hx1]; rfl
  have k2 : ((w.alloc (.cells (tc bits (.slice a m cap)) 52)).alloc (.cells (tc bits (.slice b m cbp)) 52)).cell? ⟨w.heap.size, 1, none⟩ = some (.slice a m cap) := by rw [cell_of hx1]; rfl
  have k3 : ((w.alloc (.cells (tc bits (.slice a m cap)) 52)).alloc (.cells (tc bits (.slice b m cbp)) 52)).cell? ⟨w.heap.size + 1, 0, none⟩ = some (.int .i64 bits) := by rw [cell_of hx2]; rfl
  have k4 : ((w.alloc (.cells (tc bits (.slice a m cap)) 52)).alloc (.cells (tc bits (.slice b m cbp)) 52)).cell? ⟨w.heap.size + 1, 1, none⟩ = some (.slice b m cbp) := by rw [cell_of hx2]; rfl
  clear hx1 hx2
  have HCV : Hid (0 < m → ∃ a', a = some a' ∧ CellsAt w a' (fn ns)) := cv
  have HCU : Hid (0 < m → ∃ a', b = some a' ∧ CellsAt w a' (fn ns)) := cu
  have HB2 := Lib.hid hb2
  clear hm cv cu hb1 hb2
  have HT : Hid (∀ W, Below ((w.alloc (.cells (tc bits (.slice a m cap)) 52)).alloc (.cells (tc bits (.slice b m cbp)) 52)).heap.size ((w.alloc (.cells (tc bits (.slice a m cap)) 52)).alloc (.cells (tc bits (.slice b m cbp)) 52)) W → W.cell? ⟨w.heap.size, 1, none⟩ = some (.slice a m cap) ∧ W.cell? ⟨w.heap.size + 1, 1, none⟩ = some (.slice b m cbp) ∧ Below w.heap.size w W) := fun W h =>
    ⟨by rw [h.cell (block_lt_of_cell k2)]; exact k2, by rw [h.cell (block_lt_of_cell k4)]; exact k4, HB2.out.trans (h.mono HB2.out.size)⟩
  go_enter Try.func27, Try.ntmps27
  go_wp2
  obtain ⟨W0, hW0⟩ : ∃ W0, (w.alloc (.cells (tc bits (.slice a m cap)) 52)).alloc (.cells (tc bits (.slice b m cbp)) 52) = W0 := ⟨_, rfl⟩
  rw [hW0] at HT ⊢
  clear k1 k2 k3 k4 hW0
  go_loopw [5] (fun i wr => ∃ n : Nat, n ≤ m ∧ i = .int .i64 n ∧ Hid (Below W0.heap.size W0 wr)) (fun i _ => m - (intOf i).toNat)
  case atStart => exact ⟨0, Nat.zero_le _, rfl, Below.refl _ _⟩
  case round =>
    obtain ⟨n, hn, rfl, HW⟩ := hrel
    obtain ⟨q1, q2, q3⟩ := HT.out wr HW.out
    by_cases hlt : n < m
    · have hltI : (n : Int) < m := by omega
      have hn0 : (0 : Int) ≤ n := by omega
      obtain ⟨r, hr⟩ : ∃ r, ns[n]? = some r := ⟨ns[n]'(by rw [← HM.out]; exact hlt), List.getElem?_eq_getElem _⟩
      obtain ⟨a', rfl, ca⟩ := HCV.out (by omega)
      obtain ⟨b', rfl, cb⟩ := HCU.out (by omega)
      have la : ∀ k, (nodeLoad (a'.add (n * 48))).run Try.prog (wr.drewN k) = .ok (.agg (nc r)) (wr.drewN k) := fun k => run_nodeLoad fun j u hu => ((ca.later q3).node hr) j u hu
      have lb : ∀ k, (nodeLoad (b'.add (n * 48))).run Try.prog (wr.drewN k) = .ok (.agg (nc r)) (wr.drewN k) := fun k => run_nodeLoad fun j u hu => ((cb.later q3).node hr) j u hu
      have hq := run_nodeNeq r
      clear hr ca cb q3
      go_wp2
      go_quiet (fail)
      clear la lb hq
      go_wp2
      go_roundw
      case rel => exact ⟨n + 1, by omega, by go_num, ⟨HW.out.os, HW.out.tape, HW.out.output, HW.out.size, HW.out.block⟩⟩
      case measure => simp [intOf]; omega
    · obtain rfl : n = m := by omega
      have FIN := Lib.hid q3
      clear q3
      go_wp2
      go_ret
      exact ⟨rfl, FIN.out⟩
end Go.Proofs.Ytggjcjijoihilaa
