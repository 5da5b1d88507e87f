/- key.Cut: it hands back the key with its first bits alone; of what was there nothing has turned. -/
import Derived.Test.YtcpdpcfejpbdpaaKeyA
import Derived.Deep.WholeRow
import Derived.StillTailTactics
import Derived.Laws.CopyOwn
namespace Go.Proofs.Ytcpdpcfejpbdpaa
open Go.RowKit Go.Sort
attribute [local go_sem ↓] loadVar_key loadVar_pre

def keyStore (a : Addr) (v : Value) : Sem Unit := storeVar 24 a v
theorem storeVar_key (a : Addr) (v : Value) : storeVar 24 a v = keyStore a v := rfl
attribute [local go_sem ↓] storeVar_key

theorem kl_one (k : Nat → Nat) : ∀ v ∈ kl k, v.oneCell' = true := fun v hv => by
  simp only [kl, List.mem_map] at hv
  obtain ⟨i, _, rfl⟩ := hv
  rfl
theorem kc_one (k : Nat → Nat) : (kc k).all (·.oneCell') = true := by
  rw [Array.all_eq_true_iff_forall_mem]; intro v hv; exact kl_one k v (by simpa [kc] using hv)

theorem run_keyStore {w : World} {g : Nat} {cs : Array Value} {t : TypeId} {k : Nat → Nat} (hg : w.heap[g]? = some (.cells cs t (0, 0))) (hs : cs.size = 16) :
    (keyStore ⟨g, 0, none⟩ (.agg (kc k))).run Try.prog w = .ok () (w.setRow g (kc k)) :=
  run_storeVar_row w g t 24 cs (kc k) hg (by rw [kc_size]; exact infoKey) (by rw [hs, kc_size]) (kc_one k)

def zkey : Nat → Nat := fun _ => 0

theorem splice_kl (k f : Nat → Nat) (m : Nat) (hm : m ≤ 16) : splice (kl f) 0 ((kl k).take m) = kl (fun i => if i < m then k i else f i) := by
  apply List.ext_getElem?
  intro i
  have hl : ((kl k).take m).length = m := by simp [kl]; omega
  simp only [splice, List.take_zero, List.nil_append, Nat.zero_add, hl, List.getElem?_append, List.getElem?_take, List.getElem?_drop]
  by_cases h : i < 16
  · rw [kl_at (fun i => if i < m then k i else f i) i h]
    by_cases h2 : i < m
    · rw [if_pos h2, if_pos h2, kl_at _ i h, if_pos h2]
    · rw [if_neg h2, show m + (i - m) = i by omega, kl_at _ i h, if_neg h2]
  · have hn : ∀ g, (kl g)[i]? = none := fun g => List.getElem?_eq_none (by simp [kl]; omega)
    rw [if_neg (by omega), show m + (i - m) = i by omega, hn, hn]

theorem andNot_mask : ∀ (a : Fin 256) (r : Fin 8), a.val &&& (255 - 255 / 2 ^ r.val) = if r.val = 0 then 0 else a.val / 2 ^ (8 - r.val) * 2 ^ (8 - r.val) := by decide +kernel

theorem cut_byte (k : Nat → Nat) (n m r : Nat) (hk : Bytes16 k) (hm : m = n / 8) (hr : r = n % 8) : bits BinOp.andNot IntKind.u8 ((k m : Nat) : Int) (255 / 2 ^ r) = ((cutB k n m : Nat) : Int) := by
  have e : (255 : Int) / 2 ^ r = ((255 / 2 ^ r : Nat) : Int) := by simp
  have h1 : 255 / 2 ^ r < 256 := Nat.lt_of_le_of_lt (Nat.div_le_self _ _) (by decide)
  rw [e, u8_andNot_nat _ _ (hk m) h1, andNot_mask ⟨k m, hk m⟩ ⟨r, by omega⟩]
  clear e h1
  congr 1
  unfold cutB
  rw [if_neg (show ¬ 8 * m + 8 ≤ n by omega)]
  by_cases h0 : r = 0
  · rw [if_pos (show n ≤ 8 * m by omega)]; simp [h0]
  · rw [if_neg (show ¬ n ≤ 8 * m by omega), show 8 * m + 8 - n = 8 - r by omega]; simp [h0]

theorem cut_cells (k : Nat → Nat) (n m : Nat) (hm : m = n / 8) (i : Nat) : (if i = m then cutB k n m else if i < m then k i else 0) = cutB k n i := by
  by_cases h : i = m
  · rw [if_pos h, h]
  · rw [if_neg h]
    unfold cutB
    by_cases h2 : i < m
    · rw [if_pos h2, if_pos (by omega)]
    · rw [if_neg h2, if_neg (by omega), if_pos (by omega)]

theorem kc_set (f : Nat → Nat) (m c : Nat) : (kc f).setIfInBounds m (.int .u8 (c : Nat)) = kc (fun i => if i = m then c else f i) := by
  apply Array.ext_getElem?
  intro i
  rw [Array.getElem?_setIfInBounds, kc_size]
  by_cases h : i < 16
  · rw [kc_at _ i h, kc_at _ i h]
    by_cases e : m = i
    · subst e; simp [h]
    · rw [if_neg e, if_neg (Ne.symm e)]
  · have hn : ∀ g, (kc g)[i]? = none := fun g => Array.getElem?_eq_none (by rw [kc_size]; omega)
    rw [hn, hn]
    split
    · rw [if_neg (by omega)]
    · rfl

set_option maxHeartbeats 400000 in
set_option maxRecDepth 100000 in
theorem cut_in (k : Nat → Nat) (n : Nat) (h1 : 1 ≤ n) (h2 : n < 128) (w : World) (hk : Bytes16 k) :
    Calls Try.prog 57 #[.agg (kc k), .int .i64 n] w fun e w' => e = .returned (.agg (kc (cutB k n))) ∧ Below w.heap.size w w' := by
  have h1' : (1 : Int) ≤ n := by omega
  have h2' : (n : Int) < 128 := by omega
  go_enter Try.func57, Try.ntmps57
  go_wp2
  rw [show (#[Value.int IntKind.u8 0, Value.int IntKind.u8 0, Value.int IntKind.u8 0, Value.int IntKind.u8 0,
          Value.int IntKind.u8 0, Value.int IntKind.u8 0, Value.int IntKind.u8 0, Value.int IntKind.u8 0,
          Value.int IntKind.u8 0, Value.int IntKind.u8 0, Value.int IntKind.u8 0, Value.int IntKind.u8 0,
          Value.int IntKind.u8 0, Value.int IntKind.u8 0, Value.int IntKind.u8 0, Value.int IntKind.u8 0] : Array Value) = kc zkey from rfl]
  have hb : Below w.heap.size w (((w.alloc (.cells (kc k) 24)).alloc (.cells (kc zkey) 24)).alloc (.cells (kc zkey) 24)) :=
    (((Below.refl _ _).alloc (Nat.le_refl _) _).alloc (by simp) _).alloc (by simp; omega) _
  have g0 : (((w.alloc (.cells (kc k) 24)).alloc (.cells (kc zkey) 24)).alloc (.cells (kc zkey) 24)).heap[w.heap.size]? = some (.cells (kc k) 24 (0, 0)) := by
    rw [heap_alloc_old _ _ (by simp; omega), heap_alloc_old _ _ (by simp), heap_alloc_new]
  have g1 : (((w.alloc (.cells (kc k) 24)).alloc (.cells (kc zkey) 24)).alloc (.cells (kc zkey) 24)).heap[w.heap.size + 1]? = some (.cells (kc zkey) 24 (0, 0)) := by
    rw [heap_alloc_old _ _ (by simp), heap_alloc2_new]
  have g2 : (((w.alloc (.cells (kc k) 24)).alloc (.cells (kc zkey) 24)).alloc (.cells (kc zkey) 24)).heap[w.heap.size + 1 + 1]? = some (.cells (kc zkey) 24 (0, 0)) := by
    have := heap_alloc2_new (w.alloc (.cells (kc k) 24)) (.cells (kc zkey) 24) (.cells (kc zkey) 24)
    simpa using this
  generalize ((w.alloc (.cells (kc k) 24)).alloc (.cells (kc zkey) 24)).alloc (.cells (kc zkey) 24) = W at *

  obtain ⟨m, hm⟩ : ∃ m, m = n / 8 := ⟨_, rfl⟩
  have q1 : IntKind.i64.wrap ((n : Int) / 8) = (m : Int) := by rw [IntKind.wrap_i64]; omega
  have q3 : (m : Int) ≤ 16 := by omega
  have q4 : m ≤ 16 := by omega
  have HM : Hid (m = n / 8) := hm
  clear hm
  go_still_tail 4, (by kernel_rfl)
  refine wpList_copy_splice rfl (.tmp 12) (.tmp 15) 78 78 rfl 5 Try.underlying78 (by kernel_rfl) _ _ _ _ _ _ rfl rfl (w.heap.size + 1 + 1) 0 (kl zkey) 24 g2 ((kl k).take m) ?c1 ?c2 ?c3 ?c4 (w.heap.size + 1 + 1) W ?c5 (Nat.le_refl _) ?_
  case c1 => simp [kl]
  case c2 =>
    intro _
    refine ⟨rfl, _, rfl, fun j v hv => ?_⟩
    have hadd : (⟨w.heap.size, 0, none⟩ : Addr).add j = ⟨w.heap.size, j, none⟩ := by unfold Addr.add; split <;> simp_all
    rw [hadd]
    show W.cell? _ = _
    rw [cell_of_row W _ j _ _ _ g0]
    rw [List.getElem?_take] at hv
    split at hv
    · simpa [kc] using hv
    · simp at hv
  case c3 => simp [kl]; omega
  case c4 => intro v hv; exact kl_one k v (List.mem_of_mem_take hv)
  case c5 => exact (Below.refl _ _).drew
  intro W1 hw1 hb1
  have k2 : W1.heap[w.heap.size + 1 + 1]? = some (.cells (kc (fun i => if i < m then k i else 0)) 24 (0, 0)) := by
    have := hw1.out
    rw [splice_kl k zkey m (by omega)] at this
    exact this
  clear hw1
  have k0 : W1.heap[w.heap.size]? = some (.cells (kc k) 24 (0, 0)) := by rw [hb1.block _ (by omega)]; exact g0
  have k1 : W1.heap[w.heap.size + 1]? = some (.cells (kc zkey) 24 (0, 0)) := by rw [hb1.block _ (by omega)]; exact g1
  have hbw : Below w.heap.size w W1 := hb.trans (hb1.mono (by omega))
  clear hb1 hb g0 g1 g2 q3 q4
  go_frame
  go_wp2
  have hm16 : m < 16 := by have := HM.out; omega
  have r1 : (m : Int) < 16 := by omega
  obtain ⟨r, hr⟩ : ∃ r, r = n % 8 := ⟨_, rfl⟩
  have q2 : (n : Int).tmod 8 = (r : Int) := by rw [Int.tmod_eq_emod_of_nonneg (by omega)]; omega
  have HR : Hid (r = n % 8) := hr
  have r2 : (r : Int) < 8 := by omega
  have r3 : r < 8 := by omega
  have l0 : W1.cell? ⟨w.heap.size, m, none⟩ = some (.int .u8 (k m : Nat)) := by rw [cell_of_row W1 _ m _ _ _ k0]; exact kc_at k m hm16
  clear hr
  go_still_tail 11, (by kernel_rfl)
  change wpList _ _ _ _ _ W1.drew
  have l2 : W1.cell? ⟨w.heap.size + 1 + 1, m, none⟩ = some (.int .u8 0) := by rw [cell_of_row W1 _ m _ _ _ k2, kc_at _ _ hm16]; simp
  have f2 : W1.frozen? ⟨w.heap.size + 1 + 1, m, none⟩ = false := frozen_of_row W1 _ m _ _ k2
  have hv := cut_byte k n m r hk HM.out HR.out
  clear q1 q2 r1 r2 r3 l0
  rw [hv]
  clear hv
  have m2 : ((W1.setCell ⟨w.heap.size + 1 + 1, m, none⟩ (.int .u8 (cutB k n m : Nat))).drew).heap[w.heap.size + 1 + 1]? = some (.cells (kc (cutB k n)) 24 (0, 0)) := by
    rw [heap_drew, heap_setCell_same W1 _ m _ _ _ k2, kc_set, kc_ext fun i _ => cut_cells k n m HM.out i]
  have m1 : ((W1.setCell ⟨w.heap.size + 1 + 1, m, none⟩ (.int .u8 (cutB k n m : Nat))).drew).heap[w.heap.size + 1]? = some (.cells (kc zkey) 24 (0, 0)) := by
    rw [heap_drew, heap_setCell_other W1 _ _ _ (by simp), k1]
  have hb2 : Below w.heap.size w ((W1.setCell ⟨w.heap.size + 1 + 1, m, none⟩ (.int .u8 (cutB k n m : Nat))).drew) := (hbw.setCell (by simp; omega) _).drew
  have L := run_keyLoad (b := w.heap.size + 1 + 1) (off := 0) (k := cutB k n) (w := (W1.setCell ⟨w.heap.size + 1 + 1, m, none⟩ (.int .u8 (cutB k n m : Nat))).drew) (fun j v hj => by rw [cell_of_row _ _ _ _ _ _ m2]; simpa using hj)
  have S := run_keyStore (k := cutB k n) m1 (kc_size _)
  have m3 := setRow_heap _ _ (kc zkey) (kc (cutB k n)) _ _ m1
  have hb3 := below_setRow hb2 (Nat.le_succ w.heap.size) (kc (cutB k n))
  clear m1 m2 hb2 hbw k0 k1 k2
  go_wp2
  refine bodyPost_ret (v := .agg (kc (cutB k n))) (results_cell_row rfl _ _ (w.heap.size + 1) 24 (kc (cutB k n)) (0, 0) _ rfl m3 Try.underlying24 rfl (by rw [kc_size]; exact infoKey)) rfl ⟨rfl, hb3⟩

set_option maxHeartbeats 400000 in
set_option maxRecDepth 100000 in
theorem cut_all (k : Nat → Nat) (n : Int) (hn : 128 ≤ n) (w : World) :
    Calls Try.prog 57 #[.agg (kc k), .int .i64 n] w fun e w' => e = .returned (.agg (kc k)) ∧ Below w.heap.size w w' := by
  have hz : (#[Value.int IntKind.u8 0, Value.int IntKind.u8 0, Value.int IntKind.u8 0, Value.int IntKind.u8 0,
          Value.int IntKind.u8 0, Value.int IntKind.u8 0, Value.int IntKind.u8 0, Value.int IntKind.u8 0,
          Value.int IntKind.u8 0, Value.int IntKind.u8 0, Value.int IntKind.u8 0, Value.int IntKind.u8 0,
          Value.int IntKind.u8 0, Value.int IntKind.u8 0, Value.int IntKind.u8 0, Value.int IntKind.u8 0] : Array Value) = kc zkey := rfl
  have g0 : ((w.alloc (.cells (kc k) 24)).alloc (.cells (kc zkey) 24)).heap[w.heap.size]? = some (.cells (kc k) 24 (0, 0)) := heap_alloc2_old _ _ _
  have g1 : ((w.alloc (.cells (kc k) 24)).alloc (.cells (kc zkey) 24)).heap[w.heap.size + 1]? = some (.cells (kc zkey) 24 (0, 0)) := heap_alloc2_new _ _ _
  have hb : Below w.heap.size w ((w.alloc (.cells (kc k) 24)).alloc (.cells (kc zkey) 24)) := ((Below.refl _ _).alloc (Nat.le_refl _) _).alloc (by simp) _
  have L := run_keyLoad (b := w.heap.size) (off := 0) (k := k) (w := (w.alloc (.cells (kc k) 24)).alloc (.cells (kc zkey) 24)) (fun j v hj => by rw [cell_of_row _ _ _ _ _ _ g0]; simpa using hj)
  have S := run_keyStore (k := k) g1 (kc_size _)
  have m3 := setRow_heap _ _ (kc zkey) (kc k) _ _ g1
  have hb3 := below_setRow hb (Nat.le_succ w.heap.size) (kc k)
  clear g0 g1 hb
  go_enter Try.func57, Try.ntmps57
  go_wp2
  refine bodyPost_ret (v := .agg (kc k)) (results_cell_row rfl _ _ (w.heap.size + 1) 24 (kc k) (0, 0) _ rfl m3 Try.underlying24 rfl (by rw [kc_size]; exact infoKey)) rfl ⟨rfl, hb3⟩

set_option maxHeartbeats 400000 in
set_option maxRecDepth 100000 in
theorem cut_none (k : Nat → Nat) (n : Int) (hn : n < 1) (w : World) :
    Calls Try.prog 57 #[.agg (kc k), .int .i64 n] w fun e w' => e = .returned (.agg (kc zkey)) ∧ Below w.heap.size w w' := by
  have hn2 : ¬ 128 ≤ n := by omega
  have hz : (#[Value.int IntKind.u8 0, Value.int IntKind.u8 0, Value.int IntKind.u8 0, Value.int IntKind.u8 0,
          Value.int IntKind.u8 0, Value.int IntKind.u8 0, Value.int IntKind.u8 0, Value.int IntKind.u8 0,
          Value.int IntKind.u8 0, Value.int IntKind.u8 0, Value.int IntKind.u8 0, Value.int IntKind.u8 0,
          Value.int IntKind.u8 0, Value.int IntKind.u8 0, Value.int IntKind.u8 0, Value.int IntKind.u8 0] : Array Value) = kc zkey := rfl
  have g1 : ((w.alloc (.cells (kc k) 24)).alloc (.cells (kc zkey) 24)).heap[w.heap.size + 1]? = some (.cells (kc zkey) 24 (0, 0)) := heap_alloc2_new _ _ _
  have hb : Below w.heap.size w ((w.alloc (.cells (kc k) 24)).alloc (.cells (kc zkey) 24)) := ((Below.refl _ _).alloc (Nat.le_refl _) _).alloc (by simp) _
  have S := run_keyStore (k := zkey) g1 (kc_size _)
  have m3 := setRow_heap _ _ (kc zkey) (kc zkey) _ _ g1
  have hb3 := below_setRow hb (Nat.le_succ w.heap.size) (kc zkey)
  clear g1 hb
  go_enter Try.func57, Try.ntmps57
  go_wp2
  refine bodyPost_ret (v := .agg (kc zkey)) (results_cell_row rfl _ _ (w.heap.size + 1) 24 (kc zkey) (0, 0) _ rfl m3 Try.underlying24 rfl (by rw [kc_size]; exact infoKey)) rfl ⟨rfl, hb3⟩

theorem cut_any (k : Nat → Nat) (n : Int) (w : World) (hk : Bytes16 k) :
    Calls Try.prog 57 #[.agg (kc k), .int .i64 n] w fun e w' => e = .returned (.agg (kc (cutB k n.toNat))) ∧ Below w.heap.size w w' := by
  by_cases h1 : 128 ≤ n
  · rw [kc_ext (a := cutB k n.toNat) (b := k) fun i hi => by unfold cutB; rw [if_pos (by omega)]]
    exact cut_all k n h1 w
  · by_cases h2 : n < 1
    · rw [kc_ext (a := cutB k n.toNat) (b := zkey) fun i hi => by unfold cutB; rw [if_neg (by omega), if_pos (by omega)]; rfl]
      exact cut_none k n h2 w
    · obtain ⟨m, rfl⟩ := Int.eq_ofNat_of_zero_le (show 0 ≤ n by omega)
      exact cut_in k m (by omega) (by omega) w hk

end Go.Proofs.Ytcpdpcfejpbdpaa
