/- key.endsBy, by the contract of key.Cut. key.Cut: it hands back the key with its first bits alone; of what was there nothing has turned. LeadingZeros8, and the first bit by which two keys part. bench -/
import Derived.Test.YtggjcjijoihilaaKeyBase
import Derived.Deep.WholeRow
import Derived.StillTailTactics
import Derived.Laws.CopyOwn
import Derived.Laws.MathBits
import Derived.Outline
import Derived.LoopTactic
namespace Go.Proofs.Ytggjcjijoihilaa
open Go.RowKit Go.Sort
attribute [local go_sem ↓] loadVar_key loadVar_pre

def CutSaid : Prop := ∀ (k : Nat → Nat) (n : Int) (w : World), Bytes16 k → Calls Try.prog 30 #[.agg (kc k), .int .i64 n] w fun e w' => e = .returned (.agg (kc (cutB k n.toNat))) ∧ Below w.heap.size w w'

set_option maxHeartbeats 1000000 in
set_option maxRecDepth 100000 in
theorem ends_any (hcut : CutSaid) (k : Nat → Nat) (n : Int) (w : World) (hk : Bytes16 k) :
    Calls Try.prog 63 #[.agg (kc k), .int .i64 n] w fun e w' => e = .returned (.bool (endsB k n.toNat)) ∧ Below w.heap.size w w' := by
  have hr := rowAt_new w (kc k) 24
  have hb : Below w.heap.size w (w.alloc (.cells (kc k) 24)) := (Below.refl _ _).alloc (Nat.le_refl _) _
  go_enter Try.func63, Try.ntmps63
  go_wp2
  generalize w.alloc (.cells (kc k) 24) = W at *
  have L := fun d os => run_keyLoad (rowAt_regrown hr d os)
  have C := fun d os => Calls.regrown_of (hcut k n (grow (redrawn W d) os) hk)
  have E := fun w => run_eqKey_top (cutB k n.toNat) k w
  refine wp_region_quiet_below (by kernel_rfl) (by kernel_rfl) ?_
  repeat (go_big_quiet_step (exact C _ _))
  refine wpQuiet_nil fun w1 hw1 => ?_
  have hb1 : Below w.heap.size w w1 := by
    obtain ⟨p, rfl⟩ := hw1
    exact hb.trans ((below_regrown W p.d p.os).mono hb.size)
  clear hw1 L C E
  go_wp2
  go_ret
  exact ⟨rfl, hb1⟩
end Go.Proofs.Ytggjcjijoihilaa
namespace Go.Proofs.Ytggjcjijoihilaa
open Go.RowKit Go.Sort
attribute [local go_sem ↓] loadVar_key loadVar_pre

def keyStore (a : Addr) (v : Value) : Sem Unit := storeVar 24 a v
theorem storeVar_key (a : Addr) (v : Value) : storeVar 24 a v = keyStore a v := rfl
attribute [local go_sem ↓] storeVar_key

theorem kl_one (k : Nat → Nat) : ∀ v ∈ kl k, v.oneCell' = true := fun v hv => by
  simp only [kl, List.mem_map] at hv
  obtain ⟨i, _, rfl⟩ := hv
  rfl
theorem kc_one (k : Nat → Nat) : (kc k).all (·.oneCell') = true := by
  rw [Array.all_eq_true_iff_forall_mem]; intro v hv; exact kl_one k v (by simpa [kc] using hv)

theorem run_keyStore {w : World} {g : Nat} {cs : Array Value} {t : TypeId} {k : Nat → Nat} (hg : w.heap[g]? = some (.cells cs t (0, 0))) (hs : cs.size = 16) :
    (keyStore ⟨g, 0, none⟩ (.agg (kc k))).run Try.prog w = .ok () (w.setRow g (kc k)) :=
  run_storeVar_row w g t 24 cs (kc k) hg (by rw [kc_size]; exact infoKey) (by rw [hs, kc_size]) (kc_one k)

def zkey : Nat → Nat := fun _ => 0

theorem splice_kl (k f : Nat → Nat) (m : Nat) (hm : m ≤ 16) : splice (kl f) 0 ((kl k).take m) = kl (fun i => if i < m then k i else f i) := by
  apply List.ext_getElem?
  intro i
  have hl : ((kl k).take m).length = m := by simp [kl]; omega
  simp only [splice, List.take_zero, List.nil_append, Nat.zero_add, hl, List.getElem?_append, List.getElem?_take, List.getElem?_drop]
  by_cases h : i < 16
  · rw [kl_at (fun i => if i < m then k i else f i) i h]
    by_cases h2 : i < m
    · rw [if_pos h2, if_pos h2, kl_at _ i h, if_pos h2]
    · rw [if_neg h2, show m + (i - m) = i by omega, kl_at _ i h, if_neg h2]
  · have hn : ∀ g, (kl g)[i]? = none := fun g => List.getElem?_eq_none (by simp [kl]; omega)
    rw [if_neg (by omega), show m + (i - m) = i by omega, hn, hn]

theorem andNot_mask : ∀ (a : Fin 256) (r : Fin 8), a.val &&& (255 - 255 / 2 ^ r.val) = if r.val = 0 then 0 else a.val / 2 ^ (8 - r.val) * 2 ^ (8 - r.val) := by decide +kernel

theorem cut_byte (k : Nat → Nat) (n m r : Nat) (hk : Bytes16 k) (hm : m = n / 8) (hr : r = n % 8) : bits BinOp.andNot IntKind.u8 ((k m : Nat) : Int) (255 / 2 ^ r) = ((cutB k n m : Nat) : Int) := by
  have e : (255 : Int) / 2 ^ r = ((255 / 2 ^ r : Nat) : Int) := by simp
  have h1 : 255 / 2 ^ r < 256 := Nat.lt_of_le_of_lt (Nat.div_le_self _ _) (by decide)
  rw [e, u8_andNot_nat _ _ (hk m) h1, andNot_mask ⟨k m, hk m⟩ ⟨r, by omega⟩]
  clear e h1
  congr 1
  unfold cutB
  rw [if_neg (show ¬ 8 * m + 8 ≤ n by omega)]
  by_cases h0 : r = 0
  · rw [if_pos (show n ≤ 8 * m by omega)]; simp [h0]
  · rw [if_neg (show ¬ n ≤ 8 * m by omega), show 8 * m + 8 - n = 8 - r by omega]; simp [h0]

theorem cut_cells (k : Nat → Nat) (n m : Nat) (hm : m = n / 8) (i : Nat) : (if i = m then cutB k n m else if i < m then k i else 0) = cutB k n i := by
  by_cases h : i = m
  · rw [if_pos h, h]
  · rw [if_neg h]
    unfold cutB
    by_cases h2 : i < m
    · rw [if_pos h2, if_pos (by omega)]
    · rw [if_neg h2, if_neg (by omega), if_pos (by omega)]

theorem kc_set (f : Nat → Nat) (m c : Nat) : (kc f).setIfInBounds m (.int .u8 (c : Nat)) = kc (fun i => if i = m then c else f i) := by
  apply Array.ext_getElem?
  intro i
  rw [Array.getElem?_setIfInBounds, kc_size]
  by_cases h : i < 16
  · rw [kc_at _ i h, kc_at _ i h]
    by_cases e : m = i
    · subst e; simp [h]
    · rw [if_neg e, if_neg (Ne.symm e)]
  · have hn : ∀ g, (kc g)[i]? = none := fun g => Array.getElem?_eq_none (by rw [kc_size]; omega)
    rw [hn, hn]
    split
    · rw [if_neg (by omega)]
    · rfl

set_option maxHeartbeats 400000 in
set_option maxRecDepth 100000 in
theorem cut_in (k : Nat → Nat) (n : Nat) (h1 : 1 ≤ n) (h2 : n < 128) (w : World) (hk : Bytes16 k) :
    Calls Try.prog 30 #[.agg (kc k), .int .i64 n] w fun e w' => e = .returned (.agg (kc (cutB k n))) ∧ Below w.heap.size w w' := by
  have h1' : (1 : Int) ≤ n := by omega
  have h2' : (n : Int) < 128 := by omega
  go_enter Try.func30, Try.ntmps30
  go_wp2
  rw [show (#[Value.int IntKind.u8 0, Value.int IntKind.u8 0, Value.int IntKind.u8 0, Value.int IntKind.u8 0,
          Value.int IntKind.u8 0, Value.int IntKind.u8 0, Value.int IntKind.u8 0, Value.int IntKind.u8 0,
          Value.int IntKind.u8 0, Value.int IntKind.u8 0, Value.int IntKind.u8 0, Value.int IntKind.u8 0,
          Value.int IntKind.u8 0, Value.int IntKind.u8 0, Value.int IntKind.u8 0, Value.int IntKind.u8 0] : Array Value) = kc zkey from rfl]
  have hb : Below w.heap.size w (((w.alloc (.cells (kc k) 24)).alloc (.cells (kc zkey) 24)).alloc (.cells (kc zkey) 24)) :=
    (((Below.refl _ _).alloc (Nat.le_refl _) _).alloc (by simp) _).alloc (by simp; omega) _
  have g0 : (((w.alloc (.cells (kc k) 24)).alloc (.cells (kc zkey) 24)).alloc (.cells (kc zkey) 24)).heap[w.heap.size]? = some (.cells (kc k) 24 (0, 0)) := by
    rw [heap_alloc_old _ _ (by simp; omega), heap_alloc_old _ _ (by simp), heap_alloc_new]
  have g1 : (((w.alloc (.cells (kc k) 24)).alloc (.cells (kc zkey) 24)).alloc (.cells (kc zkey) 24)).heap[w.heap.size + 1]? = some (.cells (kc zkey) 24 (0, 0)) := by
    rw [heap_alloc_old _ _ (by simp), heap_alloc2_new]
  have g2 : (((w.alloc (.cells (kc k) 24)).alloc (.cells (kc zkey) 24)).alloc (.cells (kc zkey) 24)).heap[w.heap.size + 1 + 1]? = some (.cells (kc zkey) 24 (0, 0)) := by
    have := heap_alloc2_new (w.alloc (.cells (kc k) 24)) (.cells (kc zkey) 24) (.cells (kc zkey) 24)
    simpa using this
  generalize ((w.alloc (.cells (kc k) 24)).alloc (.cells (kc zkey) 24)).alloc (.cells (kc zkey) 24) = W at *

  obtain ⟨m, hm⟩ : ∃ m, m = n / 8 := ⟨_, rfl⟩
  have q1 : IntKind.i64.wrap ((n : Int) / 8) = (m : Int) := by rw [IntKind.wrap_i64]; omega
  have q3 : (m : Int) ≤ 16 := by omega
  have q4 : m ≤ 16 := by omega
  have HM : Hid (m = n / 8) := hm
  clear hm
  go_still_tail 4, (by kernel_rfl)
  refine wpList_copy_splice rfl (.tmp 12) (.tmp 15) 109 109 rfl 5 Try.underlying109 (by kernel_rfl) _ _ _ _ _ _ rfl rfl (w.heap.size + 1 + 1) 0 (kl zkey) 24 g2 ((kl k).take m) ?c1 ?c2 ?c3 ?c4 (w.heap.size + 1 + 1) W ?c5 (Nat.le_refl _) ?_
  case c1 => simp [kl]
  case c2 =>
    intro _
    refine ⟨rfl, _, rfl, fun j v hv => ?_⟩
    have hadd : (⟨w.heap.size, 0, none⟩ : Addr).add j = ⟨w.heap.size, j, none⟩ := by unfold Addr.add; split <;> simp_all
    rw [hadd]
    show W.cell? _ = _
    rw [cell_of_row W _ j _ _ _ g0]
    rw [List.getElem?_take] at hv
    split at hv
    · simpa [kc] using hv
    · simp at hv
  case c3 => simp [kl]; omega
  case c4 => intro v hv; exact kl_one k v (List.mem_of_mem_take hv)
  case c5 => exact (Below.refl _ _).drew
  intro W1 hw1 hb1
  have k2 : W1.heap[w.heap.size + 1 + 1]? = some (.cells (kc (fun i => if i < m then k i else 0)) 24 (0, 0)) := by
    have := hw1.out
    rw [splice_kl k zkey m (by omega)] at this
    exact this
  clear hw1
  have k0 : W1.heap[w.heap.size]? = some (.cells (kc k) 24 (0, 0)) := by rw [hb1.block _ (by omega)]; exact g0
  have k1 : W1.heap[w.heap.size + 1]? = some (.cells (kc zkey) 24 (0, 0)) := by rw [hb1.block _ (by omega)]; exact g1
  have hbw : Below w.heap.size w W1 := hb.trans (hb1.mono (by omega))
  clear hb1 hb g0 g1 g2 q3 q4
  go_frame
  go_wp2
  have hm16 : m < 16 := by have := HM.out; omega
  have r1 : (m : Int) < 16 := by omega
  obtain ⟨r, hr⟩ : ∃ r, r = n % 8 := ⟨_, rfl⟩
  have q2 : (n : Int).tmod 8 = (r : Int) := by rw [Int.tmod_eq_emod_of_nonneg (by omega)]; omega
  have HR : Hid (r = n % 8) := hr
  have r2 : (r : Int) < 8 := by omega
  have r3 : r < 8 := by omega
  have l0 : W1.cell? ⟨w.heap.size, m, none⟩ = some (.int .u8 (k m : Nat)) := by rw [cell_of_row W1 _ m _ _ _ k0]; exact kc_at k m hm16
  clear hr
  go_still_tail 11, (by kernel_rfl)
  change wpList _ _ _ _ _ W1.drew
  have l2 : W1.cell? ⟨w.heap.size + 1 + 1, m, none⟩ = some (.int .u8 0) := by rw [cell_of_row W1 _ m _ _ _ k2, kc_at _ _ hm16]; simp
  have f2 : W1.frozen? ⟨w.heap.size + 1 + 1, m, none⟩ = false := frozen_of_row W1 _ m _ _ k2
  have hv := cut_byte k n m r hk HM.out HR.out
  clear q1 q2 r1 r2 r3 l0
  rw [hv]
  clear hv
  have m2 : ((W1.setCell ⟨w.heap.size + 1 + 1, m, none⟩ (.int .u8 (cutB k n m : Nat))).drew).heap[w.heap.size + 1 + 1]? = some (.cells (kc (cutB k n)) 24 (0, 0)) := by
    rw [heap_drew, heap_setCell_same W1 _ m _ _ _ k2, kc_set, kc_ext fun i _ => cut_cells k n m HM.out i]
  have m1 : ((W1.setCell ⟨w.heap.size + 1 + 1, m, none⟩ (.int .u8 (cutB k n m : Nat))).drew).heap[w.heap.size + 1]? = some (.cells (kc zkey) 24 (0, 0)) := by
    rw [heap_drew, heap_setCell_other W1 _ _ _ (by simp), k1]
  have hb2 : Below w.heap.size w ((W1.setCell ⟨w.heap.size + 1 + 1, m, none⟩ (.int .u8 (cutB k n m : Nat))).drew) := (hbw.setCell (by simp; omega) _).drew
  have L := run_keyLoad (b := w.heap.size + 1 + 1) (off := 0) (k := cutB k n) (w := (W1.setCell ⟨w.heap.size + 1 + 1, m, none⟩ (.int .u8 (cutB k n m : Nat))).drew) (fun j v hj => by rw [cell_of_row _ _ _ _ _ _ m2]; simpa using hj)
  have S := run_keyStore (k := cutB k n) m1 (kc_size _)
  have m3 := setRow_heap _ _ (kc zkey) (kc (cutB k n)) _ _ m1
  have hb3 := below_setRow hb2 (Nat.le_succ w.heap.size) (kc (cutB k n))
  clear m1 m2 hb2 hbw k0 k1 k2
  go_wp2
  refine bodyPost_ret (v := .agg (kc (cutB k n))) (results_cell_row rfl _ _ (w.heap.size + 1) 24 (kc (cutB k n)) (0, 0) _ rfl m3 Try.underlying24 rfl (by rw [kc_size]; exact infoKey)) rfl ⟨rfl, hb3⟩

set_option maxHeartbeats 400000 in
set_option maxRecDepth 100000 in
theorem cut_all (k : Nat → Nat) (n : Int) (hn : 128 ≤ n) (w : World) :
    Calls Try.prog 30 #[.agg (kc k), .int .i64 n] w fun e w' => e = .returned (.agg (kc k)) ∧ Below w.heap.size w w' := by
  have hz : (#[Value.int IntKind.u8 0, Value.int IntKind.u8 0, Value.int IntKind.u8 0, Value.int IntKind.u8 0,
          Value.int IntKind.u8 0, Value.int IntKind.u8 0, Value.int IntKind.u8 0, Value.int IntKind.u8 0,
          Value.int IntKind.u8 0, Value.int IntKind.u8 0, Value.int IntKind.u8 0, Value.int IntKind.u8 0,
          Value.int IntKind.u8 0, Value.int IntKind.u8 0, Value.int IntKind.u8 0, Value.int IntKind.u8 0] : Array Value) = kc zkey := rfl
  have g0 : ((w.alloc (.cells (kc k) 24)).alloc (.cells (kc zkey) 24)).heap[w.heap.size]? = some (.cells (kc k) 24 (0, 0)) := heap_alloc2_old _ _ _
  have g1 : ((w.alloc (.cells (kc k) 24)).alloc (.cells (kc zkey) 24)).heap[w.heap.size + 1]? = some (.cells (kc zkey) 24 (0, 0)) := heap_alloc2_new _ _ _
  have hb : Below w.heap.size w ((w.alloc (.cells (kc k) 24)).alloc (.cells (kc zkey) 24)) := ((Below.refl _ _).alloc (Nat.le_refl _) _).alloc (by simp) _
  have L := run_keyLoad (b := w.heap.size) (off := 0) (k := k) (w := (w.alloc (.cells (kc k) 24)).alloc (.cells (kc zkey) 24)) (fun j v hj => by rw [cell_of_row _ _ _ _ _ _ g0]; simpa using hj)
  have S := run_keyStore (k := k) g1 (kc_size _)
  have m3 := setRow_heap _ _ (kc zkey) (kc k) _ _ g1
  have hb3 := below_setRow hb (Nat.le_succ w.heap.size) (kc k)
  clear g0 g1 hb
  go_enter Try.func30, Try.ntmps30
  go_wp2
  refine bodyPost_ret (v := .agg (kc k)) (results_cell_row rfl _ _ (w.heap.size + 1) 24 (kc k) (0, 0) _ rfl m3 Try.underlying24 rfl (by rw [kc_size]; exact infoKey)) rfl ⟨rfl, hb3⟩

set_option maxHeartbeats 400000 in
set_option maxRecDepth 100000 in
theorem cut_none (k : Nat → Nat) (n : Int) (hn : n < 1) (w : World) :
    Calls Try.prog 30 #[.agg (kc k), .int .i64 n] w fun e w' => e = .returned (.agg (kc zkey)) ∧ Below w.heap.size w w' := by
  have hn2 : ¬ 128 ≤ n := by omega
  have hz : (#[Value.int IntKind.u8 0, Value.int IntKind.u8 0, Value.int IntKind.u8 0, Value.int IntKind.u8 0,
          Value.int IntKind.u8 0, Value.int IntKind.u8 0, Value.int IntKind.u8 0, Value.int IntKind.u8 0,
          Value.int IntKind.u8 0, Value.int IntKind.u8 0, Value.int IntKind.u8 0, Value.int IntKind.u8 0,
          Value.int IntKind.u8 0, Value.int IntKind.u8 0, Value.int IntKind.u8 0, Value.int IntKind.u8 0] : Array Value) = kc zkey := rfl
  have g1 : ((w.alloc (.cells (kc k) 24)).alloc (.cells (kc zkey) 24)).heap[w.heap.size + 1]? = some (.cells (kc zkey) 24 (0, 0)) := heap_alloc2_new _ _ _
  have hb : Below w.heap.size w ((w.alloc (.cells (kc k) 24)).alloc (.cells (kc zkey) 24)) := ((Below.refl _ _).alloc (Nat.le_refl _) _).alloc (by simp) _
  have S := run_keyStore (k := zkey) g1 (kc_size _)
  have m3 := setRow_heap _ _ (kc zkey) (kc zkey) _ _ g1
  have hb3 := below_setRow hb (Nat.le_succ w.heap.size) (kc zkey)
  clear g1 hb
  go_enter Try.func30, Try.ntmps30
  go_wp2
  refine bodyPost_ret (v := .agg (kc zkey)) (results_cell_row rfl _ _ (w.heap.size + 1) 24 (kc zkey) (0, 0) _ rfl m3 Try.underlying24 rfl (by rw [kc_size]; exact infoKey)) rfl ⟨rfl, hb3⟩

theorem cut_any (k : Nat → Nat) (n : Int) (w : World) (hk : Bytes16 k) :
    Calls Try.prog 30 #[.agg (kc k), .int .i64 n] w fun e w' => e = .returned (.agg (kc (cutB k n.toNat))) ∧ Below w.heap.size w w' := by
  by_cases h1 : 128 ≤ n
  · rw [kc_ext (a := cutB k n.toNat) (b := k) fun i hi => by unfold cutB; rw [if_pos (by omega)]]
    exact cut_all k n h1 w
  · by_cases h2 : n < 1
    · rw [kc_ext (a := cutB k n.toNat) (b := zkey) fun i hi => by unfold cutB; rw [if_neg (by omega), if_pos (by omega)]; rfl]
      exact cut_none k n h2 w
    · obtain ⟨m, rfl⟩ := Int.eq_ofNat_of_zero_le (show 0 ≤ n by omega)
      exact cut_in k m (by omega) (by omega) w hk

end Go.Proofs.Ytggjcjijoihilaa
namespace Go.Proofs.Ytggjcjijoihilaa
open Go.RowKit Go.Sort

set_option maxHeartbeats 400000 in
set_option maxRecDepth 100000 in
theorem len8_any (x : Nat) (hx : x < 256) (w : World) :
    Calls Try.prog 77 #[.int .u8 (x : Nat)] w fun e w' => e = .returned (.int .i64 (bitLen x : Nat)) ∧ w = w' := by
  go_enter Try.func77, Try.ntmps77
  go_wp2
  go_ret
  exact ⟨ret_int (by rw [len8tab_get x hx]; exact IntWalk.wrap64_in _ (by have := bitLen_le8 x hx; constructor <;> omega)), rfl⟩

set_option maxHeartbeats 400000 in
set_option maxRecDepth 100000 in
theorem lz8_any (x : Nat) (hx : x < 256) (w : World) :
    Calls Try.prog 62 #[.int .u8 (x : Nat)] w fun e w' => e = .returned (.int .i64 ((8 - bitLen x : Nat) : Int)) ∧ w = w' := by
  have hb := bitLen_le8 x hx
  have hb2 : ((bitLen x : Nat) : Int) ≤ 8 := by omega
  go_enter Try.func62, Try.ntmps62
  go_wp2_with (go_at_call 77; refine (len8_any x hx _).mono ?_; rintro e w' ⟨rfl, rfl⟩)
  go_ret
  exact ⟨ret_int (by omega), rfl⟩

/-- Where the first bit of a byte is set. -/
theorem lead_bits : ∀ (x : Fin 256) (j : Fin 8), (j.val < 8 - bitLen x.val → x.val / 2 ^ (7 - j.val) % 2 = 0) ∧ (x.val ≠ 0 → x.val / 2 ^ (7 - (8 - bitLen x.val)) % 2 = 1 ∧ 1 ≤ bitLen x.val) := by decide +kernel

theorem xor_bit (a b c : Nat) : (a ^^^ b) / 2 ^ c % 2 = 0 ↔ a / 2 ^ c % 2 = b / 2 ^ c % 2 := by
  have h : ∀ x : Nat, x / 2 ^ c % 2 = (x.testBit c).toNat := fun x => by rw [Nat.testBit_eq_decide_div_mod_eq]; rcases Nat.mod_two_eq_zero_or_one (x / 2 ^ c) with e | e <;> simp [e]
  rw [h, h, h, Nat.testBit_xor]
  cases a.testBit c <;> cases b.testBit c <;> simp

theorem xor_lt (a b : Nat) (ha : a < 256) (hb : b < 256) : a ^^^ b < 256 := Nat.xor_lt_two_pow (n := 8) ha hb

/-- The first bit by which two keys part, out of the first byte by which they do. -/
theorem com_byte {a b : Nat → Nat} (ha : Bytes16 a) (hb : Bytes16 b) (i : Nat) (hi : i < 16) (hs : ∀ j, j < i → a j = b j) (hp : a i ≠ b i) : com a b = 8 * i + (8 - bitLen (a i ^^^ b i)) := by
  have hx := xor_lt _ _ (ha i) (hb i)
  have h0 : a i ^^^ b i ≠ 0 := fun e => hp (byte_ext _ _ (ha i) (hb i) fun j _ => (xor_bit _ _ _).1 (by rw [e]; simp))
  have hl := bitLen_le8 _ hx
  have L := fun j (hj : j < 8) => lead_bits ⟨a i ^^^ b i, hx⟩ ⟨j, hj⟩
  have h1 := ((L 0 (by decide)).2 h0).2
  have h2 := ((L 0 (by decide)).2 h0).1
  simp only at L h1 h2
  refine IsCom.eq ⟨by omega, fun j hj => ?_, fun _ => ?_⟩
  · unfold bt
    by_cases e : j / 8 = i
    · rw [e]; exact (xor_bit _ _ _).1 ((L (j % 8) (by omega)).1 (by omega))
    · rw [hs _ (by omega)]
  · unfold bt
    rw [show (8 * i + (8 - bitLen (a i ^^^ b i))) / 8 = i by omega, show (8 * i + (8 - bitLen (a i ^^^ b i))) % 8 = 8 - bitLen (a i ^^^ b i) by omega]
    intro e
    have := (xor_bit _ _ _).2 e
    omega
end Go.Proofs.Ytggjcjijoihilaa
namespace Go.Proofs.Ytggjcjijoihilaa
open Go.RowKit Go.Sort
attribute [local go_sem ↓] loadVar_key loadVar_pre

theorem rowAt_drewN {w : World} {b off : Nat} {cs : Array Value} (h : RowAt w b off cs) (n : Nat) : RowAt (w.drewN n) b off cs := fun j v hv => by
  have := h j v hv
  simpa [go_sem] using this

def SameTo (a b : Nat → Nat) (i : Nat) : Prop := ∀ j, j < i → a j = b j

set_option maxHeartbeats 1000000 in
set_option maxRecDepth 100000 in
theorem com_any (a b : Nat → Nat) (w : World) (ha : Bytes16 a) (hb : Bytes16 b) :
    Calls Try.prog 33 #[.agg (kc a), .agg (kc b)] w fun e w' => e = .returned (.int .i64 (com a b : Nat)) ∧ Below w.heap.size w w' := by
  have hbl : Below w.heap.size w ((w.alloc (.cells (kc a) 24)).alloc (.cells (kc b) 24)) := ((Below.refl _ _).alloc (Nat.le_refl _) _).alloc (by simp) _
  have hsz : w.heap.size + 2 = ((w.alloc (.cells (kc a) 24)).alloc (.cells (kc b) 24)).heap.size := by simp
  have ra : RowAt ((w.alloc (.cells (kc a) 24)).alloc (.cells (kc b) 24)) w.heap.size 0 (kc a) := (rowAt_new w (kc a) _).below (B := w.heap.size + 1) ((Below.refl _ _).alloc (by simp) _) (by omega)
  have rb : RowAt ((w.alloc (.cells (kc a) 24)).alloc (.cells (kc b) 24)) (w.heap.size + 1) 0 (kc b) := by simpa using rowAt_new (w.alloc (.cells (kc a) 24)) (kc b) 24
  go_enter Try.func33, Try.ntmps33
  go_wp2
  generalize (w.alloc (.cells (kc a) 24)).alloc (.cells (kc b) 24) = W at *
  have HS := hsz
  clear hsz
  go_loopw [7] (fun t wr => ∃ i : Nat, i ≤ 16 ∧ t = .int .i64 i ∧ SameTo a b i ∧ Below w.heap.size w wr ∧ RowAt wr w.heap.size 0 (kc a) ∧ RowAt wr (w.heap.size + 1) 0 (kc b)) (fun t _ => 16 - (intOf t).toNat)
  case atStart => exact ⟨0, by omega, rfl, fun j hj => absurd hj (Nat.not_lt_zero _), hbl, ra, rb⟩
  case round =>
    clear ra rb hbl
    obtain ⟨i, hi, rfl, hs, hbl, ra, rb⟩ := hrel
    by_cases hlt : i < 16
    · have l1 := ra i _ (kc_at a i hlt)
      have l2 := rb i _ (kc_at b i hlt)
      simp only [Nat.zero_add] at l1 l2
      have hxl := xor_lt _ _ (ha i) (hb i)
      have hx := u8_xor_nat _ _ (ha i) (hb i)
      obtain ⟨x, hxe⟩ : ∃ x, x = a i ^^^ b i := ⟨_, rfl⟩
      rw [← hxe] at hx hxl
      have HX : Hid (x = a i ^^^ b i) := hxe
      have hlt' : (i : Int) < 16 := by omega
      clear hxe
      by_cases h0 : x = 0
      · have e0 : ((x : Int) != 0) = false := by simp [h0]
        have hab : a i = b i := byte_ext _ _ (ha i) (hb i) fun j _ => (xor_bit _ _ _).1 (by rw [← HX.out, h0]; simp)
        have HA := show Hid (a i = b i) from hab
        clear h0 hab
        go_wp2
        go_quiet (fail)
        go_wp2
        go_roundw
        case rel => exact ⟨i + 1, by omega, by go_num, fun j hj => by
          by_cases e : j = i
          · rw [e]; exact HA.out
          · exact hs j (by omega), below_drewN hbl _, rowAt_drewN ra _, rowAt_drewN rb _⟩
        case measure => simp [intOf]; omega
      · have e0 : ((x : Int) != 0) = true := by simp [h0]
        have hc := com_byte ha hb i hlt hs fun e => h0 (by rw [HX.out, e]; simp)
        rw [← HX.out] at hc
        have HC := show Hid (com a b = 8 * i + (8 - bitLen x)) from hc
        have hl8 : ((8 - bitLen x : Nat) : Int) ≤ 8 := by omega
        clear h0 hc
        go_wp2
        go_quiet (fail)
        go_wp2_with (go_at_call 62; refine (lz8_any x hxl _).mono ?_; rintro e w' ⟨rfl, rfl⟩)
        go_ret
        exact ⟨ret_int (by rw [HC.out]; omega), below_drewN hbl _⟩
    · have : i = 16 := by omega
      subst this
      have hc := (com_128 ha hb).2 hs
      have HC := show Hid (com a b = 128) from hc
      clear hc
      go_wp2
      go_ret
      exact ⟨ret_int (by rw [HC.out]; rfl), hbl⟩
end Go.Proofs.Ytggjcjijoihilaa
