/- bytes.Repeat of one byte: a row of the call's own that has it so often. -/
import Derived.Test.YtilgppijmkcomaaChipErase
import Derived.Test.YtilgppijmkcomaaShelf
import Derived.Lib.MakeNoZero
import Derived.Laws.Externs
import Derived.Laws.CopyOwn
import Derived.Deep.RegionHeld3
namespace Go.Proofs.Ytilgppijmkcomaa.Chip
open Go.RowKit Go.Sort Go.Shelf

theorem splice_rep {zs : List Value} {y : Value} {bp ch : Nat} : splice (List.replicate bp y ++ zs) bp (List.replicate ch y) = List.replicate (bp + ch) y ++ zs.drop ch := by
  unfold splice
  have h1 : (List.replicate bp y).length = bp := List.length_replicate
  rw [List.take_append_of_le_length (by omega), List.take_of_length_le (by omega), List.length_replicate, List.drop_append, h1, List.drop_of_length_le (by omega), Nat.add_sub_cancel_left, List.nil_append, ← List.append_assoc, List.replicate_append_replicate]

/-- Bytes in a block of their own kind. -/
def PgB (w : World) (v : Value) (l : List UInt8) : Prop := ∃ g cap cur, v = .slice (some ⟨g, 0, none⟩) l.length cap ∧ w.heap[g]? = some (.cells cur 5 (0, 0)) ∧ l.length ≤ cap ∧ cap ≤ maxLen ∧ cur.toList.take l.length = cellsB l
theorem PgB.rd {w : World} {v : Value} {l : List UInt8} (h : PgB w v l) : RdB w v l := by
  obtain ⟨g, cap, cur, h1, h2, h3, h4, h5⟩ := h
  refine ⟨some ⟨g, 0, none⟩, cap, h1, h3, h4, (fun h => by cases h), fun ad ha j u hu => ?_⟩
  cases ha
  rw [add_here, Nat.zero_add, cell_of_row w g j cur _ _ h2]
  rw [← h5, List.getElem?_take] at hu
  split at hu
  · simpa using hu
  · cases hu
theorem PgB.later {w w' : World} {v : Value} {l : List UInt8} (h : PgB w v l) (hb : Below w.heap.size w w') : PgB w' v l := by
  obtain ⟨g, cap, cur, h1, h2, h3⟩ := h
  exact ⟨g, cap, cur, h1, (hb.block _ (Array.getElem?_eq_some_iff.1 h2).1).trans h2, h3⟩
theorem PgB.kept {w : World} {v : Value} {l : List UInt8} (h : PgB w v l) {g j : Nat} {cur : Array Value} {t : TypeId} (hg : w.heap[g]? = some (.cells cur t (0, 0))) (ht : t ≠ 5) (u : Value) : PgB (w.setCell ⟨g, j, none⟩ u) v l := by
  obtain ⟨g', cap, cur', h1, h2, h3⟩ := h
  refine ⟨g', cap, cur', h1, (heap_setCell_other w ⟨g, j, none⟩ g' u fun e => ?_).trans h2, h3⟩
  simp only at e
  subst e
  rw [h2] at hg
  simp at hg
  exact ht hg.2.symm

set_option maxHeartbeats 4000000 in
set_option maxRecDepth 100000 in
theorem repeat_any (x : UInt8) (n : Nat) (h1 : 1 ≤ n) (h2 : n ≤ 8192) (v : Value) (w : World) (hR : RdB w v [x]) :
    Calls Try.prog 17 #[v, .int .i64 (n : Int)] w fun e w' => ∃ v', e = .returned v' ∧ PgB w' v' (List.replicate n x) ∧ Below w.heap.size w w' := by
  obtain ⟨b, o, cap, hv, hc⟩ := hR.form (by simp)
  have hc0 := hc 0 x rfl
  have hv' : v = .slice (some ⟨b, o, none⟩) 1 cap := hv
  subst hv'
  have hn1 : (1 : Int) ≤ n := by omega
  have hn2 : (n : Int) ≤ 8192 := by omega
  have C : ∀ w, Calls Try.prog 29 #[.int .u64 1, .int .u64 (n : Int)] w fun e w' => e = .returned (.tuple #[.int .u64 0, .int .u64 (n : Int)]) ∧ w = w' := fun w => by
    refine (Try.bits_Mul 1 n (by omega) (by omega) w).mono ?_
    rintro e w' ⟨rfl, rfl⟩
    rw [Nat.one_mul, Nat.mod_eq_of_lt (by omega), Nat.div_eq_of_lt (by omega)]
    exact ⟨rfl, rfl⟩
  obtain ⟨cs, hrun, hle, hmax⟩ := Lib.run_makeNoZero (P := Try.prog) w #[3] 42 5 Try.underlying42 n (by omega)
  have hcall : (callFunc 30 #[.int .i64 (n : Int)]).run Try.prog w = .ok (.value (.slice (some ⟨w.heap.size, 0, none⟩) n cs.size)) (w.drew.drew.alloc (.cells cs 5)) := by
    rw [run_callFunc_extern Try.func30 (by kernel_rfl) (by kernel_rfl) (by kernel_rfl) (e := Extern.BytealgMakeNoZero.makeNoZero #[3] #[42]) (by kernel_rfl), hrun]
    rfl
  have HC := Lib.hid C
  have hg0 : ((w.alloc (.cells cs 5)).drew.drew).heap[w.heap.size]? = some (.cells cs.toList.toArray 5 (0, 0)) := by
    rw [Array.toArray_toList]; exact Go.heap_alloc_new w _
  have hsrc : ((w.alloc (.cells cs 5)).drew.drew).cell? ⟨b, o, none⟩ = some (byV x) := keep_cell hc0 ((Below.refl _ _).alloc (Nat.le_refl _) _).drew.drew
  have hrc := run_copy_row (P := Try.prog) ((w.alloc (.cells cs 5)).drew.drew) 42 42 3 5 w.heap.size 0 n n ⟨b, o, none⟩ 1 cap cs 5 [byV x] Try.underlying42 (by kernel_rfl) (by rw [hg0, Array.toArray_toList]) (show 1 = Nat.min 1 n from (Nat.min_eq_left h1).symm)
    (fun j u hu => by
      cases j with
      | zero => simp at hu; subst hu; exact hsrc
      | succ j => simp at hu) (by simp; omega) (fun u hu => by simp at hu; subst hu; rfl)
  obtain ⟨W1, hW1⟩ : ∃ W1, (Builtin.copy_ #[42, 42] 3 #[.slice (some ⟨w.heap.size, 0, none⟩) n n, .slice (some ⟨b, o, none⟩) 1 cap]).run Try.prog ((w.alloc (.cells cs 5)).drew.drew) = .ok (goInt 1) W1 ∧ Hid (∃ zs : List Value, (List.replicate 1 (byV x) ++ zs).length = cs.size ∧ W1.heap[w.heap.size]? = some (.cells (List.replicate 1 (byV x) ++ zs).toArray 5 (0, 0))) ∧ Hid (Below w.heap.size w W1) := by
    refine ⟨_, hrc, ⟨cs.toList.drop 1, by simp; omega, ?_⟩, below_setRow (((Below.refl _ _).alloc (Nat.le_refl _) _).drew.drew) (Nat.le_refl _) _⟩
    rw [setRow_heap _ _ _ _ _ _ hg0]
    simp
  obtain ⟨hcp, HZ, HBW⟩ := hW1
  have HMX : Hid (n ≤ cs.size ∧ cs.size ≤ maxLen) := ⟨hle, hmax (by unfold maxLen; omega)⟩
  have hleI : (n : Int) ≤ cs.size := by omega
  clear C hv hc hrc hsrc hg0 hrun hmax hR
  go_enter Try.func17, Try.ntmps17
  go_wp2_with (go_at_call 29; refine (HC.out _).mono ?_; rintro e w' ⟨rfl, rfl⟩)
  clear hcp hcall
  go_loopw [10, 11] (fun t _ wr => ∃ bp : Nat, 1 ≤ bp ∧ bp ≤ n ∧ t = .int .i64 bp ∧ Hid (∃ zs : List Value, (List.replicate bp (byV x) ++ zs).length = cs.size ∧ wr.heap[w.heap.size]? = some (.cells (List.replicate bp (byV x) ++ zs).toArray 5 (0, 0))) ∧ Hid (Below w.heap.size w wr)) (fun t _ _ => n - (intOf t).toNat)
  case atStart => exact ⟨1, Nat.le_refl _, h1, rfl, HZ, HBW⟩
  case round =>
    obtain ⟨bp, hbp1, hbpn, rfl, HZ, HBW⟩ := hrel
    obtain ⟨wi, hwi⟩ : ∃ wi, wi = wr := ⟨_, rfl⟩
    subst hwi
    by_cases hlt : bp < n
    · have hltI : (bp : Int) < n := by omega
      have hb0 : (0 : Int) ≤ bp := by omega
      have hmin : min (bp : Int) (n : Int) = bp := by omega
      have hne : ¬ n = bp := by omega
      go_wp2
      obtain ⟨zs, hl, hg⟩ := HZ.out
      obtain ⟨m, hm⟩ : ∃ m, m = Nat.min bp (n - bp) := ⟨_, rfl⟩
      have hm1 : 1 ≤ m ∧ m ≤ bp ∧ bp + m ≤ n := by
        have : m = min bp (n - bp) := hm
        omega
      have c1 : Hid ((List.replicate m (byV x)).length = Nat.min bp (n - bp)) := by show _ = _; rw [List.length_replicate]; exact hm
      have c2 : Hid (∀ (j : Nat) u, (List.replicate m (byV x))[j]? = some u → wi.drew.cell? ((⟨w.heap.size, 0, none⟩ : Addr).add j) = some u) := fun j u hu => by
        rw [add_here, Nat.zero_add]
        show wi.cell? _ = _
        rw [cell_of_row wi _ j _ _ _ hg]
        have hj : j < m := by have := (List.getElem?_eq_some_iff.1 hu).1; simpa using this
        have hu' : u = byV x := by
          simp [List.getElem?_replicate] at hu
          exact hu.2.symm
        rw [hu', List.getElem?_toArray, List.getElem?_append_left (by rw [List.length_replicate]; omega), List.getElem?_replicate, if_pos (by omega)]
      have c3 : Hid (bp + (List.replicate m (byV x)).length ≤ (List.replicate bp (byV x) ++ zs).length) := by show _ ≤ _; have := HMX.out; rw [hl, List.length_replicate]; omega
      have c4 : Hid (∀ u ∈ List.replicate m (byV x), u.oneCell' = true) := by intro u hu; rw [List.eq_of_mem_replicate hu]; rfl
      have c5 : Hid (Below w.heap.size w wi.drew) := HBW.out.drew
      have HGG : Hid (wi.drew.heap[w.heap.size]? = some (.cells (List.replicate bp (byV x) ++ zs).toArray 5 (0, 0))) := hg
      have HLL := Lib.hid hl
      have hwrap : IntKind.i64.wrap ((bp : Int) + (m : Int)) = (bp : Int) + (m : Int) := by rw [IntKind.wrap_i64]; omega
      clear hm hg hl
      go_region_held3 (fun _ => True) (exact trivial) ((refine step_copy_splice rfl (.tmp 70) (.tmp 73) 42 42 rfl 5 Try.underlying42 (by kernel_rfl) _ _ _ _ _ _ (by rfl) (by rfl) w.heap.size bp (List.replicate bp (byV x) ++ zs) 5 HGG.out (List.replicate m (byV x)) c1.out (fun _ => ⟨rfl, _, rfl, c2.out⟩) c3.out c4.out w.heap.size w c5.out (Nat.le_refl _) ?_; intro W3 hw3 hb3))
      have hl := HLL.out
      clear hwrap hmin
      have HZ3 : Hid (∃ zs : List Value, (List.replicate (bp + m) (byV x) ++ zs).length = cs.size ∧ W3.heap[w.heap.size]? = some (.cells (List.replicate (bp + m) (byV x) ++ zs).toArray 5 (0, 0))) := by
        have := hw3.out
        rw [splice_rep] at this
        refine ⟨_, ?_, this⟩
        rw [List.length_append, List.length_replicate, List.length_drop]
        rw [List.length_append, List.length_replicate] at hl
        have := HMX.out
        omega
      rw [List.length_replicate]
      have HB3 := Lib.hid hb3
      clear hw3 hb3 hl HZ
      have hmI : (bp : Int) + (m : Int) ≤ n := by omega
      have hm0 : (0 : Int) ≤ m := by omega
      unfold goInt
      go_wp2
      go_roundw
      case rel => exact ⟨bp + m, by omega, by omega, by go_num, HZ3, HB3⟩
      case measure => simp [intOf]; omega
    · obtain rfl : bp = n := by omega
      obtain ⟨zs, hl, hg⟩ := HZ.out
      have HFIN : Hid (PgB wi (.slice (some ⟨w.heap.size, 0, none⟩) bp bp) (List.replicate bp x)) := by
        refine ⟨w.heap.size, bp, _, by rw [List.length_replicate], hg, by rw [List.length_replicate]; exact Nat.le_refl _, by unfold maxLen; omega, ?_⟩
        rw [List.length_replicate, List.toList_toArray, List.take_append_of_le_length (by rw [List.length_replicate]; exact Nat.le_refl _), List.take_of_length_le (by rw [List.length_replicate]; exact Nat.le_refl _)]
        unfold cellsB
        rw [List.map_replicate]
      clear hg hl
      go_wp2
      go_ret
      exact ⟨_, rfl, HFIN.out, HBW.out⟩
end Go.Proofs.Ytilgppijmkcomaa.Chip
