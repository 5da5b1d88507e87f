/- route.readShort: four numbers with points between. -/
import Derived.Test.YtpjojbiiceedjaaDoorReadNum
import Derived.Test.YtpjojbiiceedjaaDoorTextRead
import Derived.Test.YtpjojbiiceedjaaDoorKeyPreEq
import Derived.Test.YtpjojbiiceedjaaDoorRes
namespace Go.Proofs.YtpjojbiiceedjaaDoor.Rr
open Go.RowKit Go.Sort
attribute [local go_sem ↓] loadVar_key loadVar_pre storeVar_key storeVar_pre

/-- What is known at the head of a round: the key that goes out, the pieces, the key that is laid. -/
structure ShortInv (w wr : World) (ps : List (List UInt8)) (i : Nat) : Prop where
  below : Below w.heap.size w wr
  size : w.heap.size + 3 ≤ wr.heap.size
  out : wr.heap[w.heap.size]? = some (.cells (kc zkey) 27 (0, 0))
  row : wr.heap[w.heap.size + 1]? = some (.cells (ps.map fun p => Value.string (bs p)).toArray 9 (0, 0))
  key : wr.heap[w.heap.size + 1 + 1]? = some (.cells (kc (shortPart ps i)) 27 (0, 0))

theorem ShortInv.later {w wr w1 : World} {ps : List (List UInt8)} {i : Nat} (h : ShortInv w wr ps i) (hb : Below wr.heap.size wr w1) : ShortInv w w1 ps i :=
  ⟨h.below.trans (hb.mono h.below.size), Nat.le_trans h.size hb.size, by rw [hb.block _ (by have := h.size; omega)]; exact h.out, by rw [hb.block _ (by have := h.size; omega)]; exact h.row, by rw [hb.block _ (by have := h.size; omega)]; exact h.key⟩

theorem ShortInv.set {w wr : World} {ps : List (List UInt8)} {i : Nat} (h : ShortInv w wr ps i) : ShortInv w (wr.setCell ⟨w.heap.size + 1 + 1, i, none⟩ (.int .u8 (shortVal ps i : Nat))) ps (i + 1) := by
  refine ⟨h.below.setCell (by simp; omega) _, by simpa using h.size, by rw [heap_setCell_other _ _ _ _ (by simp; omega)]; exact h.out, by rw [heap_setCell_other _ _ _ _ (by simp)]; exact h.row, ?_⟩
  rw [heap_setCell_same wr _ _ _ _ _ h.key, kc_set, kc_ext fun j _ => ?_]
  unfold shortPart
  by_cases e : j = i
  · rw [if_pos e, if_pos (by omega), e]
  · rw [if_neg e]
    by_cases h2 : j < i
    · rw [if_pos h2, if_pos (by omega)]
    · rw [if_neg h2, if_neg (by omega)]

theorem zkey_lit : (#[Value.int IntKind.u8 0, Value.int IntKind.u8 0, Value.int IntKind.u8 0, Value.int IntKind.u8 0,
          Value.int IntKind.u8 0, Value.int IntKind.u8 0, Value.int IntKind.u8 0, Value.int IntKind.u8 0,
          Value.int IntKind.u8 0, Value.int IntKind.u8 0, Value.int IntKind.u8 0, Value.int IntKind.u8 0,
          Value.int IntKind.u8 0, Value.int IntKind.u8 0, Value.int IntKind.u8 0, Value.int IntKind.u8 0] : Array Value) = kc zkey := rfl

def keyV : Option (Nat → Nat) → Value
  | some k => .tuple #[.agg (kc k), .bool true]
  | none => .tuple #[.agg (kc zkey), .bool false]

set_option maxHeartbeats 4000000 in
set_option maxRecDepth 100000 in
theorem short_any (s : List UInt8) (w : World) (h : Env w) (hs : s.length < 1000000) :
    Calls Tryd.prog 59 #[.string (bs s)] w fun e w' => e = .returned (keyV (readShort s)) ∧ Below w.heap.size w w' := by
  have hE := h.alloc (.cells (kc zkey) 27)
  have hb0 : Below w.heap.size w (w.alloc (.cells (kc zkey) 27)) := (Below.refl _ _).alloc (Nat.le_refl _) _
  have C := split_text s 46 (by omega) (w.alloc (.cells (kc zkey) 27)) hE
  obtain ⟨ps, hps⟩ : ∃ ps, ps = pieces 46 s := ⟨_, rfl⟩
  have HS : Hid (readShort s = if ps.length = 4 ∧ upTo 4 (shortIs ps) = true then some (shortPart ps 4) else none) := by show _ = _; rw [hps]; rfl
  rw [← hps] at C
  have hpl : ∀ p ∈ ps, p.length < 1000000 := fun p hp => by rw [hps] at hp; exact Nat.lt_of_le_of_lt (pieces_le _ _ _ hp) hs
  have HC := Lib.hid C
  have HZ := Lib.hid zkey_lit
  clear C hps
  go_enter Tryd.func59, Tryd.ntmps59
  have hz := HZ.out
  go_wp2_with fail
  refine HC.out.mono ?_
  rintro e w1 ⟨rfl, hw1⟩
  obtain ⟨W, hW⟩ : ∃ W, W = w1 := ⟨_, rfl⟩
  have out : w1.heap[w.heap.size]? = some (.cells (kc zkey) 27 (0, 0)) := by rw [hw1, heap_alloc2_old]
  have row : w1.heap[w.heap.size + 1]? = some (.cells (ps.map fun p => Value.string (bs p)).toArray 9 (0, 0)) := by rw [hw1, heap_alloc2_new]
  have hz1 : w1.heap.size = w.heap.size + 2 := by rw [hw1]; simp
  have hb1 : Below w.heap.size w w1 := by rw [hw1]; exact hb0.alloc (by simp) _
  have hE1 : Env w1 := by rw [hw1]; exact hE.alloc _
  have HP := Lib.hid hz1
  clear hw1 hz1 hb0 hE hW W HC
  by_cases h4 : ps.length = 4
  · have h4' : ((ps.length : Int) != 4) = false := by rw [bne_eq_false_iff_eq]; omega
    have H4 := Lib.hid h4
    have inv : ShortInv w (w1.alloc (.cells (kc zkey) 27)) ps 0 := by
      have hz1 := HP.out
      refine ⟨hb1.alloc (by omega) _, by simp; omega, by rw [heap_alloc_old _ _ (by omega)]; exact out, by rw [heap_alloc_old _ _ (by omega)]; exact row, ?_⟩
      rw [show w.heap.size + 1 + 1 = w1.heap.size by omega, heap_alloc_new, kc_ext (a := shortPart ps 0) (b := zkey) fun j _ => by unfold shortPart; rw [if_neg (by omega)]; rfl]
    have e2 : w1.heap.size = w.heap.size + 1 + 1 := by rw [HP.out]
    have hE2 := hE1.alloc (.cells (kc zkey) 27)
    clear h4 out row hb1 hE1
    go_wp2
    generalize w1.alloc (.cells (kc zkey) 27) = W at *
    have h4I : (ps.length : Int) = 4 := by rw [H4.out]; rfl
    simp only [h4I]
    clear h4' h4I e2 hz
    go_loopw [18] (fun t wr => ∃ i : Nat, i ≤ 4 ∧ t = .int .i64 i ∧ ShortInv w wr ps i ∧ upTo i (shortIs ps) = true) (fun t _ => 4 - (intOf t).toNat)
    case atStart => exact ⟨0, Nat.zero_le _, rfl, inv, rfl⟩
    case round =>
      clear inv
      obtain ⟨i, hi, rfl, inv, hall⟩ := hrel
      by_cases hlt : i < 4
      · have hlt' : (i : Int) < 4 := by omega
        have hltp : i < ps.length := by rw [H4.out]; exact hlt
        obtain ⟨p, hpi⟩ : ∃ p, ps[i]? = some p := ⟨ps[i]'(by rw [H4.out]; exact hlt), List.getElem?_eq_getElem _⟩
        have hget : ps.getD i [] = p := by rw [List.getD_eq_getElem?_getD, hpi]; rfl
        have c1 : wr.cell? ⟨w.heap.size + 1, i, none⟩ = some (.string (bs p)) := by rw [cell_of_row wr _ _ _ _ _ inv.row]; simp [hpi]
        have C := number_any p 255 wr (by decide) (hpl p (List.mem_of_getElem? hpi))
        unfold numR at C
        cases hn : readNum 255 p with
        | some n =>
          rw [hn] at C
          have hval : shortVal ps i = n := by unfold shortVal; rw [hget, hn]; rfl
          have his : upTo (i + 1) (shortIs ps) = true := upTo_iff.2 fun j hj => by
            by_cases e : j = i
            · subst e; unfold shortIs; rw [hget, hn]; rfl
            · exact upTo_iff.1 hall j (by omega)
          have hn255 : n < 256 := by have := (readNum_is hn).2; omega
          have hnI : (n : Int) < 256 := by omega
          have HC := Lib.hid C
          have HV := Lib.hid hval
          have HI := Lib.hid inv
          clear C hn hpi hget hval hall inv
          go_wp2_with fail
          refine HC.out.mono ?_
          rintro e w2 ⟨rfl, h2⟩
          have inv2 := HI.out.later h2
          have f1 : w2.frozen? ⟨w.heap.size + 1 + 1, i, none⟩ = false := frozen_of_row w2 _ _ _ _ inv2.key
          have d1 : w2.cell? ⟨w.heap.size + 1 + 1, i, none⟩ = some (.int .u8 (shortPart ps i i : Nat)) := by rw [cell_of_row w2 _ _ _ _ _ inv2.key, kc_at _ _ (by omega)]
          have inv3 := inv2.set
          rw [HV.out] at inv3
          have HI3 := Lib.hid inv3
          clear inv2 inv3 c1
          unfold numV
          go_wp2
          go_roundw
          case rel => exact ⟨i + 1, by omega, by go_num, HI3.out, his⟩
          case measure => simp [intOf]; omega
        | none =>
          rw [hn] at C
          have HR : Hid (readShort s = none) := by
            show _ = _
            rw [HS.out, if_neg (fun h => ?_)]
            have := upTo_iff.1 h.2 i hlt
            unfold shortIs at this
            rw [hget, hn] at this
            cases this
          have HC := Lib.hid C
          have HI := Lib.hid inv
          clear C hn hpi hget hall inv
          go_wp2_with fail
          refine HC.out.mono ?_
          rintro e w2 ⟨rfl, h2⟩
          have inv2 := HI.out.later h2
          have S := run_keyStore (k := zkey) inv2.out (kc_size _)
          have m3 := setRow_heap _ _ (kc zkey) (kc zkey) _ _ inv2.out
          have hb3 := below_setRow inv2.below (Nat.le_refl w.heap.size) (kc zkey)
          have L := run_keyLoad (b := w.heap.size) (off := 0) (k := zkey) (w := w2.setRow w.heap.size (kc zkey)) (fun j v hj => by rw [cell_of_row _ _ _ _ _ _ m3]; simpa using hj)
          have hz := HZ.out
          clear inv2 m3 c1
          unfold numV
          go_wp2
          exact bodyPost_ret (v := .tuple #[.agg (kc zkey), .bool false]) (results_row_tmp rfl _ _ _ _ rfl rfl L) rfl ⟨by rw [HR.out]; rfl, hb3⟩
      · obtain rfl : i = 4 := by omega
        have HR : Hid (readShort s = some (shortPart ps 4)) := by show _ = _; rw [HS.out, if_pos ⟨H4.out, hall⟩]
        have L0 := run_keyLoad (b := w.heap.size + 1 + 1) (off := 0) (k := shortPart ps 4) (w := wr) (fun j v hj => by rw [cell_of_row _ _ _ _ _ _ inv.key]; simpa using hj)
        have S := run_keyStore (k := shortPart ps 4) inv.out (kc_size _)
        have m3 := setRow_heap _ _ (kc zkey) (kc (shortPart ps 4)) _ _ inv.out
        have hb3 := below_setRow inv.below (Nat.le_refl w.heap.size) (kc (shortPart ps 4))
        have L := run_keyLoad (b := w.heap.size) (off := 0) (k := shortPart ps 4) (w := wr.setRow w.heap.size (kc (shortPart ps 4))) (fun j v hj => by rw [cell_of_row _ _ _ _ _ _ m3]; simpa using hj)
        clear inv m3 hall
        go_wp2
        exact bodyPost_ret (v := .tuple #[.agg (kc (shortPart ps 4)), .bool true]) (results_row_tmp rfl _ _ _ _ rfl rfl L) rfl ⟨by rw [HR.out]; rfl, hb3⟩
  · have h4' : ((ps.length : Int) != 4) = true := by rw [bne_iff_ne]; omega
    have S := run_keyStore (k := zkey) out (kc_size _)
    have m3 := setRow_heap _ _ (kc zkey) (kc zkey) _ _ out
    have hb3 := below_setRow hb1 (Nat.le_refl w.heap.size) (kc zkey)
    have L := run_keyLoad (b := w.heap.size) (off := 0) (k := zkey) (w := w1.setRow w.heap.size (kc zkey)) (fun j v hj => by rw [cell_of_row _ _ _ _ _ _ m3]; simpa using hj)
    have HR : Hid (readShort s = none) := by show _ = _; rw [HS.out, if_neg (fun h => h4 h.1)]
    clear h4 out row hb1 m3
    go_wp2
    exact bodyPost_ret (v := .tuple #[.agg (kc zkey), .bool false]) (results_row_tmp rfl _ _ _ _ rfl rfl L) rfl ⟨by rw [HR.out]; rfl, hb3⟩

end Go.Proofs.YtpjojbiiceedjaaDoor.Rr
