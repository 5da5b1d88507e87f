/- The document's own ReadKey of layer 2. -/
import Derived.Test.YtlokhhochhajmaaDoorRefSplit
import Derived.Test.YtlokhhochhajmaaDoorReadKey
import Derived.Test.YtlokhhochhajmaaDoorQuietTail
namespace Go.Proofs.YtlokhhochhajmaaDoor
open Go.RowKit Go.Sort
attribute [local go_sem ↓] loadVar_key loadVar_pre storeVar_key storeVar_pre

/-- What is known at the head of a round: the key that goes out, the key that is laid, the pieces. -/
structure RKInv (w wr : World) (g : Nat) (ps : List (List UInt8)) (K : Nat → Nat) : Prop where
  below : Below w.heap.size w wr
  out : wr.heap[w.heap.size]? = some (.cells (kc zkey) 23 (0, 0))
  key : wr.heap[w.heap.size + 1]? = some (.cells (kc K) 23 (0, 0))
  cells : ∀ i p, ps[i]? = some p → wr.cell? ⟨g, i, none⟩ = some (.string (bs p))
  far : w.heap.size + 2 ≤ g
  lt : g < wr.heap.size

theorem RKInv.later {w wr w1 : World} {g : Nat} {ps : List (List UInt8)} {K : Nat → Nat} (h : RKInv w wr g ps K) (hb : Below wr.heap.size wr w1) : RKInv w w1 g ps K :=
  ⟨h.below.trans (hb.mono h.below.size), by rw [hb.block _ (by have := h.far; have := h.lt; omega)]; exact h.out, by rw [hb.block _ (by have := h.far; have := h.lt; omega)]; exact h.key, fun i p hp => by rw [hb.cell (p := ⟨g, i, none⟩) h.lt]; exact h.cells i p hp, h.far, Nat.lt_of_lt_of_le h.lt hb.size⟩

theorem RKInv.set {w wr : World} {g : Nat} {ps : List (List UInt8)} {K K' : Nat → Nat} {i v : Nat} (h : RKInv w wr g ps K) (hK : ∀ j, K' j = if j = i then v else K j) : RKInv w (wr.setCell ⟨w.heap.size + 1, i, none⟩ (.int .u8 (v : Nat))) g ps K' := by
  have hf := h.far
  refine ⟨h.below.setCell (by simp) _, by rw [heap_setCell_other _ _ _ _ (by simp)]; exact h.out, ?_, fun j p hp => ?_, hf, by simpa using h.lt⟩
  · rw [heap_setCell_same wr _ _ _ _ _ h.key, kc_set, kc_ext (b := K') fun j _ => (hK j).symm]
  · rw [World.cell?_of_block (w := wr) (a := ⟨g, j, none⟩) (heap_setCell_other _ _ _ _ (show g ≠ w.heap.size + 1 by omega))]
    exact h.cells j p hp

theorem RKInv.outKey {w wr : World} {g : Nat} {ps : List (List UInt8)} {K : Nat → Nat} (h : RKInv w wr g ps K) : OutKey w wr := ⟨h.below, h.out⟩
theorem RKInv.read {w wr : World} {g : Nat} {ps : List (List UInt8)} {K : Nat → Nat} (h : RKInv w wr g ps K) : (keyLoad ⟨w.heap.size + 1, 0, none⟩).run Tryd.prog wr = .ok (.agg (kc K)) wr :=
  run_keyLoad (fun j v hj => by rw [cell_of_row _ _ _ _ _ _ h.key]; simpa using hj)
theorem RKInv.cell {w wr : World} {g : Nat} {ps : List (List UInt8)} {K : Nat → Nat} (h : RKInv w wr g ps K) {i : Nat} (hi : i < 16) : wr.cell? ⟨w.heap.size + 1, i, none⟩ = some (.int .u8 (K i : Nat)) := by
  rw [cell_of_row wr _ _ _ _ _ h.key, kc_at _ _ hi]
theorem RKInv.free {w wr : World} {g : Nat} {ps : List (List UInt8)} {K : Nat → Nat} (h : RKInv w wr g ps K) (i : Nat) : wr.frozen? ⟨w.heap.size + 1, i, none⟩ = false := frozen_of_row wr _ _ _ _ h.key

theorem rk_start {w w1 : World} {g : Nat} {ps : List (List UInt8)} (hb : Below (w.heap.size + 2) ((w.alloc (.cells (kc zkey) 23)).alloc (.cells (kc zkey) 23)) w1)
    (hc : ∀ i p, ps[i]? = some p → w1.cell? ⟨g, i, none⟩ = some (.string (bs p))) (hf : w.heap.size + 2 ≤ g) (hg : g < w1.heap.size) : RKInv w w1 g ps zkey := by
  have hb0 : Below w.heap.size w ((w.alloc (.cells (kc zkey) 23)).alloc (.cells (kc zkey) 23)) := ((Below.refl _ _).alloc (Nat.le_refl _) _).alloc (by simp) _
  exact ⟨hb0.trans (hb.mono (by omega)), by rw [hb.block _ (by omega), heap_alloc2_old], by rw [hb.block _ (by omega), heap_alloc2_new], hc, hf, hg⟩

theorem digit_below (c : UInt8) (w : World) :
    Calls Tryd.prog 32 #[.int .u8 c.toNat] w fun e w' => e = .returned (.int .i64 (hexV c)) ∧ Below w.heap.size w w' :=
  (digit_any c w).mono fun _ _ ⟨he, hw⟩ => ⟨he, by rw [hw]; exact Below.refl _ _⟩

/-- Split at a sign that stands as a number. -/
theorem rsplit_at (x : Int) (c : UInt8) (hx : x = c.toNat) (l : List UInt8) (w : World) (hl : l.length ≤ 60) :
    Calls Tryd.prog 29 #[.string (bs l), .int .u8 x] w (SplitPost c l w) := by
  subst hx; exact rsplit_any c l w hl

theorem rnumber_at (x : Int) (most : Nat) (hx : x = most) (s : List UInt8) (w : World) (hm : most ≤ 65535) (hl : s.length < 1000000) :
    Calls Tryd.prog 30 #[.string (bs s), .int .i64 x] w fun e w' => e = .returned (.int .i64 (numZ most s)) ∧ Below w.heap.size w w' := by
  subst hx; exact (rnumber_any s most w hm hl).mono fun _ _ ⟨he, hw⟩ => ⟨he, by rw [hw]; exact Below.refl _ _⟩
theorem rnumber_same (x : Int) (most : Nat) (hx : x = most) (s : List UInt8) (w : World) (hm : most ≤ 65535) (hl : s.length < 1000000) :
    Calls Tryd.prog 30 #[.string (bs s), .int .i64 x] w fun e w' => e = .returned (.int .i64 (numZ most s)) ∧ w = w' := by
  subst hx; exact rnumber_any s most w hm hl

theorem mem_of_four {c : UInt8} {s : List UInt8} (h : (pieces c s).length = 4) : c ∈ s := by
  by_cases e : c ∈ s
  · exact e
  · rw [pieces_none e] at h; cases h

/-- Where there are not four pieces, a key is read as a wide one. -/
theorem readKey_wide {s : List UInt8} (h : (pieces 46 s).length ≠ 4) : (match readKeyT s with
  | some k => Value.tuple #[.agg (kc k), .int .i64 (keyBits s), .int .i64 0]
  | none => .tuple #[.agg (kc zkey), .int .i64 0, .int .i64 2]) = match readWide s with
  | some k => Value.tuple #[.agg (kc k), .int .i64 128, .int .i64 0]
  | none => .tuple #[.agg (kc zkey), .int .i64 0, .int .i64 2] := by
  unfold readKeyT keyBits
  by_cases e : (46 : UInt8) ∈ s
  · rw [if_pos e, if_pos e]
    have h1 : readShort s = none := by unfold readShort; rw [if_neg (fun g => h g.1)]
    have h2 : readWide s = none := by
      unfold readWide
      rw [if_neg]
      rintro ⟨g1, g2⟩
      obtain ⟨i, hi⟩ := List.mem_iff_getElem?.1 e
      have hlt : i < 32 := by
        rcases Nat.lt_or_ge i 32 with a | a
        · exact a
        · rw [List.getElem?_eq_none (by omega)] at hi; cases hi
      have := upTo_iff.1 g2 i hlt
      unfold wideIs at this
      rw [List.getD_eq_getElem?_getD, hi] at this
      revert this
      decide
    rw [h1, h2]
  · rw [if_neg e, if_neg e]

theorem readKeyV_short {s : List UInt8} (h60 : ¬ 60 < s.length) (h4 : (pieces 46 s).length = 4) : readKeyV s = if upTo 4 (shortIs (pieces 46 s)) = true then .tuple #[.agg (kc (shortPart (pieces 46 s) 4)), .int .i64 32, .int .i64 0] else .tuple #[.agg (kc zkey), .int .i64 0, .int .i64 2] := by
  unfold readKeyV
  rw [if_neg h60]
  unfold readKeyT keyBits readShort
  rw [if_pos (mem_of_four h4), if_pos (mem_of_four h4)]
  by_cases e : upTo 4 (shortIs (pieces 46 s)) = true
  · rw [if_pos ⟨h4, e⟩, if_pos e]
  · rw [if_neg (fun g => e g.2), if_neg e]

theorem readKeyV_wide {s : List UInt8} (h60 : ¬ 60 < s.length) (h4 : (pieces 46 s).length ≠ 4) : readKeyV s = if s.length = 32 ∧ upTo 32 (wideIs s) = true then .tuple #[.agg (kc (wideKey s)), .int .i64 128, .int .i64 0] else .tuple #[.agg (kc zkey), .int .i64 0, .int .i64 2] := by
  unfold readKeyV
  rw [if_neg h60]
  refine (readKey_wide h4).trans ?_
  unfold readWide
  by_cases e : s.length = 32 ∧ upTo 32 (wideIs s) = true
  · rw [if_pos e, if_pos e]
  · rw [if_neg e, if_neg e]

theorem widePart_step (s : List UInt8) (i j : Nat) : widePart s (2 * (i + 1)) j = if j = i then 16 * wideHalf s (2 * i) + wideHalf s (2 * i + 1) else widePart s (2 * i) j := by
  unfold widePart
  by_cases e : j = i
  · rw [if_pos e, e, if_pos (by omega)]
  · rw [if_neg e]
    by_cases h : 2 * j + 1 < 2 * i
    · rw [if_pos h, if_pos (by omega)]
    · rw [if_neg h, if_neg (show ¬ 2 * j < 2 * i by omega), if_neg (show ¬ 2 * j + 1 < 2 * (i + 1) by omega), if_neg (show ¬ 2 * j < 2 * (i + 1) by omega)]
theorem shortPart_step (ps : List (List UInt8)) (i j : Nat) : shortPart ps (i + 1) j = if j = i then shortVal ps i else shortPart ps i j := by
  unfold shortPart
  by_cases e : j = i
  · rw [if_pos e, e, if_pos (by omega)]
  · rw [if_neg e]
    by_cases h : j < i
    · rw [if_pos h, if_pos (by omega)]
    · rw [if_neg h, if_neg (by omega)]

set_option maxHeartbeats 1000000 in
set_option maxRecDepth 100000 in
theorem rrkey_long (s : List UInt8) (w : World) (hs : s.length < 1000000) (h60 : 60 < s.length) :
    Calls Tryd.prog 18 #[.string (bs s)] w fun e w' => e = .returned (readKeyV s) ∧ Below w.heap.size w w' := by
  have hz := zkey_lit
  have O0 := outKey_new w
  have hsz := bs_size s
  have hsI : (s.length : Int) < 1000000 := by omega
  have h60' : (60 : Int) < s.length := by omega
  have HR : Hid (readKeyV s = .tuple #[.agg (kc zkey), .int .i64 0, .int .i64 3]) := by show _ = _; unfold readKeyV; rw [if_pos h60]
  have S2 := O0.store zkey
  have L2 := O0.load zkey
  have D2 := O0.done zkey
  clear O0
  go_enter Tryd.func18, Tryd.ntmps18
  go_wp2
  exact bodyPost_ret (v := .tuple #[.agg (kc zkey), .int .i64 0, .int .i64 3]) (results_row_tmp2 rfl _ _ _ _ rfl rfl rfl L2) rfl ⟨by rw [HR.out], D2⟩

set_option maxHeartbeats 4000000 in
set_option maxRecDepth 100000 in
theorem rrkey_short (s : List UInt8) (w : World) (h60 : ¬ 60 < s.length) (h4 : (pieces 46 s).length = 4) :
    Calls Tryd.prog 18 #[.string (bs s)] w fun e w' => e = .returned (readKeyV s) ∧ Below w.heap.size w w' := by
  have hsz := bs_size s
  have hsI : (s.length : Int) < 1000000 := by omega
  have h60' : ¬ (60 : Int) < s.length := by omega
  have C := rsplit_at 46 46 rfl s ((w.alloc (.cells (kc zkey) 23)).alloc (.cells (kc zkey) 23)) (by omega)
  have hR := readKeyV_short h60 h4
  have hpl : ∀ p ∈ pieces 46 s, p.length < 1000000 := fun p hp => Nat.lt_of_le_of_lt (pieces_le _ _ _ hp) (by omega)
  unfold SplitPost at C
  generalize pieces 46 s = ps at *
  have h4' : ((ps.length : Int) == 4) = true := by rw [beq_iff_eq]; omega
  have HC := Lib.hid C
  have HR := Lib.hid hR
  have H4 := Lib.hid h4
  have hz := zkey_lit
  clear C hR h4
  go_enter Tryd.func18, Tryd.ntmps18
  go_wp2_with fail
  (with_reducible refine HC.out.mono ?_)
  rintro e w1 ⟨g, cap, rfl, hcells, hf, hlt, hb⟩
  have inv : RKInv w w1 g ps (shortPart ps 0) := by
    have := rk_start (by simpa using hb) hcells (by simpa using hf) hlt
    rwa [show shortPart ps 0 = zkey from funext fun j => by unfold shortPart; rw [if_neg (by omega)]; rfl]
  clear hcells hf hlt hb HC hz
  go_wp2
  have h4I : (ps.length : Int) = 4 := by rw [H4.out]; rfl
  simp only [h4I]
  clear h4' h4I
  go_loopw [7] (fun t wr => ∃ i : Nat, i ≤ 4 ∧ t = .int .i64 i ∧ RKInv w wr g ps (shortPart ps i) ∧ upTo i (shortIs ps) = true) (fun t _ => 4 - (intOf t).toNat)
  case atStart => exact ⟨0, Nat.zero_le _, rfl, inv, rfl⟩
  case round =>
    clear inv
    obtain ⟨i, hi, rfl, inv, hall⟩ := hrel
    by_cases hlt : i < 4
    · have hlt' : (i : Int) < 4 := by omega
      have hltp : i < ps.length := by rw [H4.out]; exact hlt
      obtain ⟨p, hpi⟩ : ∃ p, ps[i]? = some p := ⟨ps[i]'(by rw [H4.out]; exact hlt), List.getElem?_eq_getElem _⟩
      have hget : ps.getD i [] = p := by rw [List.getD_eq_getElem?_getD, hpi]; rfl
      have c1 := inv.cells i p hpi
      have C := rnumber_at 255 255 rfl p wr (by decide) (hpl p (List.mem_of_getElem? hpi))
      cases hn : readNum 255 p with
      | some n =>
        rw [show numZ 255 p = (n : Int) by unfold numZ; rw [hn]] at C
        have hval : shortVal ps i = n := by unfold shortVal; rw [hget, hn]; rfl
        have his : upTo (i + 1) (shortIs ps) = true := upTo_iff.2 fun j hj => by
          by_cases e : j = i
          · subst e; unfold shortIs; rw [hget, hn]; rfl
          · exact upTo_iff.1 hall j (by omega)
        have hn255 : n < 256 := by have := (readNum_is hn).2; omega
        have hnI : (n : Int) < 256 := by omega
        have HC := Lib.hid C
        have HV := Lib.hid hval
        have HI := Lib.hid inv
        clear C hn hpi hget hval hall inv hpl
        go_wp2_with fail
        (with_reducible refine HC.out.mono ?_)
        rintro e w2 ⟨rfl, h2⟩
        have inv2 := HI.out.later h2
        have f1 := inv2.free i
        have d1 := inv2.cell (i := i) (by omega)
        have HI3 : Hid (RKInv w (w2.setCell ⟨w.heap.size + 1, i, none⟩ (.int .u8 (n : Nat))) g ps (shortPart ps (i + 1))) := inv2.set fun j => by rw [shortPart_step, HV.out]
        clear inv2 c1 h2 h60 h60' hsI hltp
        have hn0 : ¬ (n : Int) < 0 := by omega
        go_wp2
        go_roundw
        case rel => exact ⟨i + 1, by omega, by go_num, HI3.out, his⟩
        case measure => simp [intOf]; omega
      | none =>
        rw [show numZ 255 p = -1 by unfold numZ; rw [hn]] at C
        have HR2 : Hid (readKeyV s = .tuple #[.agg (kc zkey), .int .i64 0, .int .i64 2]) := by
          show _ = _
          rw [HR.out, if_neg (fun h => ?_)]
          have := upTo_iff.1 h i hlt
          unfold shortIs at this
          rw [hget, hn] at this
          cases this
        have HC := Lib.hid C
        have HI := Lib.hid inv
        clear C hn hpi hget hall inv hpl
        go_wp2_with fail
        (with_reducible refine HC.out.mono ?_)
        rintro e w2 ⟨rfl, h2⟩
        have O2 := (HI.out.later h2).outKey
        have S2 := O2.store zkey
        have L2 := O2.load zkey
        have D2 := O2.done zkey
        have hz := zkey_lit
        clear O2 c1 h2
        go_wp2
        exact bodyPost_ret (v := .tuple #[.agg (kc zkey), .int .i64 0, .int .i64 2]) (results_row_tmp2 rfl _ _ _ _ rfl rfl rfl L2) rfl ⟨by rw [HR2.out], D2⟩
    · obtain rfl : i = 4 := by omega
      have HR2 : Hid (readKeyV s = .tuple #[.agg (kc (shortPart ps 4)), .int .i64 32, .int .i64 0]) := by show _ = _; rw [HR.out, if_pos hall]
      have L0 := inv.read
      have S2 := inv.outKey.store (shortPart ps 4)
      have L2 := inv.outKey.load (shortPart ps 4)
      have D2 := inv.outKey.done (shortPart ps 4)
      clear inv hall hpl
      go_wp2
      exact bodyPost_ret (v := .tuple #[.agg (kc (shortPart ps 4)), .int .i64 32, .int .i64 0]) (results_row_tmp2 rfl _ _ _ _ rfl rfl rfl L2) rfl ⟨by rw [HR2.out], D2⟩

set_option maxHeartbeats 4000000 in
set_option maxRecDepth 100000 in
theorem rrkey_wide (s : List UInt8) (w : World) (h60 : ¬ 60 < s.length) (h4 : (pieces 46 s).length ≠ 4) :
    Calls Tryd.prog 18 #[.string (bs s)] w fun e w' => e = .returned (readKeyV s) ∧ Below w.heap.size w w' := by
  have hsz := bs_size s
  have hsI : (s.length : Int) < 1000000 := by omega
  have h60' : ¬ (60 : Int) < s.length := by omega
  have C := rsplit_at 46 46 rfl s ((w.alloc (.cells (kc zkey) 23)).alloc (.cells (kc zkey) 23)) (by omega)
  have hR := readKeyV_wide h60 h4
  unfold SplitPost at C
  generalize pieces 46 s = ps at *
  have h4' : ((ps.length : Int) == 4) = false := by rw [beq_eq_false_iff_ne]; omega
  have HC := Lib.hid C
  have HR := Lib.hid hR
  have hz := zkey_lit
  clear C hR h4
  by_cases h32 : s.length = 32
  · have h32' : ((s.length : Int) != 32) = false := by rw [bne_eq_false_iff_eq]; omega
    have H4 := Lib.hid h32
    clear h32
    go_enter Tryd.func18, Tryd.ntmps18
    go_wp2_with fail
    (with_reducible refine HC.out.mono ?_)
    rintro e w1 ⟨g, cap, rfl, hcells, hf, hlt, hb⟩
    have inv : RKInv w w1 g ps (widePart s (2 * 0)) := by
      have := rk_start (by simpa using hb) hcells (by simpa using hf) hlt
      rwa [show widePart s (2 * 0) = zkey from funext fun j => by unfold widePart; rw [if_neg (by omega), if_neg (by omega)]; rfl]
    clear hcells hf hlt hb HC hz
    go_wp2
    clear h4' h32' hsI h60' h60
    go_loopw [9] (fun t wr => ∃ i : Nat, i ≤ 16 ∧ t = .int .i64 i ∧ RKInv w wr g ps (widePart s (2 * i)) ∧ upTo (2 * i) (wideIs s) = true) (fun t _ => 16 - (intOf t).toNat)
    case atStart => exact ⟨0, Nat.zero_le _, rfl, inv, rfl⟩
    case round =>
      clear inv
      obtain ⟨i, hi, rfl, inv, hall⟩ := hrel
      by_cases hlt : i < 16
      · have hlt' : (i : Int) < 16 := by omega
        have at' : ∀ j, j < 32 → ∃ c, s.getD j 0 = c ∧ (∀ h, (bs s)[j]'h = c) ∧ j < (bs s).size := fun j hj => by
          have hj2 : j < s.length := by rw [H4.out]; exact hj
          refine ⟨s[j], ?_, fun h => ?_, by rw [bs_size]; exact hj2⟩
          · rw [List.getD_eq_getElem?_getD, List.getElem?_eq_getElem hj2]; rfl
          · show s.toArray[j]'(by simpa using hj2) = _
            simp
        obtain ⟨i2, hi2⟩ : ∃ i2 : Nat, i2 = 2 * i := ⟨_, rfl⟩
        obtain ⟨i3, hi3⟩ : ∃ i3 : Nat, i3 = 2 * i + 1 := ⟨_, rfl⟩
        obtain ⟨c, hget, hg, hz1⟩ := at' i2 (by omega)
        obtain ⟨d, hget2, hg2, hz2⟩ := at' i3 (by omega)
        have m1 : 2 * (i : Int) = i2 := by omega
        have m2 : (i2 : Int) + 1 = i3 := by omega
        have m3 : (i2 : Int) < 1000 := by omega
        have N0 := fun d' os => Calls.regrown_of (digit_below c (grow (redrawn wr d') os))
        have N1 := fun d' os => Calls.regrown_of (digit_below d (grow (redrawn wr d') os))
        obtain ⟨x, hx⟩ : ∃ x, x = hexV c := ⟨_, rfl⟩
        obtain ⟨y, hy⟩ : ∃ y, y = hexV d := ⟨_, rfl⟩
        have hxr := hexV_is c
        have hyr := hexV_is d
        rw [← hx] at N0 hxr
        rw [← hy] at N1 hyr
        have hi2b : i2 < 32 := by omega
        have hi3b : i3 < 32 := by omega
        have HI := Lib.hid inv
        have HA := Lib.hid hall
        have HX := Lib.hid hx
        have HY := Lib.hid hy
        have HG := Lib.hid hget
        have HG2 := Lib.hid hget2
        have H2 := Lib.hid hi2
        have H3 := Lib.hid hi3
        have HXR := Lib.hid hxr
        have HYR := Lib.hid hyr
        clear inv hall hx hy hget hget2 at' hi2 hi3 hxr hyr
        go_wp2
        refine wp_region_quiet_below (by kernel_rfl) (by kernel_rfl) ?_
        repeat (go_big_quiet_step ((with_reducible first | exact N0 _ _ | exact N1 _ _)))
        refine wpQuiet_nil fun w5 hw5 => ?_
        have inv2 : RKInv w w5 g ps (widePart s (2 * i)) := by
          obtain ⟨p, rfl⟩ := hw5
          exact HI.out.later (below_regrown wr p.d p.os)
        clear hw5 N0 N1
        by_cases hx0 : x < 0
        · have HR2 : Hid (readKeyV s = .tuple #[.agg (kc zkey), .int .i64 0, .int .i64 2]) := by
            show _ = _
            rw [HR.out, if_neg (fun h => ?_)]
            have := upTo_iff.1 h.2 i2 (by omega)
            unfold wideIs at this
            rw [HG.out, ← HX.out] at this
            simp at this
            omega
          have S2 := inv2.outKey.store zkey
          have L2 := inv2.outKey.load zkey
          have D2 := inv2.outKey.done zkey
          have hz := zkey_lit
          clear inv2 m1 m2
          go_wp2
          exact bodyPost_ret (v := .tuple #[.agg (kc zkey), .int .i64 0, .int .i64 2]) (results_row_tmp2 rfl _ _ _ _ rfl rfl rfl L2) rfl ⟨by rw [HR2.out], D2⟩
        · by_cases hy0 : y < 0
          · have HR2 : Hid (readKeyV s = .tuple #[.agg (kc zkey), .int .i64 0, .int .i64 2]) := by
              show _ = _
              rw [HR.out, if_neg (fun h => ?_)]
              have := upTo_iff.1 h.2 i3 (by omega)
              unfold wideIs at this
              rw [HG2.out, ← HY.out] at this
              simp at this
              omega
            have S2 := inv2.outKey.store zkey
            have L2 := inv2.outKey.load zkey
            have D2 := inv2.outKey.done zkey
            have hz := zkey_lit
            clear inv2 m1 m2
            go_wp2
            exact bodyPost_ret (v := .tuple #[.agg (kc zkey), .int .i64 0, .int .i64 2]) (results_row_tmp2 rfl _ _ _ _ rfl rfl rfl L2) rfl ⟨by rw [HR2.out], D2⟩
          · obtain ⟨a, ha⟩ : ∃ a : Nat, x = a := ⟨x.toNat, by omega⟩
            obtain ⟨b, hb⟩ : ∃ b : Nat, y = b := ⟨y.toNat, by omega⟩
            subst ha hb
            have ha16 : (a : Int) < 16 := HXR.out.2.1
            have hb16 : (b : Int) < 16 := HYR.out.2.1
            obtain ⟨v, hv⟩ : ∃ v : Nat, v = 16 * a + b := ⟨_, rfl⟩
            have m4 : 16 * (a : Int) + (b : Int) = v := by omega
            have m5 : (v : Int) < 256 := by omega
            have his : upTo (2 * (i + 1)) (wideIs s) = true := upTo_iff.2 fun j hj => by
              have h2 := H2.out
              have h3 := H3.out
              by_cases e : j < 2 * i
              · exact upTo_iff.1 HA.out j e
              · by_cases e2 : j = i2
                · subst e2; unfold wideIs; rw [HG.out, ← HX.out]; simp
                · obtain rfl : j = i3 := by omega
                  unfold wideIs; rw [HG2.out, ← HY.out]; simp
            have f1 := inv2.free i
            have d1 := inv2.cell (i := i) (by omega)
            have HI3 : Hid (RKInv w (w5.setCell ⟨w.heap.size + 1, i, none⟩ (.int .u8 (v : Nat))) g ps (widePart s (2 * (i + 1)))) := inv2.set fun j => by
              have h2 := H2.out
              have h3 := H3.out
              rw [widePart_step, ← h3, ← h2]
              have e1 : wideHalf s i2 = a := by unfold wideHalf hexN; rw [HG.out, ← HX.out, Int.toNat_natCast]
              have e2 : wideHalf s i3 = b := by unfold wideHalf hexN; rw [HG2.out, ← HY.out, Int.toNat_natCast]
              rw [e1, e2, hv]
            have HS := Lib.hid his
            clear inv2 hv m1 m2 his
            go_wp2
            go_roundw
            case rel => exact ⟨i + 1, by omega, by go_num, HI3.out, HS.out⟩
            case measure => simp [intOf]; omega
      · obtain rfl : i = 16 := by omega
        have HK : Hid (kc (wideKey s) = kc (widePart s (2 * 16))) := by show _ = _; exact kc_ext fun j hj => by unfold wideKey; rw [if_pos hj]
        have HR2 : Hid (readKeyV s = .tuple #[.agg (kc (widePart s (2 * 16))), .int .i64 128, .int .i64 0]) := by show _ = _; rw [HR.out, if_pos ⟨H4.out, hall⟩, HK.out]
        have L0 := inv.read
        have S2 := inv.outKey.store (widePart s (2 * 16))
        have L2 := inv.outKey.load (widePart s (2 * 16))
        have D2 := inv.outKey.done (widePart s (2 * 16))
        clear inv hall
        generalize widePart s (2 * 16) = K at *
        go_wp2
        exact bodyPost_ret (v := .tuple #[.agg (kc K), .int .i64 128, .int .i64 0]) (results_row_tmp2 rfl _ _ _ _ rfl rfl rfl L2) rfl ⟨by rw [HR2.out], D2⟩
  · have h32' : ((s.length : Int) != 32) = true := by rw [bne_iff_ne]; omega
    have HR2 : Hid (readKeyV s = .tuple #[.agg (kc zkey), .int .i64 0, .int .i64 2]) := by show _ = _; rw [HR.out, if_neg (fun h => h32 h.1)]
    clear h32
    go_enter Tryd.func18, Tryd.ntmps18
    go_wp2_with fail
    (with_reducible refine HC.out.mono ?_)
    rintro e w1 ⟨g, cap, rfl, hcells, hf, hlt, hb⟩
    have inv : RKInv w w1 g ps zkey := rk_start (by simpa using hb) hcells (by simpa using hf) hlt
    have S2 := inv.outKey.store zkey
    have L2 := inv.outKey.load zkey
    have D2 := inv.outKey.done zkey
    clear hcells hf hlt hb HC inv
    go_wp2
    exact bodyPost_ret (v := .tuple #[.agg (kc zkey), .int .i64 0, .int .i64 2]) (results_row_tmp2 rfl _ _ _ _ rfl rfl rfl L2) rfl ⟨by rw [HR2.out], D2⟩

theorem rrkey_any (s : List UInt8) (w : World) (hs : s.length < 1000000) :
    Calls Tryd.prog 18 #[.string (bs s)] w fun e w' => e = .returned (readKeyV s) ∧ Below w.heap.size w w' := by
  by_cases h60 : 60 < s.length
  · exact rrkey_long s w hs h60
  · by_cases h4 : (pieces 46 s).length = 4
    · exact rrkey_short s w h60 h4
    · exact rrkey_wide s w h60 h4

end Go.Proofs.YtlokhhochhajmaaDoor
