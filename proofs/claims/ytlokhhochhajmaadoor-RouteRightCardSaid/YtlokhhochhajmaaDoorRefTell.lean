/- The document's own Key, Prefix and Line of layer 2 hand back what the program's do. -/
import Derived.Test.YtlokhhochhajmaaDoorRefNum
import Derived.Test.YtlokhhochhajmaaDoorRouteEq
namespace Go.Proofs.YtlokhhochhajmaaDoor
open Go.RowKit Go.Sort
attribute [local go_sem ↓] loadVar_key loadVar_pre storeVar_key storeVar_pre build_pre

theorem add_sign (a : List UInt8) (c : UInt8) (h : a.length ≤ 10000) (w : World) : (Op.stringOp .add (bs a) ⟨#[c]⟩).run Tryd.prog w = .ok (.string (bs (a ++ [c]))) w := add_text a [c] (by simp; omega) w

theorem rune_hex (x : Nat) (h : x < 16) (w : World) : (convert 21 9 (.int .i32 ((hexD x).toNat : Int))).run Tryd.prog w = .ok (.string (bs [hexD x])) w := by
  have h2 : x = 0 ∨ x = 1 ∨ x = 2 ∨ x = 3 ∨ x = 4 ∨ x = 5 ∨ x = 6 ∨ x = 7 ∨ x = 8 ∨ x = 9 ∨ x = 10 ∨ x = 11 ∨ x = 12 ∨ x = 13 ∨ x = 14 ∨ x = 15 := by omega
  rcases h2 with rfl | rfl | rfl | rfl | rfl | rfl | rfl | rfl | rfl | rfl | rfl | rfl | rfl | rfl | rfl | rfl <;> (refine Eq.trans ?_ rfl; kernel_rfl)

theorem may_is_key (k : Nat → Nat) (bits : Int) : mayB ⟨bits, bits, k⟩ = keyOk k bits := by
  unfold mayB keyOk
  by_cases h : bits = 32 ∨ bits = 128
  · have e1 : (bits == 32 || bits == 128) = true := by simpa using h
    have e2 : decide (0 ≤ bits) = true := by rw [decide_eq_true_iff]; omega
    have e3 : decide (bits ≤ bits) = true := by rw [decide_eq_true_iff]; omega
    rw [e1, e2, e3]; rfl
  · have e1 : (bits == 32 || bits == 128) = false := by simpa using h
    rw [e1]; rfl

set_option maxHeartbeats 2000000 in
set_option maxRecDepth 100000 in
theorem rtkey_no (k : Nat → Nat) (bits : Int) (w : World) (hk : Bytes16 k) (ho : keyOk k bits = false) :
    Calls Tryd.prog 12 #[.agg (kc k), .int .i64 bits] w fun e w' => e = .returned (.tuple #[.string (bs []), .int .i64 1]) ∧ Below w.heap.size w w' := by
  have hr := rowAt_new w (kc k) 23
  have hb : Below w.heap.size w (w.alloc (.cells (kc k) 23)) := (Below.refl _ _).alloc (Nat.le_refl _) _
  have L := run_keyLoad hr
  have B := fun w => run_preBuild bits bits k w
  have C := rmay_any ⟨bits, bits, k⟩ hk (w.alloc (.cells (kc k) 23))
  rw [may_is_key, ho] at C
  have HC := Lib.hid C
  clear C ho
  go_enter Tryd.func12, Tryd.ntmps12
  go_wp2_with fail
  (with_reducible refine HC.out.mono ?_)
  rintro e w1 ⟨rfl, h1⟩
  go_wp2
  go_ret2
  exact ⟨rfl, hb.trans (h1.mono hb.size)⟩

theorem tuple_text {a b : List UInt8} (h : a = b) : Ending.returned (.tuple #[.string (bs a), .int .i64 0]) = .returned (.tuple #[.string (bs b), .int .i64 0]) := by rw [h]

set_option maxHeartbeats 4000000 in
set_option maxRecDepth 100000 in
theorem rtkey_short (k : Nat → Nat) (w : World) (hk : Bytes16 k) (ho : keyOk k 32 = true) :
    Calls Tryd.prog 12 #[.agg (kc k), .int .i64 32] w fun e w' => e = .returned (.tuple #[.string (bs (shortT k)), .int .i64 0]) ∧ Below w.heap.size w w' := by
  have hr := rowAt_new w (kc k) 23
  have hb : Below w.heap.size w (w.alloc (.cells (kc k) 23)) := (Below.refl _ _).alloc (Nat.le_refl _) _
  have hz : w.heap.size < (w.alloc (.cells (kc k) 23)).heap.size := by simp
  have L := run_keyLoad hr
  have B := fun w => run_preBuild 32 32 k w
  have C := rmay_any ⟨32, 32, k⟩ hk (w.alloc (.cells (kc k) 23))
  rw [may_is_key, ho] at C
  have HC := Lib.hid C
  have HS : Hid (((((((Lib.decDigits (k 0) ++ [46]) ++ Lib.decDigits (k 1)) ++ [46]) ++ Lib.decDigits (k 2)) ++ [46]) ++ Lib.decDigits (k 3)) = shortT k) := by show _ = _; rw [shortT_is]; simp
  clear C ho
  go_enter Tryd.func12, Tryd.ntmps12
  go_wp2_with fail
  (with_reducible refine HC.out.mono ?_)
  rintro e w1 ⟨rfl, h1⟩
  have r1 := hr.below h1 hz
  have hb1 := hb.trans (h1.mono hb.size)
  clear L HC hr h1 B hz hb
  go_wp2
  have c0 := cell_regrown (r1 0 _ (kc_at k 0 (by decide)))
  have c1 := cell_regrown (r1 1 _ (kc_at k 1 (by decide)))
  have c2 := cell_regrown (r1 2 _ (kc_at k 2 (by decide)))
  have c3 := cell_regrown (r1 3 _ (kc_at k 3 (by decide)))
  have hd : ∀ i, (Lib.decDigits (k i)).length ≤ 3 := fun i => dec_length (k := 2) (Nat.lt_trans (hk i) (by decide))
  have N0 := fun d os => Calls.regrown_of (rnum_any (k 0) (k 0) (grow (redrawn w1 d) os) (Nat.le_refl _) (Nat.lt_trans (hk 0) (by decide)))
  have N1 := fun d os => Calls.regrown_of (rnum_any (k 1) (k 1) (grow (redrawn w1 d) os) (Nat.le_refl _) (Nat.lt_trans (hk 1) (by decide)))
  have N2 := fun d os => Calls.regrown_of (rnum_any (k 2) (k 2) (grow (redrawn w1 d) os) (Nat.le_refl _) (Nat.lt_trans (hk 2) (by decide)))
  have N3 := fun d os => Calls.regrown_of (rnum_any (k 3) (k 3) (grow (redrawn w1 d) os) (Nat.le_refl _) (Nat.lt_trans (hk 3) (by decide)))
  have x0 : (k 0 : Int) < 256 := by have := hk 0; omega
  have x1 : (k 1 : Int) < 256 := by have := hk 1; omega
  have x2 : (k 2 : Int) < 256 := by have := hk 2; omega
  have x3 : (k 3 : Int) < 256 := by have := hk 3; omega
  have hd0 := hd 0
  have hd1 := hd 1
  have hd2 := hd 2
  have hd3 := hd 3
  clear hd
  generalize Lib.decDigits (k 0) = d0 at *
  generalize Lib.decDigits (k 1) = d1 at *
  generalize Lib.decDigits (k 2) = d2 at *
  generalize Lib.decDigits (k 3) = d3 at *
  have f1 := fun w => add_sign d0 46 (by omega) w
  have f2 := fun w => add_text (d0 ++ [46]) d1 (by simp; omega) w
  have f3 := fun w => add_sign ((d0 ++ [46]) ++ d1) 46 (by simp; omega) w
  have f4 := fun w => add_text (((d0 ++ [46]) ++ d1) ++ [46]) d2 (by simp; omega) w
  have f5 := fun w => add_sign ((((d0 ++ [46]) ++ d1) ++ [46]) ++ d2) 46 (by simp; omega) w
  have f6 := fun w => add_text (((((d0 ++ [46]) ++ d1) ++ [46]) ++ d2) ++ [46]) d3 (by simp; omega) w
  generalize (((((d0 ++ [46]) ++ d1) ++ [46]) ++ d2) ++ [46]) ++ d3 = s7 at *
  generalize ((((d0 ++ [46]) ++ d1) ++ [46]) ++ d2) ++ [46] = s6 at *
  generalize (((d0 ++ [46]) ++ d1) ++ [46]) ++ d2 = s5 at *
  generalize ((d0 ++ [46]) ++ d1) ++ [46] = s4 at *
  generalize (d0 ++ [46]) ++ d1 = s3 at *
  generalize d0 ++ [46] = s2 at *
  have fin : ∀ w5, (∃ p : Regrown, w5 = grow (redrawn w1 p.d) p.os) → Below w.heap.size w w5 := by
    rintro w5 ⟨p, rfl⟩
    exact hb1.trans ((below_regrown w1 p.d p.os).mono hb1.size)
  have HG := Lib.hid fin
  clear fin hd0 hd1 hd2 hd3 r1
  refine wp_region_quiet_below (by kernel_rfl) (by kernel_rfl) ?_
  repeat (go_big_quiet_step ((with_reducible first | exact N0 _ _ | exact N1 _ _ | exact N2 _ _ | exact N3 _ _)))
  refine wpQuiet_nil fun w5 hw5 => ?_
  have hb5 := HG.out w5 hw5
  clear hw5 N0 N1 N2 N3 f1 f2 f3 f4 f5 f6 c0 c1 c2 c3
  go_wp2
  go_ret2
  exact ⟨tuple_text HS.out, hb5⟩

def wideTo (k : Nat → Nat) (i : Nat) : List UInt8 := (List.range i).map fun j => hexD (stepN k j)
theorem wideTo_next (k : Nat → Nat) (i : Nat) : wideTo k (i + 1) = wideTo k i ++ [hexD (stepN k i)] := by
  unfold wideTo; rw [List.range_succ, List.map_append]; rfl

set_option maxHeartbeats 4000000 in
set_option maxRecDepth 100000 in
theorem rtkey_wide (k : Nat → Nat) (w : World) (hk : Bytes16 k) (ho : keyOk k 128 = true) :
    Calls Tryd.prog 12 #[.agg (kc k), .int .i64 128] w fun e w' => e = .returned (.tuple #[.string (bs (wideT k)), .int .i64 0]) ∧ Below w.heap.size w w' := by
  have hr := rowAt_new w (kc k) 23
  have hb : Below w.heap.size w (w.alloc (.cells (kc k) 23)) := (Below.refl _ _).alloc (Nat.le_refl _) _
  have hz : w.heap.size < (w.alloc (.cells (kc k) 23)).heap.size := by simp
  have L := run_keyLoad hr
  have B := fun w => run_preBuild 128 128 k w
  have C := rmay_any ⟨128, 128, k⟩ hk (w.alloc (.cells (kc k) 23))
  rw [may_is_key, ho] at C
  have HC := Lib.hid C
  have HS : Hid (wideT k = wideTo k 32) := by show _ = _; rw [wideT_is]; rfl
  clear C ho
  go_enter Tryd.func12, Tryd.ntmps12
  go_wp2_with fail
  (with_reducible refine HC.out.mono ?_)
  rintro e w1 ⟨rfl, h1⟩
  have r1 := hr.below h1 hz
  have hb1 := hb.trans (h1.mono hb.size)
  have hz1 := Nat.lt_of_lt_of_le hz h1.size
  clear L HC hr h1 B hz hb
  go_wp2
  go_loopw [6, 7] (fun v t wr => ∃ i : Nat, i ≤ 32 ∧ t = .int .i64 i ∧ v = .string (bs (wideTo k i)) ∧ Below w1.heap.size w1 wr) (fun _ t _ => 32 - (intOf t).toNat)
  case atStart => exact ⟨0, Nat.zero_le _, rfl, rfl, Below.refl _ _⟩
  case round =>
    obtain ⟨i, hi, rfl, rfl, hwr⟩ := hrel
    by_cases hlt : i < 32
    · have hlt' : (i : Int) < 32 := by omega
      have L := run_keyLoad (r1.below hwr hz1)
      have C := rstep_any k i wr hk
      rw [stepZ_N k i hlt] at C
      obtain ⟨x, hx⟩ : ∃ x, x = stepN k i := ⟨_, rfl⟩
      have hx16 : x < 16 := by rw [hx]; exact stepN_lt hk i
      have hn := wideTo_next k i
      rw [← hx] at C hn
      have hlen : (wideTo k i).length ≤ 32 := by simp [wideTo]; omega
      have HX := Lib.hid hn
      have HC := Lib.hid C
      clear C hx hn
      go_wp2_with fail
      (with_reducible refine HC.out.mono ?_)
      rintro e w2 ⟨rfl, h2⟩
      have hw2 := hwr.trans (h2.mono hwr.size)
      have e1 := sixteen_at x hx16 w2
      have e2 := rune_hex x hx16 w2
      have e3 := add_text (wideTo k i) [hexD x] (by simp; omega) w2
      have hu : ((hexD x).toNat : Int) < 256 := by have := (hexD x).toNat_lt; omega
      clear L hlen
      go_wp2
      go_roundw
      case rel => exact ⟨i + 1, by omega, by go_num, by rw [HX.out], hw2⟩
      case measure => simp [intOf]; omega
    · obtain rfl : i = 32 := by omega
      go_wp2
      go_ret2
      exact ⟨tuple_text HS.out.symm, hb1.trans (hwr.mono hb1.size)⟩

theorem rtellKey_any (k : Nat → Nat) (bits : Int) (w : World) (hk : Bytes16 k) :
    Calls Tryd.prog 12 #[.agg (kc k), .int .i64 bits] w fun e w' => e = .returned (keyR k bits) ∧ Below w.heap.size w w' := by
  unfold keyR
  cases ho : keyOk k bits with
  | false => exact rtkey_no k bits w hk ho
  | true =>
    have hb : bits = 32 ∨ bits = 128 := by
      unfold keyOk at ho
      simp only [Bool.and_eq_true, Bool.or_eq_true, beq_iff_eq] at ho
      exact ho.1
    rcases hb with rfl | rfl
    · exact rtkey_short k w hk ho
    · exact rtkey_wide k w hk ho

set_option maxHeartbeats 2000000 in
set_option maxRecDepth 100000 in
theorem rtpre_no (p : Pre) (w : World) (hk : Bytes16 p.key) (hm : mayB p = false) :
    Calls Tryd.prog 10 #[.agg (pc p)] w fun e w' => e = .returned (.tuple #[.string (bs []), .int .i64 1]) ∧ Below w.heap.size w w' := by
  have hr := rowAt_new w (pc p) 25
  have hb : Below w.heap.size w (w.alloc (.cells (pc p) 25)) := (Below.refl _ _).alloc (Nat.le_refl _) _
  have L := run_preLoad hr
  have C := rmay_any p hk (w.alloc (.cells (pc p) 25))
  rw [hm] at C
  have HC := Lib.hid C
  clear C hm
  go_enter Tryd.func10, Tryd.ntmps10
  go_wp2_with fail
  (with_reducible refine HC.out.mono ?_)
  rintro e w1 ⟨rfl, h1⟩
  go_wp2
  go_ret2
  exact ⟨rfl, hb.trans (h1.mono hb.size)⟩

set_option maxHeartbeats 2000000 in
set_option maxRecDepth 100000 in
theorem rtpre_yes (p : Pre) (w : World) (hk : Bytes16 p.key) (hm : mayB p = true) :
    Calls Tryd.prog 10 #[.agg (pc p)] w fun e w' => e = .returned (.tuple #[.string (bs (preT p)), .int .i64 0]) ∧ Below w.heap.size w w' := by
  have hr := rowAt_new w (pc p) 25
  have hb : Below w.heap.size w (w.alloc (.cells (pc p) 25)) := (Below.refl _ _).alloc (Nat.le_refl _) _
  have hz : w.heap.size < (w.alloc (.cells (pc p) 25)).heap.size := by simp
  have L := run_preLoad hr
  have C := rmay_any p hk (w.alloc (.cells (pc p) 25))
  obtain ⟨m1, m2, m3, m4⟩ := may_key hk hm
  rw [hm] at C
  have HC := Lib.hid C
  obtain ⟨n, hn⟩ : ∃ n : Nat, p.len = n := ⟨p.len.toNat, by omega⟩
  have hn128 : n ≤ 128 := by omega
  have C2 := fun w => rtellKey_any p.key p.bits w hk
  unfold keyR at C2
  simp only [m1, if_true] at C2
  have H2 := Lib.hid C2
  have hlen := keyT_le hk p.bits
  have HS : Hid (preT p = (keyT p.key p.bits ++ [47]) ++ Lib.decDigits n) := by show _ = _; rw [preT_is, hn, Int.toNat_natCast]; simp
  have hd : (Lib.decDigits n).length ≤ 3 := dec_length (k := 2) (by omega)
  have C3 := Lib.hid (fun w => rnum_any n n w (Nat.le_refl _) (by omega))
  have HN := Lib.hid hn
  clear C C2 hm m1 m2 m3 m4 hn
  go_enter Tryd.func10, Tryd.ntmps10
  go_wp2_with fail
  (with_reducible refine HC.out.mono ?_)
  rintro e w1 ⟨rfl, h1⟩
  have r1 := hr.below h1 hz
  have hb1 := hb.trans (h1.mono hb.size)
  have hz1 := Nat.lt_of_lt_of_le hz h1.size
  have L1 := run_keyLoad r1.key
  have c1 := r1.bits
  simp only [Nat.zero_add] at L1
  clear L HC hr h1 hz hb
  go_wp2_with fail
  (with_reducible refine (H2.out _).mono ?_)
  rintro e w2 ⟨rfl, h2⟩
  have r2 := r1.below h2 hz1
  have hb2 := hb1.trans (h2.mono hb1.size)
  have c2 := r2.len
  rw [HN.out] at c2
  simp only [Nat.zero_add] at c2
  have f1 := fun w => add_sign (keyT p.key p.bits) 47 (by omega) w
  have f2 := fun w => add_text (keyT p.key p.bits ++ [47]) (Lib.decDigits n) (by simp; omega) w
  clear L1 c1 r1 h2 H2
  generalize keyT p.key p.bits ++ [47] = s2 at *
  generalize keyT p.key p.bits = s1 at *
  go_wp2_with fail
  (with_reducible refine (C3.out _).mono ?_)
  rintro e w3 ⟨rfl, h3⟩
  go_wp2
  go_ret2
  exact ⟨tuple_text HS.out.symm, hb2.trans (h3.mono hb2.size)⟩

theorem rtellPrefix_any (p : Pre) (w : World) (hk : Bytes16 p.key) :
    Calls Tryd.prog 10 #[.agg (pc p)] w fun e w' => e = .returned (preR p) ∧ Below w.heap.size w w' := by
  unfold preR
  cases hm : mayB p with
  | true => exact rtpre_yes p w hk hm
  | false => exact rtpre_no p w hk hm

set_option maxHeartbeats 1000000 in
set_option maxRecDepth 100000 in
theorem rtline_no (p : Pre) (hop : Nat) (w : World) (hk : Bytes16 p.key) (hm : mayB p = false) :
    Calls Tryd.prog 8 #[.agg (rc p hop)] w fun e w' => e = .returned (.tuple #[.string (bs []), .int .i64 1]) ∧ Below w.heap.size w w' := by
  have hr := rowAt_new w (rc p hop) 28
  have hb : Below w.heap.size w (w.alloc (.cells (rc p hop) 28)) := (Below.refl _ _).alloc (Nat.le_refl _) _
  have L := run_preLoad hr.pre
  have C := rtellPrefix_any p (w.alloc (.cells (rc p hop) 28)) hk
  unfold preR at C
  rw [hm] at C
  have HC := Lib.hid C
  clear C hm
  go_enter Tryd.func8, Tryd.ntmps8
  go_wp2_with fail
  (refine HC.out.mono ?_)
  rintro e w1 ⟨rfl, h1⟩
  go_wp2
  go_ret2
  exact ⟨rfl, hb.trans (h1.mono hb.size)⟩

set_option maxHeartbeats 2000000 in
set_option maxRecDepth 100000 in
theorem rtline_yes (p : Pre) (hop : Nat) (w : World) (hk : Bytes16 p.key) (hh : hop < 65536) (hm : mayB p = true) :
    Calls Tryd.prog 8 #[.agg (rc p hop)] w fun e w' => e = .returned (.tuple #[.string (bs (lineT p hop)), .int .i64 0]) ∧ Below w.heap.size w w' := by
  have hr := rowAt_new w (rc p hop) 28
  have hb : Below w.heap.size w (w.alloc (.cells (rc p hop) 28)) := (Below.refl _ _).alloc (Nat.le_refl _) _
  have L := run_preLoad hr.pre
  have C := rtellPrefix_any p (w.alloc (.cells (rc p hop) 28)) hk
  unfold preR at C
  rw [hm] at C
  have HC := Lib.hid C
  have hlen := preT_le hk hm
  have hz : w.heap.size < (w.alloc (.cells (rc p hop) 28)).heap.size := by simp
  have hhI : (hop : Int) < 65536 := by omega
  have hh0 : (0 : Int) ≤ hop := by omega
  have hd : (Lib.decDigits hop).length ≤ 5 := dec_length (k := 4) (by omega)
  have C3 := Lib.hid (fun w => rnum_any hop hop w (Nat.le_refl _) (by omega))
  have HS : Hid (lineT p hop = (preT p ++ [32]) ++ Lib.decDigits hop) := by show _ = _; rw [lineT_is]; simp
  clear C hm
  go_enter Tryd.func8, Tryd.ntmps8
  go_wp2_with fail
  (refine HC.out.mono ?_)
  rintro e w1 ⟨rfl, h1⟩
  have c1 := (hr.below h1 hz).hop
  simp only [Nat.zero_add] at c1
  have hb1 := hb.trans (h1.mono hb.size)
  have f1 := fun w => add_sign (preT p) 32 (by omega) w
  have f2 := fun w => add_text (preT p ++ [32]) (Lib.decDigits hop) (by simp; omega) w
  clear hr h1 L HC hz hb
  generalize preT p ++ [32] = s2 at *
  generalize preT p = s1 at *
  go_wp2_with fail
  (with_reducible refine (C3.out _).mono ?_)
  rintro e w2 ⟨rfl, h2⟩
  go_wp2
  go_ret2
  exact ⟨tuple_text HS.out.symm, hb1.trans (h2.mono hb1.size)⟩

theorem rtellLine_any (p : Pre) (hop : Nat) (w : World) (hk : Bytes16 p.key) (hh : hop < 65536) :
    Calls Tryd.prog 8 #[.agg (rc p hop)] w fun e w' => e = .returned (lineR p hop) ∧ Below w.heap.size w w' := by
  unfold lineR
  cases hm : mayB p with
  | true => exact rtline_yes p hop w hk hh hm
  | false => exact rtline_no p hop w hk hm

end Go.Proofs.YtlokhhochhajmaaDoor
