/- The walk of the statement RouteRight of layer 2. -/
import Derived.Test.YtlokhhochhajmaaDoorRouteAwake
import Derived.Test.YtlokhhochhajmaaDoorRouteEq
import Derived.Test.YtlokhhochhajmaaDoorRefTell
import Derived.Test.YtlokhhochhajmaaDoorRefLine
import Derived.Test.YtlokhhochhajmaaDoorKeyOpen
namespace Go.Proofs.YtlokhhochhajmaaDoor
open Go.RowKit Go.Sort
attribute [local go_sem ↓] loadVar_key loadVar_pre storeVar_key storeVar_pre build_pre loadVar_route storeVar_route build_route

namespace routeRight

theorem lineR_is (p : Pre) (n : Nat) : ∃ (A : List UInt8) (e : Int), lineR p n = .tuple #[.string (bs A), .int .i64 e] := by
  unfold lineR
  cases h : mayB p <;> exact ⟨_, _, rfl⟩
theorem preR_is (p : Pre) : ∃ (A : List UInt8) (e : Int), preR p = .tuple #[.string (bs A), .int .i64 e] := by
  unfold preR
  cases h : mayB p <;> exact ⟨_, _, rfl⟩
theorem keyR_is (k : Nat → Nat) (bits : Int) : ∃ (A : List UInt8) (e : Int), keyR k bits = .tuple #[.string (bs A), .int .i64 e] := by
  unfold keyR
  cases h : keyOk k bits <;> exact ⟨_, _, rfl⟩
theorem readLineV_is (s : List UInt8) : ∃ (p : Pre) (n : Nat) (e : Int), readLineV s = .tuple #[.agg (rc p n), .int .i64 e] := by
  unfold readLineV
  split
  · exact ⟨_, _, _, rfl⟩
  · cases readLineT s with
    | none => exact ⟨_, _, _, rfl⟩
    | some x => exact ⟨x.1, x.2, 0, rfl⟩
theorem readPreV_is (s : List UInt8) : ∃ (p : Pre) (e : Int), readPreV s = .tuple #[.agg (pc p), .int .i64 e] := by
  unfold readPreV
  split
  · exact ⟨_, _, rfl⟩
  · cases readPreT s with
    | none => exact ⟨_, _, rfl⟩
    | some x => exact ⟨_, _, rfl⟩
theorem readKeyV_is (s : List UInt8) : ∃ (k : Nat → Nat) (b e : Int), readKeyV s = .tuple #[.agg (kc k), .int .i64 b, .int .i64 e] := by
  unfold readKeyV
  split
  · exact ⟨_, _, _, rfl⟩
  · cases readKeyT s with
    | none => exact ⟨_, _, _, rfl⟩
    | some x => exact ⟨_, _, _, rfl⟩

/-- A route and a key that came in, in blocks of their own. -/
structure InRt (w : World) (B : Nat) (p : Pre) (n : Nat) (k : Nat → Nat) : Prop where
  lr : (routeLoad ⟨B, 0, none⟩).run Tryd.prog w = .ok (.agg (rc p n)) w
  lp : (preLoad ⟨B, 0, none⟩).run Tryd.prog w = .ok (.agg (pc p)) w
  lk : (keyLoad ⟨B + 1, 0, none⟩).run Tryd.prog w = .ok (.agg (kc k)) w

set_option maxHeartbeats 8000000 in
set_option maxRecDepth 100000 in
theorem walk_of (p : Pre) (n : Nat) (k : Nat → Nat) (bits : Int) (L : List UInt8) (w : World) (hp : Bytes16 p.key) (hk : Bytes16 k) (hn : n < 65536) (hL : L.length ≤ 9223372036854775807) (h : Env w) :
    Calls Tryd.prog 3 #[.agg (rc p n), .agg (kc k), .int .i64 bits, .string (bs L)] w fun e w' => e = .returned (.bool true) ∧ Below w.heap.size w w' := by
  have b0 : Below w.heap.size w ((w.alloc (.cells (rc p n) 28)).alloc (.cells (kc k) 23)) := ((Below.refl _ _).alloc (Nat.le_refl _) _).alloc (by simp) _
  have r0 : RowAt ((w.alloc (.cells (rc p n) 28)).alloc (.cells (kc k) 23)) w.heap.size 0 (rc p n) := (rowAt_new w (rc p n) _).below (B := w.heap.size + 1) ((Below.refl _ _).alloc (by simp) _) (by omega)
  have q0 : RowAt ((w.alloc (.cells (rc p n) 28)).alloc (.cells (kc k) 23)) (w.heap.size + 1) 0 (kc k) := by simpa using rowAt_new (w.alloc (.cells (rc p n) 28)) (kc k) 23
  have hz0 : ((w.alloc (.cells (rc p n) 28)).alloc (.cells (kc k) 23)).heap.size = w.heap.size + 2 := by simp
  have E0 := (h.alloc (.cells (rc p n) 28)).alloc (.cells (kc k) 23)
  have C0 := Lib.hid (fun w (h : Env w) => awake_any w h)
  obtain ⟨A1, e1, h1⟩ := lineR_is p n
  obtain ⟨A2, e2, h2⟩ := preR_is p
  obtain ⟨A3, e3, h3⟩ := keyR_is k bits
  have C1 := fun w (h : Env w) => tellLine_any p n w hp hn h
  have D1 := fun w => rtellLine_any p n w hp hn
  have C2 := fun w (h : Env w) => tellPrefix_any p w hp h
  have D2 := fun w => rtellPrefix_any p w hp
  have C3 := fun w (h : Env w) => tellKey_any k bits w hk h
  have D3 := fun w => rtellKey_any k bits w hk
  rw [h1] at C1 D1
  rw [h2] at C2 D2
  rw [h3] at C3 D3
  obtain ⟨l, hl⟩ : ∃ l, l = L.take 200 := ⟨_, rfl⟩
  have hll : l.length < 1000000 := by rw [hl]; simp; omega
  have hx : (bs L).extract 0 (min (L.length : Int) 200).toNat = bs l := by
    refine WideShapes.bytes_inj ?_
    rw [Lib.extract_from_zero, bs_list, bs_list, hl]
    by_cases g : L.length ≤ 200
    · rw [show (min (L.length : Int) 200).toNat = L.length by omega, List.take_length, List.take_of_length_le g]
    · rw [show (min (L.length : Int) 200).toNat = 200 by omega]
  obtain ⟨p4, n4, e4, h4⟩ := readLineV_is l
  obtain ⟨p5, e5, h5⟩ := readPreV_is l
  obtain ⟨k6, b6, e6, h6⟩ := readKeyV_is l
  have C4 := fun w (h : Env w) => readLine_any l w h hll
  have D4 := fun w => rrline_any l w hll
  have C5 := fun w (h : Env w) => readPre_any l w h hll
  have D5 := fun w => rrpre_any l w hll
  have C6 := fun w (h : Env w) => readKey_any l w h hll
  have D6 := fun w => rrkey_any l w hll
  rw [h4] at C4 D4
  rw [h5] at C5 D5
  rw [h6] at C6 D6
  have C1 := Lib.hid C1
  have D1 := Lib.hid D1
  have C2 := Lib.hid C2
  have D2 := Lib.hid D2
  have C3 := Lib.hid C3
  have D3 := Lib.hid D3
  have C4 := Lib.hid C4
  have D4 := Lib.hid D4
  have C5 := Lib.hid C5
  have D5 := Lib.hid D5
  have C6 := Lib.hid C6
  have D6 := Lib.hid D6
  have hz := routeZ_lit
  have hzk := zkey_lit
  have hzp := preZ_lit
  have hsz := bs_size L
  have hLI : (L.length : Int) ≤ 9223372036854775807 := by omega
  obtain ⟨W0, hW0⟩ : ∃ W0, W0 = (w.alloc (.cells (rc p n) 28)).alloc (.cells (kc k) 23) := ⟨_, rfl⟩
  rw [← hW0] at b0 r0 q0 hz0 E0
  have HT := Lib.hid (fun w1 (h : Below W0.heap.size W0 w1) => (⟨run_routeLoad (r0.below h (by omega)), run_preLoad (r0.pre.below h (by omega)), run_keyLoad (q0.below h (by omega))⟩ : InRt w1 w.heap.size p n k))
  have HW := Lib.hid hW0
  have HB0 := Lib.hid b0
  clear hW0 r0 q0 hz0 h hl h1 h2 h3 h4 h5 h6 hll b0
  go_enter Tryd.func3, Tryd.ntmps3
  go_wp2_with fail
  rw [← HW.out]
  (with_reducible refine (C0.out _ E0).mono ?_)
  rintro e w1 ⟨rfl, h1⟩
  have E1 := E0.stay h1 (Nat.le_refl _)
  clear E0
  have HI := HT.out w1 h1
  have l1 := HI.lr
  go_wp2_with fail
  clear l1 HI
  (with_reducible refine (C1.out _ E1).mono ?_)
  rintro e w2 ⟨rfl, g1⟩
  have E2 := E1.stay g1 (Nat.le_refl _)
  have h2 := h1.trans (g1.mono h1.size)
  clear g1 h1 E1
  have HI := HT.out w2 h2
  have l2 := HI.lr
  go_wp2_with fail
  clear l2 HI
  (with_reducible refine (D1.out _).mono ?_)
  rintro e w3 ⟨rfl, g2⟩
  have E3 := E2.stay g2 (Nat.le_refl _)
  have h3 := h2.trans (g2.mono h2.size)
  clear g2 h2 E2
  have HI := HT.out w3 h3
  have l3 := HI.lp
  go_wp2_with fail
  clear l3 HI
  (with_reducible refine (C2.out _ E3).mono ?_)
  rintro e w4 ⟨rfl, g3⟩
  have E4 := E3.stay g3 (Nat.le_refl _)
  have h4 := h3.trans (g3.mono h3.size)
  clear g3 h3 E3
  have HI := HT.out w4 h4
  have l4 := HI.lp
  go_wp2_with fail
  clear l4 HI
  (with_reducible refine (D2.out _).mono ?_)
  rintro e w5 ⟨rfl, g4⟩
  have E5 := E4.stay g4 (Nat.le_refl _)
  have h5 := h4.trans (g4.mono h4.size)
  clear g4 h4 E4
  have HI := HT.out w5 h5
  have l5 := HI.lk
  go_wp2_with fail
  clear l5 HI
  (with_reducible refine (C3.out _ E5).mono ?_)
  rintro e w6 ⟨rfl, g5⟩
  have E6 := E5.stay g5 (Nat.le_refl _)
  have h6 := h5.trans (g5.mono h5.size)
  clear g5 h5 E5
  have HI := HT.out w6 h6
  have l6 := HI.lk
  go_wp2_with fail
  clear l6 HI
  (with_reducible refine (D3.out _).mono ?_)
  rintro e w7 ⟨rfl, g6⟩
  have E7 := E6.stay g6 (Nat.le_refl _)
  have h7 := h6.trans (g6.mono h6.size)
  clear g6 h6 E6
  have HI := HT.out w7 h7
  clear HI HT C0 C1 C2 C3 D1 D2 D3
  go_wp2_with fail
  (with_reducible refine (C4.out _ E7).mono ?_)
  rintro e w8 ⟨rfl, g7⟩
  have E8 := (E7.stay g7 (Nat.le_refl _)).alloc (.cells (rc p4 n4) 28)
  have h8 := (h7.trans (g7.mono h7.size)).alloc (h7.trans (g7.mono h7.size)).size (.cells (rc p4 n4) 28)
  have S1 := route_laid w8 p4 n4
  have r1 := rowAt_new w8 (rc p4 n4) 28
  have z1 : w8.heap.size < (w8.alloc (.cells (rc p4 n4) 28)).heap.size := by simp
  clear g7 h7 E7 C4
  go_wp2_with fail
  clear S1
  generalize w8.alloc (.cells (rc p4 n4) 28) = V4 at *
  generalize w8.heap.size = a4 at *
  (with_reducible refine (D4.out _).mono ?_)
  rintro e w9 ⟨rfl, g8⟩
  have E9 := (E8.stay g8 (Nat.le_refl _)).alloc (.cells (rc p4 n4) 28)
  have h9 := (h8.trans (g8.mono h8.size)).alloc (h8.trans (g8.mono h8.size)).size (.cells (rc p4 n4) 28)
  have S1 := route_laid w9 p4 n4
  have L1 := run_routeLoad ((r1.below g8 z1).below ((Below.refl w9.heap.size w9).alloc (Nat.le_refl _) (.cells (rc p4 n4) 28)) (Nat.lt_of_lt_of_le z1 g8.size))
  have L2 := run_routeLoad (rowAt_new w9 (rc p4 n4) 28)
  have Q4 := fun w => run_eqRoute p4 p4 n4 n4 w
  rw [routeEq_refl] at Q4
  clear g8 h8 E8 r1 z1 D4
  go_wp2_with fail
  clear S1 L1 L2 Q4
  generalize w9.alloc (.cells (rc p4 n4) 28) = U4 at *
  generalize w9.heap.size = c4 at *
  (with_reducible refine (C5.out _ E9).mono ?_)
  rintro e w10 ⟨rfl, g9⟩
  have E10 := (E9.stay g9 (Nat.le_refl _)).alloc (.cells (pc p5) 25)
  have h10 := (h9.trans (g9.mono h9.size)).alloc (h9.trans (g9.mono h9.size)).size (.cells (pc p5) 25)
  have S1 := pre_laid w10 p5
  have r1 := rowAt_new w10 (pc p5) 25
  have z1 : w10.heap.size < (w10.alloc (.cells (pc p5) 25)).heap.size := by simp
  clear g9 h9 E9 C5
  go_wp2_with fail
  clear S1
  generalize w10.alloc (.cells (pc p5) 25) = V5 at *
  generalize w10.heap.size = a5 at *
  (with_reducible refine (D5.out _).mono ?_)
  rintro e w11 ⟨rfl, g10⟩
  have E11 := (E10.stay g10 (Nat.le_refl _)).alloc (.cells (pc p5) 25)
  have h11 := (h10.trans (g10.mono h10.size)).alloc (h10.trans (g10.mono h10.size)).size (.cells (pc p5) 25)
  have S1 := pre_laid w11 p5
  have L1 := run_preLoad ((r1.below g10 z1).below ((Below.refl w11.heap.size w11).alloc (Nat.le_refl _) (.cells (pc p5) 25)) (Nat.lt_of_lt_of_le z1 g10.size))
  have L2 := run_preLoad (rowAt_new w11 (pc p5) 25)
  have Q5 := fun w => run_equalPre 9996 p5 p5 w
  rw [preEq_refl] at Q5
  clear g10 h10 E10 r1 z1 D5
  go_wp2_with fail
  clear S1 L1 L2 Q5
  generalize w11.alloc (.cells (pc p5) 25) = U5 at *
  generalize w11.heap.size = c5 at *
  (with_reducible refine (C6.out _ E11).mono ?_)
  rintro e w12 ⟨rfl, g11⟩
  have E12 := (E11.stay g11 (Nat.le_refl _)).alloc (.cells (kc k6) 23)
  have h12 := (h11.trans (g11.mono h11.size)).alloc (h11.trans (g11.mono h11.size)).size (.cells (kc k6) 23)
  have S1 := key_laid w12 k6
  have r1 := rowAt_new w12 (kc k6) 23
  have z1 : w12.heap.size < (w12.alloc (.cells (kc k6) 23)).heap.size := by simp
  clear g11 h11 E11 C6
  go_wp2_with fail
  clear S1
  generalize w12.alloc (.cells (kc k6) 23) = V6 at *
  generalize w12.heap.size = a6 at *
  (with_reducible refine (D6.out _).mono ?_)
  rintro e w13 ⟨rfl, g12⟩
  have E13 := (E12.stay g12 (Nat.le_refl _)).alloc (.cells (kc k6) 23)
  have h13 := (h12.trans (g12.mono h12.size)).alloc (h12.trans (g12.mono h12.size)).size (.cells (kc k6) 23)
  have S1 := key_laid w13 k6
  have L1 := run_keyLoad ((r1.below g12 z1).below ((Below.refl w13.heap.size w13).alloc (Nat.le_refl _) (.cells (kc k6) 23)) (Nat.lt_of_lt_of_le z1 g12.size))
  have L2 := run_keyLoad (rowAt_new w13 (kc k6) 23)
  have Q6 := fun w => run_eqKey_top k6 k6 w
  rw [show keyEq k6 k6 = true by simp [keyEq]] at Q6
  clear g12 h12 E12 r1 z1 D6
  have hfin := HB0.out.trans (h13.mono HB0.out.size)
  clear E13 h13
  go_wp2
  go_ret
  exact ⟨rfl, hfin⟩

theorem walk (p : Pre) (n : Nat) (k : Nat → Nat) (bits : Int) (s : ByteArray) (hp : Bytes16 p.key) (_ : I64 p.bits) (_ : I64 p.len) (hn : n < 65536) (hk : Bytes16 k) (_ : (Lit.int .i64 bits).wf = true) (hs : s.size ≤ maxLen) (w : World) (h : Env w) :
    Calls Tryd.prog 3 #[.agg (rc p n), .agg (kc k), .int .i64 bits, .string s] w fun e w' => e = .returned (.bool true) ∧ Below w.heap.size w w' := by
  rw [← bs_of s]
  unfold maxLen at hs
  exact walk_of p n k bits s.data.toList w hp hk hn (by rw [Array.length_toList]; exact hs) h

end routeRight
end Go.Proofs.YtlokhhochhajmaaDoor
