/- The walk of the statement RouteBack of layer 2. -/
import Derived.Test.YtlokhhochhajmaaDoorRouteAwake
import Derived.Test.YtlokhhochhajmaaDoorRouteEq
import Derived.Deep.Cut
import Derived.Test.YtlokhhochhajmaaDoorKeyOpen
namespace Go.Proofs.YtlokhhochhajmaaDoor
open Go.RowKit Go.Sort
attribute [local go_sem ↓] loadVar_key loadVar_pre storeVar_key storeVar_pre build_pre loadVar_route storeVar_route build_route

namespace routeBack

/-- What a text cut at two hundred bytes is read as, and told again. -/
structure LineWay (l : List UInt8) (p : Pre) (n : Nat) (err : Int) (t : List UInt8) (h : Int) : Prop where
  read : ∀ w, Env w → Calls Tryd.prog 13 #[.string (bs l)] w fun e w' => e = .returned (.tuple #[.agg (rc p n), .int .i64 err]) ∧ Below w.heap.size w w'
  tell : ∀ w, Env w → Calls Tryd.prog 7 #[.agg (rc p n)] w fun e w' => e = .returned (.tuple #[.string (bs t), .int .i64 h]) ∧ Below w.heap.size w w'

theorem lineWay (l : List UInt8) (hl : l.length < 1000000) : (∃ p n, LineWay l p n 0 l 0) ∨ ∃ err : Int, (err == 0) = false ∧ (err != 0) = true ∧ LineWay l preZ 0 err [] 1 := by
  by_cases h60 : 60 < l.length
  · refine .inr ⟨3, rfl, rfl, fun w h => ?_, fun w h => ?_⟩
    · have := readLine_any l w h hl
      unfold readLineV at this
      rwa [if_pos h60] at this
    · have := tellLine_any preZ 0 w (fun _ => Nat.zero_lt_succ _) (by decide) h
      unfold lineR at this
      rwa [mayB_zero] at this
  · cases hr : readLineT l with
    | none =>
      refine .inr ⟨2, rfl, rfl, fun w h => ?_, fun w h => ?_⟩
      · have := readLine_any l w h hl
        unfold readLineV at this
        rw [if_neg h60, hr] at this
        exact this
      · have := tellLine_any preZ 0 w (fun _ => Nat.zero_lt_succ _) (by decide) h
        unfold lineR at this
        rwa [mayB_zero] at this
    | some x =>
      obtain ⟨p, n⟩ := x
      obtain ⟨m1, m2, m3⟩ := line_forth hr
      have hk := readPreT_bytes (readLineT_of hr).1
      refine .inl ⟨p, n, fun w h => ?_, fun w h => ?_⟩
      · have := readLine_any l w h hl
        unfold readLineV at this
        rw [if_neg h60, hr] at this
        exact this
      · have := tellLine_any p n w hk m3 h
        unfold lineR at this
        rw [if_pos m1, m2] at this
        exact this

structure KeyWay (l : List UInt8) (k : Nat → Nat) (bits err : Int) (t : List UInt8) (h : Int) : Prop where
  read : ∀ w, Env w → Calls Tryd.prog 17 #[.string (bs l)] w fun e w' => e = .returned (.tuple #[.agg (kc k), .int .i64 bits, .int .i64 err]) ∧ Below w.heap.size w w'
  tell : ∀ w, Env w → Calls Tryd.prog 11 #[.agg (kc k), .int .i64 bits] w fun e w' => e = .returned (.tuple #[.string (bs t), .int .i64 h]) ∧ Below w.heap.size w w'

theorem keyWay (l : List UInt8) (hl : l.length < 1000000) : (∃ k bits, KeyWay l k bits 0 l 0) ∨ ∃ err : Int, (err == 0) = false ∧ (err != 0) = true ∧ KeyWay l zkey 0 err [] 1 := by
  have hz : ∀ w, Env w → Calls Tryd.prog 11 #[.agg (kc zkey), .int .i64 0] w fun e w' => e = .returned (.tuple #[.string (bs []), .int .i64 1]) ∧ Below w.heap.size w w' := fun w h => by
    have := tellKey_any zkey 0 w (fun _ => Nat.zero_lt_succ _) h
    unfold keyR at this
    rwa [keyOk_zero] at this
  by_cases h60 : 60 < l.length
  · refine .inr ⟨3, rfl, rfl, fun w h => ?_, hz⟩
    have := readKey_any l w h hl
    unfold readKeyV at this
    rwa [if_pos h60] at this
  · cases hr : readKeyT l with
    | none =>
      refine .inr ⟨2, rfl, rfl, fun w h => ?_, hz⟩
      have := readKey_any l w h hl
      unfold readKeyV at this
      rw [if_neg h60, hr] at this
      exact this
    | some k =>
      obtain ⟨m1, m2⟩ := key_forth hr
      refine .inl ⟨k, keyBits l, fun w h => ?_, fun w h => ?_⟩
      · have := readKey_any l w h hl
        unfold readKeyV at this
        rw [if_neg h60, hr] at this
        exact this
      · have := tellKey_any k (keyBits l) w (readKeyT_bytes hr) h
        unfold keyR at this
        rw [if_pos m1, m2] at this
        exact this

/-- Two routes that come in, in blocks of their own. -/
structure TwoRt (w : World) (B : Nat) (p q : Pre) (n m : Nat) : Prop where
  lr : (routeLoad ⟨B, 0, none⟩).run Tryd.prog w = .ok (.agg (rc p n)) w
  lq : (routeLoad ⟨B + 1, 0, none⟩).run Tryd.prog w = .ok (.agg (rc q m)) w

theorem lineWays (l : List UInt8) (hl : l.length < 1000000) : ∃ p n err t h, LineWay l p n err t h ∧ ((err = 0 ∧ t = l ∧ h = 0) ∨ ((err == 0) = false ∧ (err != 0) = true ∧ p = preZ ∧ n = 0 ∧ t = [] ∧ h = 1)) := by
  rcases lineWay l hl with ⟨p, n, h⟩ | ⟨err, g1, g2, h⟩
  · exact ⟨_, _, _, _, _, h, .inl ⟨rfl, rfl, rfl⟩⟩
  · exact ⟨_, _, _, _, _, h, .inr ⟨g1, g2, rfl, rfl, rfl, rfl⟩⟩
theorem keyWays (l : List UInt8) (hl : l.length < 1000000) : ∃ k bits err t h, KeyWay l k bits err t h ∧ ((err = 0 ∧ t = l ∧ h = 0) ∨ ((err == 0) = false ∧ (err != 0) = true ∧ k = zkey ∧ bits = 0 ∧ t = [] ∧ h = 1)) := by
  rcases keyWay l hl with ⟨k, b, h⟩ | ⟨err, g1, g2, h⟩
  · exact ⟨_, _, _, _, _, h, .inl ⟨rfl, rfl, rfl⟩⟩
  · exact ⟨_, _, _, _, _, h, .inr ⟨g1, g2, rfl, rfl, rfl, rfl⟩⟩

theorem lineR_cases (p : Pre) (n : Nat) : ∃ (A : List UInt8) (e : Int), lineR p n = .tuple #[.string (bs A), .int .i64 e] ∧ ((mayB p = true ∧ A = lineT p n ∧ e = 0) ∨ (mayB p = false ∧ A = [] ∧ e = 1)) := by
  unfold lineR
  cases h : mayB p with
  | true => exact ⟨_, _, rfl, .inl ⟨rfl, rfl, rfl⟩⟩
  | false => exact ⟨_, _, rfl, .inr ⟨rfl, rfl, rfl⟩⟩

/-- What the law's first half knows of the two lines: told and read they are as they were, and they are the same just if the routes are. -/
structure Halves (p q : Pre) (n m : Nat) (A B : List UInt8) : Prop where
  read : ∀ w, Env w → Calls Tryd.prog 13 #[.string (bs A)] w fun e w' => e = .returned (.tuple #[.agg (rc p n), .int .i64 0]) ∧ Below w.heap.size w w'
  same : mayB q = true → B = lineT q m → (A == B) = routeEq p q n m

theorem halves (p q : Pre) (n m : Nat) (B : List UInt8) (hp : Bytes16 p.key) (hq : Bytes16 q.key) (hn : n < 65536) (hm : m < 65536) (mp : mayB p = true) : Halves p q n m (lineT p n) B := by
  obtain ⟨p', a1, a2, a3, a4⟩ := line_back hp hn mp
  have hl := lineT_le hp hn mp
  refine ⟨fun w h => ?_, fun mq e => by rw [e]; exact lineT_iff hp hq hn hm mp mq⟩
  have := readLine_any (lineT p n) w h (by omega)
  unfold readLineV at this
  rw [if_neg (by omega), a1] at this
  unfold lineV at this
  simp only [rc_same (p := p') (q := p) n a2 a3 a4] at this
  exact this

set_option maxHeartbeats 8000000 in
set_option maxRecDepth 100000 in
theorem walk_of (p q : Pre) (n m : Nat) (L : List UInt8) (w : World) (hp : Bytes16 p.key) (hq : Bytes16 q.key) (hn : n < 65536) (hm : m < 65536) (hL : L.length ≤ 9223372036854775807) (h : Env w) :
    Calls Tryd.prog 4 #[.agg (rc p n), .agg (rc q m), .string (bs L)] w fun e w' => e = .returned (.bool true) ∧ Below w.heap.size w w' := by
  have b0 : Below w.heap.size w ((w.alloc (.cells (rc p n) 28)).alloc (.cells (rc q m) 28)) := ((Below.refl _ _).alloc (Nat.le_refl _) _).alloc (by simp) _
  have r0 : RowAt ((w.alloc (.cells (rc p n) 28)).alloc (.cells (rc q m) 28)) w.heap.size 0 (rc p n) := (rowAt_new w (rc p n) _).below (B := w.heap.size + 1) ((Below.refl _ _).alloc (by simp) _) (by omega)
  have q0 : RowAt ((w.alloc (.cells (rc p n) 28)).alloc (.cells (rc q m) 28)) (w.heap.size + 1) 0 (rc q m) := by simpa using rowAt_new (w.alloc (.cells (rc p n) 28)) (rc q m) 28
  have hz0 : ((w.alloc (.cells (rc p n) 28)).alloc (.cells (rc q m) 28)).heap.size = w.heap.size + 2 := by simp
  have E0 := (h.alloc (.cells (rc p n) 28)).alloc (.cells (rc q m) 28)
  have C1 := Lib.hid (fun w (h : Env w) => awake_any w h)
  obtain ⟨A, eA, hA, HA⟩ := lineR_cases p n
  obtain ⟨B, eB, hB, HB⟩ := lineR_cases q m
  have C2 := fun w (h : Env w) => tellLine_any p n w hp hn h
  have C3 := fun w (h : Env w) => tellLine_any q m w hq hm h
  rw [hA] at C2
  rw [hB] at C3
  have C2 := Lib.hid C2
  have C3 := Lib.hid C3
  have HA := Lib.hid HA
  have HB := Lib.hid HB
  have hz := routeZ_lit
  have hzk := zkey_lit
  have B0 := fun w => run_routeBuild0 w
  obtain ⟨l, hl⟩ : ∃ l, l = L.take 200 := ⟨_, rfl⟩
  have hll : l.length ≤ 200 := by rw [hl]; simp; omega
  have hx : (bs L).extract 0 (min (L.length : Int) 200).toNat = bs l := by
    refine WideShapes.bytes_inj ?_
    rw [Lib.extract_from_zero, bs_list, bs_list, hl]
    by_cases g : L.length ≤ 200
    · rw [show (min (L.length : Int) 200).toNat = L.length by omega, List.take_length, List.take_of_length_le g]
    · rw [show (min (L.length : Int) 200).toNat = 200 by omega]
  have hsz := bs_size L
  have tl : (bs l).toList = l := by rw [ByteArray.toList_eq, bs_list]
  have tA : (bs A).toList = A := by rw [ByteArray.toList_eq, bs_list]
  have tB : (bs B).toList = B := by rw [ByteArray.toList_eq, bs_list]
  have hLI : (L.length : Int) ≤ 9223372036854775807 := by omega
  obtain ⟨W0, hW0⟩ : ∃ W0, W0 = (w.alloc (.cells (rc p n) 28)).alloc (.cells (rc q m) 28) := ⟨_, rfl⟩
  rw [← hW0] at b0 r0 q0 hz0 E0
  have HT := Lib.hid (fun w1 (h : Below W0.heap.size W0 w1) => (⟨run_routeLoad (r0.below h (by omega)), run_routeLoad (q0.below h (by omega))⟩ : TwoRt w1 w.heap.size p q n m))
  have HW := Lib.hid hW0
  clear hW0 r0 q0 hz0 h hl hA hB
  go_enter Tryd.func4, Tryd.ntmps4
  go_wp2_with fail
  rw [← HW.out]
  refine (C1.out _ E0).mono ?_
  rintro e w1 ⟨rfl, h1⟩
  have E1 := E0.stay h1 (Nat.le_refl _)
  obtain ⟨lr, lq⟩ := HT.out w1 h1
  clear E0
  go_wp2_with fail
  refine (C2.out _ E1).mono ?_
  rintro e w2 ⟨rfl, h2⟩
  have E2 := E1.stay h2 (Nat.le_refl _)
  have h2 := h1.trans (h2.mono h1.size)
  clear lr lq h1 E1
  obtain ⟨lr, lq⟩ := HT.out w2 h2
  go_wp2_with fail
  refine (C3.out _ E2).mono ?_
  rintro e w3 ⟨rfl, h3⟩
  have E3 := E2.stay h3 (Nat.le_refl _)
  have h3 := h2.trans (h3.mono h2.size)
  clear lr lq h2 E2
  go_upto_if 34 with (fail)
  go_cut [] from 11 (fun wx => Env wx ∧ Below W0.heap.size W0 wx)
  case first =>
    rcases HA.out with ⟨mp, hA, rfl⟩ | ⟨mp, hA, rfl⟩
    · have hv := halves p q n m B hp hq hn hm mp
      rw [← hA] at hv
      have HV := Lib.hid hv
      clear hv mp hA
      go_wp2_with fail
      refine (HV.out.read _ E3).mono ?_
      rintro e w4 ⟨rfl, h4⟩
      have E4 := (E3.stay h4 (Nat.le_refl _)).alloc (.cells (rc p n) 28)
      have A4 : Below w4.heap.size w4 (w4.alloc (.cells (rc p n) 28)) := (Below.refl _ _).alloc (Nat.le_refl _) _
      have h4 := h3.trans (h4.mono h3.size)
      have h5 := h4.trans (A4.mono h4.size)
      have S4 := route_laid w4 p n
      have L4 := route_laid_load w4 p n
      obtain ⟨lr, lq⟩ := HT.out _ h5
      clear E3 h3 A4 h4
      have Q1 := fun w => run_eqRoute p p n n w
      rw [routeEq_refl] at Q1
      have Q2 := fun w => run_eqRoute p q n m w
      rcases HB.out with ⟨mq, hB, rfl⟩ | ⟨mq, hB, rfl⟩
      · have hs := HV.out.same mq hB
        clear mq hB
        cases hc : routeEq p q n m
        all_goals
          rw [hc] at hs Q2
          clear hc
          go_wp2_with fail
          go_meet
          exact ⟨E4, h5⟩
      · clear mq hB Q2
        go_wp2_with fail
        go_meet
        exact ⟨E4, h5⟩
    · clear mp hA
      go_wp2_with fail
      go_meet
      exact ⟨E3, h3⟩
  case rest =>
    obtain ⟨E4, h4⟩ := hcut
    clear E3 h3
    have hz20 : keyEq zkey zkey = true := by decide +kernel
    have hz21 : routeEq preZ preZ 0 0 = true := routeEq_refl _ _
    have Q1 := fun w => run_eqRoute preZ preZ 0 0 w
    have Q2 := fun w => run_eqKey_top zkey zkey w
    rw [hz21] at Q1
    rw [hz20] at Q2
    clear hz20 hz21
    obtain ⟨p5, n5, err, t5, h5e, hlw, hway⟩ := lineWays l (by omega)
    obtain ⟨k5, bits5, err2, t6, h6e, hkw, hkway⟩ := keyWays l (by omega)
    have HLW := Lib.hid hlw
    have HKW := Lib.hid hkw
    have HA2 := Lib.hid hway
    have HK2 := Lib.hid hkway
    clear hlw hkw hway hkway
    go_wp2_with fail
    (with_reducible refine (HLW.out.read _ E4).mono ?_)
    rintro e w5 ⟨rfl, h5⟩
    have E5 := (E4.stay h5 (Nat.le_refl _)).alloc (.cells (rc p5 n5) 28)
    have h5 := h4.trans (h5.mono h4.size)
    have h6 := h5.alloc h5.size (.cells (rc p5 n5) 28)
    have S5 := route_laid w5 p5 n5
    have L5 := route_laid_load w5 p5 n5
    have r5 := rowAt_new w5 (rc p5 n5) 28
    have z5 : w5.heap.size < (w5.alloc (.cells (rc p5 n5) 28)).heap.size := by simp
    clear E4 h4 h5
    go_wp2_with fail
    clear S5 L5
    generalize w5.alloc (.cells (rc p5 n5) 28) = W5 at *
    generalize w5.heap.size = g5 at *
    (with_reducible refine (HLW.out.tell _ E5).mono ?_)
    rintro e w6 ⟨rfl, h7⟩
    have E6 := E5.stay h7 (Nat.le_refl _)
    have L6 := run_routeLoad (r5.below h7 z5)
    have h8 := h6.trans (h7.mono h6.size)
    clear E5 h6 h7 r5 z5 HLW
    have tl5 : (bs t5).toList = t5 := by rw [ByteArray.toList_eq, bs_list]
    have tl6 : (bs t6).toList = t6 := by rw [ByteArray.toList_eq, bs_list]
    rcases HA2.out with ⟨rfl, rfl, rfl⟩ | ⟨g1, g2, rfl, rfl, rfl, rfl⟩
    all_goals
      go_wp2_with fail
      (with_reducible refine (HKW.out.read _ E6).mono ?_)
      rintro e w7 ⟨rfl, h9⟩
      have E7 := (E6.stay h9 (Nat.le_refl _)).alloc (.cells (kc k5) 23)
      have h9 := h8.trans (h9.mono h8.size)
      have h10 := h9.alloc h9.size (.cells (kc k5) 23)
      have S7 := key_laid w7 k5
      have L7 := key_laid_load w7 k5
      have r7 := rowAt_new w7 (kc k5) 23
      have z7 : w7.heap.size < (w7.alloc (.cells (kc k5) 23)).heap.size := by simp
      clear L6 E6 h8 h9
      go_wp2_with fail
      clear S7 L7
      generalize w7.alloc (.cells (kc k5) 23) = W7 at *
      generalize w7.heap.size = g7 at *
      (with_reducible refine (HKW.out.tell _ E7).mono ?_)
      rintro e w8 ⟨rfl, h11⟩
      have L8 := run_keyLoad (r7.below h11 z7)
      have h12 := h10.trans (h11.mono h10.size)
      clear E7 h10 h11 r7 z7 HKW
      have hfin := b0.trans (h12.mono b0.size)
      rcases HK2.out with ⟨rfl, rfl, rfl⟩ | ⟨g3, g4, rfl, rfl, rfl, rfl⟩
      all_goals
        go_wp2
        go_ret
        exact ⟨rfl, hfin⟩

theorem walk (p : Pre) (n : Nat) (q : Pre) (m : Nat) (s : ByteArray) (hp : Bytes16 p.key) (_ : I64 p.bits) (_ : I64 p.len) (hn : n < 65536) (hq : Bytes16 q.key) (_ : I64 q.bits) (_ : I64 q.len) (hm : m < 65536) (hs : s.size ≤ maxLen) (w : World) (h : Env w) :
    Calls Tryd.prog 4 #[.agg (rc p n), .agg (rc q m), .string s] w fun e w' => e = .returned (.bool true) ∧ Below w.heap.size w w' := by
  rw [← bs_of s]
  unfold maxLen at hs
  exact walk_of p q n m s.data.toList w hp hq hn hm (by rw [Array.length_toList]; exact hs) h

end routeBack
end Go.Proofs.YtlokhhochhajmaaDoor
