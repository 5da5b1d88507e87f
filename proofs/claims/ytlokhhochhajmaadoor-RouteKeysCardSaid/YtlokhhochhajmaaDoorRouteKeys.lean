/- The walk of the statement RouteKeys of layer 2. -/
import Derived.Test.YtlokhhochhajmaaDoorRouteAwake
import Derived.Test.YtlokhhochhajmaaDoorKeyPreEq
import Derived.Test.YtlokhhochhajmaaDoorKeyOpen
namespace Go.Proofs.YtlokhhochhajmaaDoor
open Go.RowKit Go.Sort
attribute [local go_sem ↓] loadVar_key loadVar_pre storeVar_key storeVar_pre build_pre loadVar_route storeVar_route build_route binOp_preEql

namespace routeKeys

theorem may_whole (k : Nat → Nat) (bits : Int) : mayB ⟨bits, bits, k⟩ = keyOk k bits := by
  unfold mayB keyOk
  by_cases h : bits = 32 ∨ bits = 128
  · have e1 : (bits == 32 || bits == 128) = true := by simpa using h
    have e2 : decide (0 ≤ bits) = true := by rw [decide_eq_true_iff]; omega
    have e3 : decide (bits ≤ bits) = true := by rw [decide_eq_true_iff]; omega
    rw [e1, e2, e3]; rfl
  · have e1 : (bits == 32 || bits == 128) = false := by simpa using h
    rw [e1]; rfl

set_option maxHeartbeats 4000000 in
set_option maxRecDepth 100000 in
theorem walk_no (k : Nat → Nat) (bits : Int) (w : World) (hk : Bytes16 k) (h : Env w) (ho : keyOk k bits = false) :
    Calls Tryd.prog 5 #[.agg (kc k), .int .i64 bits] w fun e w' => e = .returned (.bool true) ∧ Below w.heap.size w w' := by
  have r0 := rowAt_new w (kc k) 23
  have b0 : Below w.heap.size w (w.alloc (.cells (kc k) 23)) := (Below.refl _ _).alloc (Nat.le_refl _) _
  have z0 : w.heap.size < (w.alloc (.cells (kc k) 23)).heap.size := by simp
  have E0 := h.alloc (.cells (kc k) 23)
  have C1 := fun w (h : Env w) => awake_any w h
  have C2 := fun w (h : Env w) => tellKey_any k bits w hk h
  have C3 := fun w (h : Env w) => tellPrefix_any ⟨bits, bits, k⟩ w hk h
  unfold keyR at C2
  unfold preR at C3
  simp only [ho, Bool.false_eq_true, if_false] at C2
  simp only [may_whole k bits, ho, Bool.false_eq_true, if_false] at C3
  have H1 := Lib.hid C1
  have H2 := Lib.hid C2
  have H3 := Lib.hid C3
  have B := fun w => run_preBuild bits bits k w
  have hz := preZ_lit
  have ht : (bs []).toList = [] := by rw [ByteArray.toList_eq, bs_list]
  clear C1 C2 C3 ho h
  go_enter Tryd.func5, Tryd.ntmps5
  go_wp2_with fail
  generalize w.alloc (.cells (kc k) 23) = W0 at *
  refine (H1.out _ E0).mono ?_
  rintro e w1 ⟨rfl, h1⟩
  have E1 := E0.stay h1 (Nat.le_refl _)
  have r1 := r0.below h1 z0
  have b1 := b0.trans (h1.mono b0.size)
  have z1 := Nat.lt_of_lt_of_le z0 h1.size
  have L1 := run_keyLoad r1
  clear E0 r0 b0 z0 h1 H1
  go_wp2_with fail
  refine (H2.out _ E1).mono ?_
  rintro e w2 ⟨rfl, h2⟩
  have E2 := (E1.stay h2 (Nat.le_refl _)).alloc (.cells (pc ⟨bits, bits, k⟩) 25)
  have r2 := r1.below h2 z1
  have b2 := b1.trans (h2.mono b1.size)
  have L2 := run_keyLoad r2
  have S2 := pre_laid w2 ⟨bits, bits, k⟩
  have L3 := pre_laid_load w2 ⟨bits, bits, k⟩
  have b3 := b2.alloc b2.size (.cells (pc ⟨bits, bits, k⟩) 25)
  clear E1 r1 b1 z1 h2 H2 L1 b2 r2
  go_wp2_with fail
  clear S2 L2 L3
  generalize w2.alloc (.cells (pc ⟨bits, bits, k⟩) 25) = W2 at *
  refine (H3.out _ E2).mono ?_
  rintro e w3 ⟨rfl, h3⟩
  have b4 := b3.trans (h3.mono b3.size)
  clear E2 b3 h3 H3
  go_wp2
  go_ret
  exact ⟨rfl, b4⟩

set_option maxHeartbeats 4000000 in
set_option maxRecDepth 100000 in
theorem walk_yes (k : Nat → Nat) (bits : Int) (w : World) (hk : Bytes16 k) (h : Env w) (ho : keyOk k bits = true) :
    Calls Tryd.prog 5 #[.agg (kc k), .int .i64 bits] w fun e w' => e = .returned (.bool true) ∧ Below w.heap.size w w' := by
  have r0 := rowAt_new w (kc k) 23
  have b0 : Below w.heap.size w (w.alloc (.cells (kc k) 23)) := (Below.refl _ _).alloc (Nat.le_refl _) _
  have z0 : w.heap.size < (w.alloc (.cells (kc k) 23)).heap.size := by simp
  have E0 := h.alloc (.cells (kc k) 23)
  have hm : mayB ⟨bits, bits, k⟩ = true := by rw [may_whole k bits, ho]
  obtain ⟨k', e1, e2, e3⟩ := key_back hk ho
  obtain ⟨p', f1, f2, f3, f4⟩ := pre_back (p := ⟨bits, bits, k⟩) hk hm
  have l1 := keyT_le hk bits
  have l2 := preT_le (p := ⟨bits, bits, k⟩) hk hm
  have hS : preT ⟨bits, bits, k⟩ = keyT k bits ++ 47 :: Lib.decDigits bits.toNat := preT_is _
  have ek : kc k' = kc k := kc_ext e2
  have ep : pc p' = pc ⟨bits, bits, k⟩ := pc_same f2 f3 f4
  have C1 := fun w (h : Env w) => awake_any w h
  have C2 := fun w (h : Env w) => tellKey_any k bits w hk h
  have C3 := fun w (h : Env w) => tellPrefix_any ⟨bits, bits, k⟩ w hk h
  have C4 := fun w (h : Env w) => readKey_any (keyT k bits) w h (by omega)
  have C5 := fun w (h : Env w) => readPre_any (preT ⟨bits, bits, k⟩) w h (by omega)
  unfold keyR at C2
  unfold preR at C3
  unfold readKeyV at C4
  unfold readPreV at C5
  simp only [ho, if_true] at C2
  simp only [hm, if_true] at C3
  simp only [show ¬ 60 < (keyT k bits).length by omega, if_false, e1, e3, ek] at C4
  simp only [show ¬ 60 < (preT ⟨bits, bits, k⟩).length by omega, if_false, f1, ep] at C5
  have H1 := Lib.hid C1
  have H2 := Lib.hid C2
  have H3 := Lib.hid C3
  have H4 := Lib.hid C4
  have H5 := Lib.hid C5
  have B := fun w => run_preBuild bits bits k w
  have hz := preZ_lit
  have hzk := zkey_lit
  clear C1 C2 C3 C4 C5 ho hm e1 e2 e3 f1 f2 f3 f4 ek ep h
  generalize preT ⟨bits, bits, k⟩ = T at *
  generalize keyT k bits = S at *
  have sT := bs_size T
  have sS := bs_size S
  have hTS : S.length < T.length := by rw [hS]; simp
  have hTSI : (S.length : Int) < T.length := by omega
  have hTb : S.length < (bs T).size := by rw [sT]; exact hTS
  have hT1 : (T.length : Int) ≤ 36 := by omega
  have hcut : (bs T).extract 0 S.length = bs S := by
    have : ((bs T).extract 0 S.length).data.toList = (bs S).data.toList := by
      rw [Lib.extract_from_zero, bs_list, bs_list, hS]; simp
    exact WideShapes.bytes_inj this
  have hat : ∀ h, (bs T)[S.length]'h = 47 := fun h => by
    show T.toArray[S.length]'(by simpa using hTS) = 47
    simp [hS]
  have tS : (bs S).toList = S := by rw [ByteArray.toList_eq, bs_list]
  have HS := Lib.hid hS
  clear hS
  go_enter Tryd.func5, Tryd.ntmps5
  go_wp2_with fail
  generalize w.alloc (.cells (kc k) 23) = W0 at *
  refine (H1.out _ E0).mono ?_
  rintro e w1 ⟨rfl, h1⟩
  have E1 := E0.stay h1 (Nat.le_refl _)
  have r1 := r0.below h1 z0
  have b1 := b0.trans (h1.mono b0.size)
  have z1 := Nat.lt_of_lt_of_le z0 h1.size
  have L1 := run_keyLoad r1
  clear E0 r0 b0 z0 h1 H1
  go_wp2_with fail
  refine (H2.out _ E1).mono ?_
  rintro e w2 ⟨rfl, h2⟩
  have E2 := (E1.stay h2 (Nat.le_refl _)).alloc (.cells (pc ⟨bits, bits, k⟩) 25)
  have r2 := r1.below h2 z1
  have b2 := b1.trans (h2.mono b1.size)
  have L2 := run_keyLoad r2
  have S2 := pre_laid w2 ⟨bits, bits, k⟩
  have L3 := pre_laid_load w2 ⟨bits, bits, k⟩
  have b3 := b2.alloc b2.size (.cells (pc ⟨bits, bits, k⟩) 25)
  have z2 := Nat.lt_of_lt_of_le z1 h2.size
  have r3 := r2.below ((Below.refl _ _).alloc (Nat.le_refl _) (.cells (pc ⟨bits, bits, k⟩) 25)) z2
  have p3 := rowAt_new w2 (pc ⟨bits, bits, k⟩) 25
  have z3 : w2.heap.size < (w2.alloc (.cells (pc ⟨bits, bits, k⟩) 25)).heap.size := by simp
  have z4 : w.heap.size < (w2.alloc (.cells (pc ⟨bits, bits, k⟩) 25)).heap.size := by simp; omega
  clear E1 r1 b1 z1 h2 H2 L1 b2 r2 z2
  go_wp2_with fail
  clear S2 L2 L3
  generalize w2.alloc (.cells (pc ⟨bits, bits, k⟩) 25) = W2 at *
  generalize w2.heap.size = g2 at *
  refine (H3.out _ E2).mono ?_
  rintro e w3 ⟨rfl, h3⟩
  have E3 := E2.stay h3 (Nat.le_refl _)
  have b4 := b3.trans (h3.mono b3.size)
  have r4 := r3.below h3 z4
  have p4 := p3.below h3 z3
  have z5 := Nat.lt_of_lt_of_le z3 h3.size
  have z6 := Nat.lt_of_lt_of_le z4 h3.size
  clear E2 b3 h3 H3 r3 p3 z3 z4
  go_wp2_with fail
  refine (H4.out _ E3).mono ?_
  rintro e w4 ⟨rfl, h4⟩
  have E4 := (E3.stay h4 (Nat.le_refl _)).alloc (.cells (kc k) 23)
  have A4 : Below w4.heap.size w4 (w4.alloc (.cells (kc k) 23)) := (Below.refl _ _).alloc (Nat.le_refl _) _
  have z7 := Nat.lt_of_lt_of_le z5 h4.size
  have z8 := Nat.lt_of_lt_of_le z6 h4.size
  have b5 := (b4.trans (h4.mono b4.size)).alloc (b4.trans (h4.mono b4.size)).size (.cells (kc k) 23)
  have r5 := (r4.below h4 z6).below A4 z8
  have p5 := (p4.below h4 z5).below A4 z7
  have q5 := rowAt_new w4 (kc k) 23
  have S4 := key_laid w4 k
  have z9 := Nat.lt_of_lt_of_le z7 A4.size
  have z10 := Nat.lt_of_lt_of_le z8 A4.size
  have z11 : w4.heap.size < (w4.alloc (.cells (kc k) 23)).heap.size := by simp
  clear E3 b4 h4 H4 r4 p4 z5 z6 z7 z8 A4
  go_wp2_with fail
  clear S4
  generalize w4.alloc (.cells (kc k) 23) = W4 at *
  generalize w4.heap.size = g4 at *
  refine (H5.out _ E4).mono ?_
  rintro e w5 ⟨rfl, h5⟩
  have A5 : Below w5.heap.size w5 (w5.alloc (.cells (pc ⟨bits, bits, k⟩) 25)) := (Below.refl _ _).alloc (Nat.le_refl _) _
  have b6 := (b5.trans (h5.mono b5.size)).alloc (b5.trans (h5.mono b5.size)).size (.cells (pc ⟨bits, bits, k⟩) 25)
  have r6 := (r5.below h5 z10).below A5 (Nat.lt_of_lt_of_le z10 h5.size)
  have p6 := (p5.below h5 z9).below A5 (Nat.lt_of_lt_of_le z9 h5.size)
  have q6 := (q5.below h5 z11).below A5 (Nat.lt_of_lt_of_le z11 h5.size)
  have S5 := pre_laid w5 ⟨bits, bits, k⟩
  have L5 := pre_laid_load w5 ⟨bits, bits, k⟩
  have L6 := run_keyLoad r6
  have L7 := run_preLoad p6
  have L8 := run_keyLoad q6
  have Q1 := fun w => run_preEql ⟨bits, bits, k⟩ ⟨bits, bits, k⟩ w
  have Q2 := fun w => run_eqKey_top k k w
  have q1 : preEq ⟨bits, bits, k⟩ ⟨bits, bits, k⟩ = true := by simp [preEq, keyEq]
  have q2 : keyEq k k = true := by simp [keyEq]
  rw [q1] at Q1
  rw [q2] at Q2
  clear q1 q2 E4 b5 h5 H5 r5 p5 q5 z9 z10 z11 A5 r6 p6 q6
  go_wp2
  go_ret
  exact ⟨rfl, b6⟩

theorem walk (k : Nat → Nat) (bits : Int) (hk : Bytes16 k) (_ : (Lit.int .i64 bits).wf = true) (w : World) (h : Env w) :
    Calls Tryd.prog 5 #[.agg (kc k), .int .i64 bits] w fun e w' => e = .returned (.bool true) ∧ Below w.heap.size w w' := by
  cases ho : keyOk k bits with
  | true => exact walk_yes k bits w hk h ho
  | false => exact walk_no k bits w hk h ho

end routeKeys
end Go.Proofs.YtlokhhochhajmaaDoor
