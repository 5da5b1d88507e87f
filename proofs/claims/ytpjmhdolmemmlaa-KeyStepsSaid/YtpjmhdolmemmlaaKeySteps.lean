/-
  The walk of the statement KeySteps of layer 1.
-/
import Derived.Test.YtpjmhdolmemmlaaKeyAwake
import Derived.Test.YtpjmhdolmemmlaaKeyOpen
import Derived.Test.YtpjmhdolmemmlaaKeyCuts
import Derived.Test.YtpjmhdolmemmlaaPureLaws

import Derived.LoopTactic
import Derived.Deep.RegionHeld3
import Derived.StillTailTactics
import Derived.Deep.WholeRow
namespace Go.Proofs.Ytpjmhdolmemmlaa
open Go.RowKit Go.Sort
attribute [local go_sem ↓] loadVar_key loadVar_pre storeVar_key storeVar_pre

namespace keySteps

/-- What is known of a world in which a prefix and a key lie, one block behind the other. -/
structure PreKey (w : World) (B : Nat) (p : Pre) (k : Nat → Nat) : Prop where
  lp : (preLoad ⟨B, 0, none⟩).run Try.prog w = .ok (.agg (pc p)) w
  kp : (keyLoad ⟨B, 2, none⟩).run Try.prog w = .ok (.agg (kc p.key)) w
  lk : (keyLoad ⟨B + 1, 0, none⟩).run Try.prog w = .ok (.agg (kc k)) w
  bp : w.cell? ⟨B, 0, none⟩ = some (.int .i64 p.bits)
  np : w.cell? ⟨B, 1, none⟩ = some (.int .i64 p.len)

theorem preKey_of {w : World} {B : Nat} {p : Pre} {k : Nat → Nat} (rp : RowAt w B 0 (pc p)) (rk : RowAt w (B + 1) 0 (kc k)) : PreKey w B p k :=
  ⟨run_preLoad rp, run_keyLoad rp.key, run_keyLoad rk, rp.bits, by simpa using rp.len⟩

/-- A prefix that is built of its parts, behind a name, so that the walk meets it by a fact. -/
def preBuild (parts : Array (Nat × Value)) : Sem Value := Instr.build 25 parts
theorem build_pre (parts : Array (Nat × Value)) : Instr.build 25 parts = preBuild parts := rfl
theorem run_preBuild (b l : Int) (c : Nat → Nat) (w : World) : (preBuild #[(0, .int .i64 b), (1, .int .i64 l), (2, .agg (kc c))]).run Try.prog w = .ok (.agg (pc ⟨b, l, c⟩)) w := by kernel_rfl
attribute [local go_sem ↓] build_pre

/-- The two keys agree in their first n bits, just if this is true. -/
def Agree (a b : Nat → Nat) (n : Nat) (f : Bool) : Prop := f = true ↔ ∀ j, j < n → bt a j = bt b j

theorem agree_step {a b : Nat → Nat} (ha : Bytes16 a) (hb : Bytes16 b) (i : Nat) (hi : i < 32) : (stepZ a i == stepZ b i) = true ↔ ∀ j, 4 * i ≤ j → j < 4 * i + 4 → bt a j = bt b j := by
  have e : ∀ k, Bytes16 k → stepZ k i = ((8 * bt k (4 * i) + 4 * bt k (4 * i + 1) + 2 * bt k (4 * i + 2) + bt k (4 * i + 3) : Nat) : Int) := fun k hk => by
    unfold stepZ; rw [if_pos (by omega), Int.toNat_natCast, step_bits hk i hi]
  have l := fun k j => bt_lt k j
  rw [e a ha, e b hb, beq_iff_eq]
  have a0 := l a (4 * i); have a1 := l a (4 * i + 1); have a2 := l a (4 * i + 2); have a3 := l a (4 * i + 3)
  have b0 := l b (4 * i); have b1 := l b (4 * i + 1); have b2 := l b (4 * i + 2); have b3 := l b (4 * i + 3)
  constructor
  · intro h j h1 h2
    have : j = 4 * i ∨ j = 4 * i + 1 ∨ j = 4 * i + 2 ∨ j = 4 * i + 3 := by omega
    rcases this with rfl | rfl | rfl | rfl <;> omega
  · intro h
    rw [h (4 * i) (by omega) (by omega), h (4 * i + 1) (by omega) (by omega), h (4 * i + 2) (by omega) (by omega), h (4 * i + 3) (by omega) (by omega)]

theorem Agree.step {a b : Nat → Nat} (ha : Bytes16 a) (hb : Bytes16 b) {i : Nat} (hi : i < 32) (h : Agree a b (4 * i) true) : Agree a b (4 * (i + 1)) (stepZ a i == stepZ b i) := by
  have h1 := h.1 rfl
  unfold Agree
  rw [agree_step ha hb i hi]
  constructor
  · intro h2 j hj
    by_cases e : j < 4 * i
    · exact h1 j e
    · exact h2 j (by omega) (by omega)
  · intro h2 j _ h4; exact h2 j (by omega)

theorem Agree.not {a b : Nat → Nat} {n m : Nat} (hnm : n ≤ m) (h : Agree a b n false) : Agree a b m false := by
  unfold Agree at *
  constructor
  · intro h1; exact absurd h1 (by simp)
  · intro h1; exact h.2 fun j hj => h1 j (by omega)

theorem Agree.bit {a b : Nat → Nat} {i : Nat} (h : Agree a b i true) : Agree a b (i + 1) (((bt a i : Nat) : Int) == ((bt b i : Nat) : Int)) := by
  have h1 := h.1 rfl
  unfold Agree
  rw [beq_iff_eq]
  constructor
  · intro h2 j hj
    by_cases e : j = i
    · rw [e]; omega
    · exact h1 j (by omega)
  · intro h2; rw [h2 i (by omega)]

theorem agree_fits {p : Pre} {k : Nat → Nat} {l : Nat} {f : Bool} (hk : Bytes16 k) (hm : mayB p = true) (he : endsB k p.bits.toNat = true) (hl : p.len = l) (h : Agree p.key k l f) : fitsB p k = f := by
  rw [Bool.eq_iff_iff, fitsB_iff p k hk]
  unfold Agree at h
  rw [h]
  constructor
  · intro h1 j hj; exact h1.2.2 j (by omega)
  · intro h1; exact ⟨hm, fun j h2 h3 => (endsB_iff hk _).1 he j (by omega) h3, fun j h2 => h1 j (by omega)⟩

/-- A key with its bit l turned. -/
def flipB (c : Nat → Nat) (l : Nat) : Nat → Nat := fun i => if i = l / 8 then c i ^^^ (128 / 2 ^ (l % 8)) else c i

theorem flip_bytes {c : Nat → Nat} (hc : Bytes16 c) (l : Nat) : Bytes16 (flipB c l) := fun i => by
  unfold flipB
  split
  · exact xor_lt _ _ (hc i) (Nat.lt_of_le_of_lt (Nat.div_le_self _ _) (by decide))
  · exact hc i

theorem flip_one : ∀ (r j : Fin 8), 128 / 2 ^ r.val / 2 ^ (7 - j.val) % 2 = if j.val = r.val then 1 else 0 := by decide +kernel

theorem bt_flip (c : Nat → Nat) (l j : Nat) : bt (flipB c l) j = if j = l then 1 - bt c j else bt c j := by
  have h1 := flip_one ⟨l % 8, by omega⟩ ⟨j % 8, by omega⟩
  have hx : ∀ a b e : Nat, (a ^^^ b) / 2 ^ e % 2 = (a / 2 ^ e % 2 + b / 2 ^ e % 2) % 2 := fun a b e => by
    have h := xor_bit a b e
    have ha : a / 2 ^ e % 2 < 2 := Nat.mod_lt _ (by decide)
    have hb : b / 2 ^ e % 2 < 2 := Nat.mod_lt _ (by decide)
    have hab : (a ^^^ b) / 2 ^ e % 2 < 2 := Nat.mod_lt _ (by decide)
    omega
  have hl : bt c j < 2 := bt_lt c j
  unfold bt flipB at *
  simp only at h1
  by_cases e : j = l
  · subst e
    rw [if_pos rfl, if_pos rfl, hx, h1, if_pos rfl]; omega
  · rw [if_neg e]
    by_cases e8 : j / 8 = l / 8
    · rw [if_pos e8, hx, h1, if_neg (by omega)]; omega
    · rw [if_neg e8]

/-- What the statement asks of the prefix that is one bit longer, by the key's own bit, and by the other one. -/
theorem longer {p : Pre} {k : Nat → Nat} {l : Nat} (hp : Bytes16 p.key) (hk : Bytes16 k) (hm : mayB p = true) (hl : p.len = l) (hlt : (l : Int) < p.bits) (hf : fitsB p k = true) :
    fitsB ⟨p.bits, ((l + 1 : Nat) : Int), cutB k (l + 1)⟩ k = true ∧ fitsB ⟨p.bits, ((l + 1 : Nat) : Int), flipB (cutB k (l + 1)) l⟩ k = false ∧
    coversB p ⟨p.bits, ((l + 1 : Nat) : Int), cutB k (l + 1)⟩ = true ∧ coversB p ⟨p.bits, ((l + 1 : Nat) : Int), flipB (cutB k (l + 1)) l⟩ = true ∧
    coversB ⟨p.bits, ((l + 1 : Nat) : Int), cutB k (l + 1)⟩ ⟨p.bits, ((l + 1 : Nat) : Int), flipB (cutB k (l + 1)) l⟩ = false := by
  have hc := cutB_bytes hk (l + 1)
  have hfl := flip_bytes hc l
  obtain ⟨hbits, h0, hlb, hz⟩ := (mayB_iff p hp).1 hm
  obtain ⟨_, hkz, hsame⟩ := (fitsB_iff p k hk).1 hf
  have hb128 : p.bits ≤ 128 := by omega
  have m1 : mayB ⟨p.bits, ((l + 1 : Nat) : Int), cutB k (l + 1)⟩ = true := by
    rw [mayB_iff _ hc]
    exact ⟨hbits, by simp; omega, by simp; omega, fun j h1 _ => by rw [bt_cut, if_neg (by simp at h1; omega)]⟩
  have m2 : mayB ⟨p.bits, ((l + 1 : Nat) : Int), flipB (cutB k (l + 1)) l⟩ = true := by
    rw [mayB_iff _ hfl]
    exact ⟨hbits, by simp; omega, by simp; omega, fun j h1 _ => by rw [bt_flip, if_neg (by simp at h1; omega), bt_cut, if_neg (by simp at h1; omega)]⟩
  have hbl := bt_lt k l
  refine ⟨?_, ?_, ?_, ?_, ?_⟩
  · rw [fitsB_iff _ _ hk]
    exact ⟨m1, hkz, fun j h1 => by rw [bt_cut, if_pos (by simp at h1; omega)]⟩
  · cases e : fitsB ⟨p.bits, ((l + 1 : Nat) : Int), flipB (cutB k (l + 1)) l⟩ k with
    | false => rfl
    | true =>
      have h1 := ((fitsB_iff _ _ hk).1 e).2.2 l (by simp; omega)
      have hll : l < l + 1 := Nat.lt_succ_self l
      simp only [bt_flip, bt_cut, if_true, hll] at h1
      omega
  · rw [covers_iff, fitsB_iff _ _ hc]
    exact ⟨m1, rfl, by simp; omega, hm, fun j h1 h2 => by rw [bt_cut, if_neg (by omega)], fun j h1 => by rw [bt_cut, if_pos (by omega)]; exact hsame j h1⟩
  · rw [covers_iff, fitsB_iff _ _ hfl]
    exact ⟨m2, rfl, by simp; omega, hm, fun j h1 h2 => by rw [bt_flip, if_neg (by omega), bt_cut, if_neg (by omega)], fun j h1 => by rw [bt_flip, if_neg (by omega), bt_cut, if_pos (by omega)]; exact hsame j h1⟩
  · cases e : coversB ⟨p.bits, ((l + 1 : Nat) : Int), cutB k (l + 1)⟩ ⟨p.bits, ((l + 1 : Nat) : Int), flipB (cutB k (l + 1)) l⟩ with
    | false => rfl
    | true =>
      have h1 := ((fitsB_iff _ _ hfl).1 ((covers_iff _ _).1 e).2.2.2).2.2 l (by simp; omega)
      have hll : l < l + 1 := Nat.lt_succ_self l
      simp only [bt_flip, bt_cut, if_true, hll] at h1
      omega

theorem pc_set (b n : Int) (c : Nat → Nat) (l x : Nat) (hl : l / 8 < 16) (hx : x = c (l / 8) ^^^ (128 / 2 ^ (l % 8))) : (pc ⟨b, n, c⟩).setIfInBounds (2 + l / 8) (.int .u8 (x : Int)) = pc ⟨b, n, flipB c l⟩ := by
  apply Array.ext_getElem?
  intro i
  rw [Array.getElem?_setIfInBounds, pc_size]
  by_cases h0 : i < 2
  · have : i = 0 ∨ i = 1 := by omega
    rw [if_neg (by omega)]
    rcases this with rfl | rfl <;> rfl
  · obtain ⟨j, rfl⟩ : ∃ j, i = 2 + j := ⟨i - 2, by omega⟩
    by_cases h16 : j < 16
    · rw [pc_at _ j h16, pc_at _ j h16]
      by_cases e : j = l / 8
      · subst e; rw [if_pos rfl, if_pos (by omega), hx]; simp [flipB]
      · rw [if_neg (by omega)]; simp [flipB, e]
    · rw [if_neg (by omega), Array.getElem?_eq_none (by rw [pc_size]; omega), Array.getElem?_eq_none (by rw [pc_size]; omega)]

theorem flip_value (x l : Nat) (hx : x < 256) : bits BinOp.xor IntKind.u8 (x : Int) (128 / 2 ^ (l % 8)) = ((x ^^^ (128 / 2 ^ (l % 8)) : Nat) : Int) := by
  have e : (128 : Int) / 2 ^ (l % 8) = ((128 / 2 ^ (l % 8) : Nat) : Int) := by simp
  rw [e, u8_xor_nat _ _ hx (Nat.lt_of_le_of_lt (Nat.div_le_self _ _) (by decide))]

set_option maxHeartbeats 4000000 in
set_option maxRecDepth 100000 in
/-- A prefix that may not be, or a key that has a bit behind. -/
theorem walk_no (p : Pre) (k : Nat → Nat) (hp : Bytes16 p.key) (hk : Bytes16 k) (hno : ¬ (mayB p = true ∧ endsB k p.bits.toNat = true)) (w : World) :
    Calls Try.prog 7 #[.agg (pc p), .agg (kc k)] w fun e w' => e = .returned (.bool true) ∧ Below w.heap.size w w' := by
  obtain ⟨rp, rk, hb, hz⟩ := rows_two w (pc p) (kc k) 25 23
  have C0 := Lib.hid awake_any
  have C1 := fun w => may_any p hp w
  have C2 := fun w => cut_any k p.bits w hk
  have C3 := fun w => fits_any p k hp hk w
  have hf : fitsB p k = false := by
    cases e : fitsB p k with
    | false => rfl
    | true =>
      unfold fitsB at e
      simp only [Bool.and_eq_true] at e
      exact absurd e.1 hno
  simp only [hf] at C3
  have HC3 := Lib.hid C3
  generalize hW : (w.alloc (.cells (pc p) 25)).alloc (.cells (kc k) 23) = W at *
  have HW := Lib.hid hW
  have HK := Lib.hid (fun w1 (h : Below W.heap.size W w1) => (⟨rp.below h (by omega), rk.below h (by omega)⟩ : RowAt w1 w.heap.size 0 (pc p) ∧ RowAt w1 (w.heap.size + 1) 0 (kc k)))
  clear hW hz rp rk C3 hf
  go_enter Try.func7, Try.ntmps7
  go_wp2_with fail
  rw [HW.out]
  refine (C0.out _).mono ?_
  rintro e w1 ⟨rfl, h1⟩
  obtain ⟨rp, rk⟩ := HK.out w1 h1
  have fin : ∀ w5, (∃ p : Regrown, w5 = grow (redrawn w1 p.d) p.os) → Below W.heap.size W w5 := by
    rintro w5 ⟨p, rfl⟩
    exact h1.trans ((below_regrown w1 p.d p.os).mono h1.size)
  have HG := Lib.hid fin
  have L1 := fun d os => run_preLoad (rowAt_regrown rp d os)
  have L2 := fun d os => run_keyLoad (rowAt_regrown rk d os)
  have c0 := cell_regrown rp.bits
  have D1 := fun d os => Calls.regrown_of (C1 (grow (redrawn w1 d) os))
  have D2 := fun d os => Calls.regrown_of (C2 (grow (redrawn w1 d) os))
  clear fin rp rk C1 C2
  cases hm : mayB p with
  | false =>
    simp only [hm] at D1
    clear hm hno
    go_wp2
    refine wp_region_quiet_below (by kernel_rfl) (by kernel_rfl) ?_
    repeat (go_big_quiet_step ((with_reducible first | exact D1 _ _ | exact D2 _ _)))
    refine wpQuiet_nil fun w5 hw5 => ?_
    have hb5 := HG.out w5 hw5
    obtain ⟨lp, kp, lk, bp, np⟩ := preKey_of (HK.out w5 hb5).1 (HK.out w5 hb5).2
    clear hw5 D1 D2 L1 L2 c0
    go_wp2_with fail
    refine (HC3.out _).mono ?_
    rintro e w6 ⟨rfl, h6⟩
    go_wp2
    go_ret
    exact ⟨rfl, hb.trans ((hb5.trans (h6.mono hb5.size)).mono hb.size)⟩
  | true =>
    simp only [hm] at D1
    have E := fun w => run_eqKey_top (cutB k p.bits.toNat) k w
    have he : keyEq (cutB k p.bits.toNat) k = false := by
      cases e : endsB k p.bits.toNat with
      | false => exact e
      | true => exact absurd ⟨hm, e⟩ hno
    simp only [he] at E
    clear hm hno he
    go_wp2
    refine wp_region_quiet_below (by kernel_rfl) (by kernel_rfl) ?_
    repeat (go_big_quiet_step ((with_reducible first | exact D1 _ _ | exact D2 _ _)))
    refine wpQuiet_nil fun w5 hw5 => ?_
    have hb5 := HG.out w5 hw5
    obtain ⟨lp, kp, lk, bp, np⟩ := preKey_of (HK.out w5 hb5).1 (HK.out w5 hb5).2
    clear hw5 D1 D2 L1 L2 c0 E
    go_wp2_with fail
    refine (HC3.out _).mono ?_
    rintro e w6 ⟨rfl, h6⟩
    go_wp2
    go_ret
    exact ⟨rfl, hb.trans ((hb5.trans (h6.mono hb5.size)).mono hb.size)⟩

set_option maxHeartbeats 4000000 in
set_option maxRecDepth 100000 in
theorem walk_yes (p : Pre) (k : Nat → Nat) (hp : Bytes16 p.key) (hk : Bytes16 k) (hm : mayB p = true) (he : endsB k p.bits.toNat = true) (l : Nat) (hl : p.len = l) (w : World) :
    Calls Try.prog 7 #[.agg (pc p), .agg (kc k)] w fun e w' => e = .returned (.bool true) ∧ Below w.heap.size w w' := by
  obtain ⟨rp, rk, hb, hz⟩ := rows_two w (pc p) (kc k) 25 23
  have C0 := Lib.hid awake_any
  have C1 := fun w => may_any p hp w
  have C2 := fun w => cut_any k p.bits w hk
  have HC3 := Lib.hid (fun w => fits_any p k hp hk w)
  have HM := Lib.hid hm
  have HE := Lib.hid he
  have HL := Lib.hid hl
  have hl128 : l ≤ 128 := by have := may_len hm hp; omega
  obtain ⟨q, hq⟩ : ∃ q, q = l / 4 := ⟨_, rfl⟩
  have e4 : (l : Int) / 4 = (q : Int) := by omega
  have hq32 : q ≤ 32 := by omega
  have hql : 4 * q ≤ l := by omega
  generalize hW : (w.alloc (.cells (pc p) 25)).alloc (.cells (kc k) 23) = W at *
  have HW := Lib.hid hW
  have HK := Lib.hid (fun w1 (h : Below W.heap.size W w1) => (⟨rp.below h (by omega), rk.below h (by omega)⟩ : RowAt w1 w.heap.size 0 (pc p) ∧ RowAt w1 (w.heap.size + 1) 0 (kc k)))
  have HZ := Lib.hid hz
  clear hW hz rp rk hq
  go_enter Try.func7, Try.ntmps7
  go_wp2_with fail
  rw [HW.out]
  refine (C0.out _).mono ?_
  rintro e w1 ⟨rfl, h1⟩
  obtain ⟨rp, rk⟩ := HK.out w1 h1
  have fin : ∀ w5, (∃ p : Regrown, w5 = grow (redrawn w1 p.d) p.os) → Below W.heap.size W w5 := by
    rintro w5 ⟨p, rfl⟩
    exact h1.trans ((below_regrown w1 p.d p.os).mono h1.size)
  have HG := Lib.hid fin
  have L1 := fun d os => run_preLoad (rowAt_regrown rp d os)
  have L2 := fun d os => run_keyLoad (rowAt_regrown rk d os)
  have c0 := cell_regrown rp.bits
  have D1 := fun d os => Calls.regrown_of (C1 (grow (redrawn w1 d) os))
  have D2 := fun d os => Calls.regrown_of (C2 (grow (redrawn w1 d) os))
  have E := fun w => run_eqKey_top (cutB k p.bits.toNat) k w
  simp only [hm] at D1
  simp only [show keyEq (cutB k p.bits.toNat) k = true from he] at E
  have HA := Lib.hid (⟨e4, hq32, hql, hl128⟩ : (l : Int) / 4 = (q : Int) ∧ q ≤ 32 ∧ 4 * q ≤ l ∧ l ≤ 128)
  clear fin rp rk C1 C2 hm he hl e4 hq32 hql hl128
  go_wp2
  refine wp_region_quiet_below (by kernel_rfl) (by kernel_rfl) ?_
  repeat (go_big_quiet_step ((with_reducible first | exact D1 _ _ | exact D2 _ _)))
  refine wpQuiet_nil fun w5 hw5 => ?_
  have hb5 := HG.out w5 hw5
  clear hw5 D1 D2 L1 L2 c0 E HG h1
  go_wp2
  go_loopw [5, 6] (fun v t wr => ∃ (i : Nat) (f : Bool), i ≤ q ∧ t = .int .i64 i ∧ v = .bool f ∧ Agree p.key k (4 * i) f ∧ Below W.heap.size W wr) (fun _ t _ => q - (intOf t).toNat)
  case atStart => exact ⟨0, true, Nat.zero_le _, rfl, rfl, ⟨fun _ j hj => absurd hj (by omega), fun _ => rfl⟩, hb5⟩
  case round =>
    clear hb5
    obtain ⟨i, f, hi, rfl, rfl, hag, hwr⟩ := hrel
    obtain ⟨rp, rk⟩ := HK.out wr hwr
    have np := rp.len
    rw [HL.out] at np
    simp only [Nat.zero_add] at np
    obtain ⟨e4, hq32, hql, hl128⟩ := HA.out
    by_cases hlt : i < q
    · have hlt' : (i : Int) < (q : Int) := by omega
      have hi32 : (i : Int) < 32 := by omega
      have fin : ∀ w5, (∃ p : Regrown, w5 = grow (redrawn wr p.d) p.os) → Below W.heap.size W w5 := by
        rintro w5 ⟨p, rfl⟩
        exact hwr.trans ((below_regrown wr p.d p.os).mono hwr.size)
      have HG := Lib.hid fin
      have L1 := fun d os => run_keyLoad (rowAt_regrown rp.key d os)
      have L2 := fun d os => run_keyLoad (rowAt_regrown rk d os)
      simp only [Nat.zero_add] at L1
      have D1 := fun d os => Calls.regrown_of (step_any p.key i (grow (redrawn wr d) os) hp)
      have D2 := fun d os => Calls.regrown_of (step_any k i (grow (redrawn wr d) os) hk)
      clear fin rp rk hwr
      cases f with
      | false =>
        have hag2 := hag.not (show 4 * i ≤ 4 * (i + 1) by omega)
        have HAG := Lib.hid hag2
        clear hag hag2 hql hl128
        go_wp2
        refine wp_region_quiet_below (by kernel_rfl) (by kernel_rfl) ?_
        repeat (go_big_quiet_step ((with_reducible first | exact D1 _ _ | exact D2 _ _)))
        refine wpQuiet_nil fun w6 hw6 => ?_
        have hb6 := HG.out w6 hw6
        clear hw6 D1 D2 L1 L2 np
        go_wp2
        go_roundw
        case rel => exact ⟨i + 1, false, by omega, by go_num, rfl, HAG.out, hb6⟩
        case measure => simp [intOf]; omega
      | true =>
        have hag2 := hag.step hp hk (by omega)
        have HAG := Lib.hid hag2
        clear hag hag2 hql hl128
        go_wp2
        refine wp_region_quiet_below (by kernel_rfl) (by kernel_rfl) ?_
        repeat (go_big_quiet_step ((with_reducible first | exact D1 _ _ | exact D2 _ _)))
        refine wpQuiet_nil fun w6 hw6 => ?_
        have hb6 := HG.out w6 hw6
        clear hw6 D1 D2 L1 L2 np
        go_wp2
        go_roundw
        case rel => exact ⟨i + 1, (stepZ p.key i == stepZ k i), by omega, by go_num, rfl, HAG.out, hb6⟩
        case measure => simp [intOf]; omega
    · obtain rfl : i = q := by omega
      have hge : ¬ (i : Int) < (i : Int) := by omega
      clear hlt rp rk
      have hi4 : (i : Int) ≤ 32 := by omega
      go_wp2
      clear np
      go_loopw [5, 7] (fun v t wr => ∃ (j : Nat) (f : Bool), 4 * i ≤ j ∧ j ≤ l ∧ t = .int .i64 j ∧ v = .bool f ∧ Agree p.key k j f ∧ Below W.heap.size W wr) (fun _ t _ => l - (intOf t).toNat)
      case atStart => exact ⟨4 * i, f, Nat.le_refl _, hql, by simp; omega, rfl, hag, hwr⟩
      case round =>
        clear hag hwr
        obtain ⟨j, f, hj1, hj2, rfl, rfl, hag, hwr⟩ := hrel
        obtain ⟨rp, rk⟩ := HK.out wr hwr
        have np := rp.len
        rw [HL.out] at np
        simp only [Nat.zero_add] at np
        by_cases hlt : j < l
        · have hlt' : (j : Int) < (l : Int) := by omega
          have hj128 : j < 128 := by omega
          have fin : ∀ w5, (∃ p : Regrown, w5 = grow (redrawn wr p.d) p.os) → Below W.heap.size W w5 := by
            rintro w5 ⟨p, rfl⟩
            exact hwr.trans ((below_regrown wr p.d p.os).mono hwr.size)
          have HG := Lib.hid fin
          have L1 := fun d os => run_keyLoad (rowAt_regrown rp.key d os)
          have L2 := fun d os => run_keyLoad (rowAt_regrown rk d os)
          simp only [Nat.zero_add] at L1
          have D1 := fun d os => Calls.regrown_of (bit_any p.key j (grow (redrawn wr d) os) hp)
          have D2 := fun d os => Calls.regrown_of (bit_any k j (grow (redrawn wr d) os) hk)
          rw [keyCuts.bitZ_nat _ _ hj128] at D1 D2
          clear fin rp rk hwr hj128
          cases f with
          | false =>
            have hag2 := hag.not (show j ≤ j + 1 by omega)
            have HAG := Lib.hid hag2
            clear hag hag2
            go_wp2
            refine wp_region_quiet_below (by kernel_rfl) (by kernel_rfl) ?_
            repeat (go_big_quiet_step ((with_reducible first | exact D1 _ _ | exact D2 _ _)))
            refine wpQuiet_nil fun w6 hw6 => ?_
            have hb6 := HG.out w6 hw6
            clear hw6 D1 D2 L1 L2 np
            go_wp2
            go_roundw
            case rel => exact ⟨j + 1, false, by omega, by omega, by go_num, rfl, HAG.out, hb6⟩
            case measure => simp [intOf]; omega
          | true =>
            have hag2 := hag.bit
            have HAG := Lib.hid hag2
            clear hag hag2
            generalize bt p.key j = x at *
            generalize bt k j = y at *
            go_wp2
            refine wp_region_quiet_below (by kernel_rfl) (by kernel_rfl) ?_
            repeat (go_big_quiet_step ((with_reducible first | exact D1 _ _ | exact D2 _ _)))
            refine wpQuiet_nil fun w6 hw6 => ?_
            have hb6 := HG.out w6 hw6
            clear hw6 D1 D2 L1 L2 np
            go_wp2
            go_roundw
            case rel => exact ⟨j + 1, ((x : Int) == (y : Int)), by omega, by omega, by go_num, by simp, HAG.out, hb6⟩
            case measure => simp [intOf]; omega
        · obtain rfl : j = l := by omega
          have hff := agree_fits hk HM.out HE.out HL.out hag
          obtain ⟨lp, kp, lk, bp, -⟩ := preKey_of rp rk
          have C3 := fun w => HC3.out w
          rw [hff] at C3
          have HC := Lib.hid C3
          have HFF := Lib.hid hff
          clear hlt hag C3 hff rp rk HA e4 hq32 hql hi4 hi hge hj1 hj2
          cases f with
          | false =>
            go_wp2_with fail
            refine (HC.out _).mono ?_
            rintro e w6 ⟨rfl, h6⟩
            go_wp2
            go_ret
            exact ⟨rfl, hb.trans ((hwr.trans (h6.mono hwr.size)).mono hb.size)⟩
          | true =>
            go_wp2_with fail
            refine (HC.out _).mono ?_
            rintro e w6 ⟨rfl, h6⟩
            have h6 := hwr.trans (h6.mono hwr.size)
            clear lp kp lk bp np hwr
            obtain ⟨rp, rk⟩ := HK.out w6 h6
            obtain ⟨lp, kp, lk, bp, np⟩ := preKey_of rp rk
            rw [HL.out] at np
            by_cases hlb : (j : Int) = p.bits
            · have hd : ((j : Int) == p.bits) = true := by rw [beq_iff_eq]; exact hlb
              clear hlb
              go_wp2
              go_ret
              exact ⟨rfl, hb.trans (h6.mono hb.size)⟩
            · have hd : ((j : Int) == p.bits) = false := by rw [beq_eq_false_iff_ne]; exact hlb
              have hS : ∀ w', Below W.heap.size W w' → w'.rangeAt (w.heap.size + 1) 0 (kl k) ∧ w'.cell? ⟨w.heap.size, 0, none⟩ = some (.int .i64 p.bits) ∧ w'.cell? ⟨w.heap.size, 1, none⟩ = some (.int .i64 (j : Int)) := by
                intro w' h'
                obtain ⟨rp, rk⟩ := HK.out w' h'
                obtain ⟨lp, kp, lk, bp, np⟩ := preKey_of rp rk
                rw [HL.out] at np
                exact ⟨fun i v hv => rk i v (by simpa [kc] using hv), bp, np⟩
              have HS := Lib.hid hS
              obtain ⟨m, hm1⟩ : ∃ m, m = j + 1 := ⟨_, rfl⟩
              have hcut : ∀ w, Calls Try.prog 11 #[.agg (kl k).toArray, .int .i64 (m : Int)] w fun e w' => e = .returned (.agg (kc (cutB k m))) ∧ Below w.heap.size w w' := fun w => cut_any k (m : Int) w hk
              have HCUT := Lib.hid hcut
              have hbuild := fun w => run_preBuild p.bits (m : Int) (cutB k m) w
              have hstore : ∀ w7 : World, (preStore ⟨w7.heap.size, 0, none⟩ (.agg (pc ⟨p.bits, (m : Int), cutB k m⟩))).run Try.prog (w7.alloc (.cells #[Value.int IntKind.i64 0, Value.int IntKind.i64 0, Value.int IntKind.u8 0, Value.int IntKind.u8 0, Value.int IntKind.u8 0, Value.int IntKind.u8 0, Value.int IntKind.u8 0, Value.int IntKind.u8 0, Value.int IntKind.u8 0, Value.int IntKind.u8 0, Value.int IntKind.u8 0, Value.int IntKind.u8 0, Value.int IntKind.u8 0, Value.int IntKind.u8 0, Value.int IntKind.u8 0, Value.int IntKind.u8 0, Value.int IntKind.u8 0, Value.int IntKind.u8 0] 25)) = .ok () (w7.alloc (.cells (pc ⟨p.bits, (m : Int), cutB k m⟩) 25)) := fun w7 => by
                rw [run_preStore (heap_alloc_new _ _) rfl, World.setRow_alloc_new]
              have hu := Try.underlying23
              have hi : (Try.prog.info? 23).map (·.size) = some (kl k).length := by rw [infoKey]; simp [kl]
              clear hS hcut
              have hj1 : (j : Int) ≤ 128 := by omega
              go_wp2
              clear rp rk lp kp lk bp np
              have hwr : IntKind.i64.wrap ((j : Int) + 1) = (m : Int) := by rw [IntKind.wrap_i64]; omega
              have HM1 := Lib.hid hm1
              have HLB := Lib.hid hlb
              clear hm1 hlb hd
              go_region_held3 (fun w' => w'.rangeAt (w.heap.size + 1) 0 (kl k) ∧ w'.cell? ⟨w.heap.size, 0, none⟩ = some (.int .i64 p.bits) ∧ w'.cell? ⟨w.heap.size, 1, none⟩ = some (.int .i64 (j : Int)))
                ((refine HS.out _ ?_; first | (with_reducible exact h6) | (with_reducible exact h6.drew) | (with_reducible exact h8) | (with_reducible exact h8.alloc h8.size _) | exact (h6.alloc h6.size _).drew | exact h6.alloc h6.size _ | exact below_setRow h8 h6.size _))
                (first
                  | (go_at_call 11; (with_reducible refine (HCUT.out _).mono ?_); rintro e w7 ⟨rfl, h7⟩; have h8 : Below W.heap.size W w7 := h6.drew.trans (h7.mono h6.drew.size))
                  | (go_at_call 11; (with_reducible refine (HCUT.out _).mono ?_); rintro e w7 ⟨rfl, h7⟩; have h8 : Below W.heap.size W w7 := ((h6.alloc h6.size _).drew).trans (h7.mono ((h6.alloc h6.size _).drew).size); have st := run_preStore (p := ⟨p.bits, (m : Int), cutB k m⟩) (w := w7) (g := w6.heap.size) ((h7.block w6.heap.size (by simp)).trans (heap_alloc_new w6 _)) rfl))
              all_goals
                clear hbuild hu hi hwr
                first
                  | (have hst := st
                     have hR : RowAt (w7.setRow w6.heap.size (pc ⟨p.bits, (m : Int), cutB k m⟩)) w6.heap.size 0 (pc ⟨p.bits, (m : Int), cutB k m⟩) := fun i v hv => by
                       rw [cell_of_row _ _ _ _ _ _ (setRow_heap w7 w6.heap.size _ _ _ _ ((h7.block w6.heap.size (by simp)).trans (heap_alloc_new w6 _)))]; simpa using hv
                     have hB : Below W.heap.size W (w7.setRow w6.heap.size (pc ⟨p.bits, (m : Int), cutB k m⟩)) := below_setRow h8 h6.size _
                     have hlt8 : w6.heap.size < (w7.setRow w6.heap.size (pc ⟨p.bits, (m : Int), cutB k m⟩)).heap.size := by have := h7.size; simp at this ⊢; omega
                     have hge8 : W.heap.size ≤ w6.heap.size := h6.size
                     clear hst st h7 h8
                     generalize w7.setRow w6.heap.size (pc ⟨p.bits, (m : Int), cutB k m⟩) = W8 at hR hB hlt8 ⊢
                     generalize w6.heap.size = g8 at hR hlt8 hge8 ⊢)
                  | (have hR := rowAt_new w7 (pc ⟨p.bits, (m : Int), cutB k m⟩) 25
                     have hB : Below W.heap.size W (w7.alloc (.cells (pc ⟨p.bits, (m : Int), cutB k m⟩) 25)) := h8.alloc h8.size _
                     have hlt8 : w7.heap.size < (w7.alloc (.cells (pc ⟨p.bits, (m : Int), cutB k m⟩) 25)).heap.size := by simp
                     have hge8 : W.heap.size ≤ w7.heap.size := h8.size
                     clear h7 h8
                     generalize w7.alloc (.cells (pc ⟨p.bits, (m : Int), cutB k m⟩) 25) = W8 at hR hB hlt8 ⊢
                     generalize w7.heap.size = g8 at hR hlt8 hge8 ⊢)
                clear h6
                have lown := run_preLoad hR
                go_wp2
                clear hstore lown
                have h9 : Below W.heap.size W (W8.alloc (.cells (pc ⟨p.bits, (m : Int), cutB k m⟩) 25)) := hB.alloc hB.size _
                have hR9 : RowAt (W8.alloc (.cells (pc ⟨p.bits, (m : Int), cutB k m⟩) 25)) g8 0 (pc ⟨p.bits, (m : Int), cutB k m⟩) := hR.below (B := W8.heap.size) ((Below.refl _ _).alloc (Nat.le_refl _) _) hlt8
                have g9 := heap_alloc_new W8 (.cells (pc ⟨p.bits, (m : Int), cutB k m⟩) 25)
                have hz9 : (W8.alloc (.cells (pc ⟨p.bits, (m : Int), cutB k m⟩) 25)).heap.size = W8.heap.size + 1 := by simp
                generalize W8.alloc (.cells (pc ⟨p.bits, (m : Int), cutB k m⟩) 25) = W9 at h9 hR9 g9 hz9 ⊢
                have hB8 := hB.size
                clear hR hB
                generalize W8.heap.size = o9 at g9 hz9 hlt8 hB8 ⊢
                obtain ⟨x, hx⟩ : ∃ x, x = cutB k m (j / 8) := ⟨_, rfl⟩
                have hx256 : x < 256 := by rw [hx]; exact cutB_bytes hk m _
                have hval := flip_value x j hx256
                obtain ⟨y, hy⟩ : ∃ y, y = x ^^^ (128 / 2 ^ (j % 8)) := ⟨_, rfl⟩
                rw [← hy] at hval
                have hlt128 : j < 128 := by
                  have hmm := may_len HM.out hp
                  have := HLB.out
                  have := HL.out
                  omega
                have hcell : W9.cell? ⟨o9, 2 + j / 8, none⟩ = some (.int .u8 (x : Int)) := by
                  rw [cell_of_row W9 _ _ _ _ _ g9, pc_at _ _ (by omega), hx]
                have hfro : W9.frozen? ⟨o9, 2 + j / 8, none⟩ = false := frozen_of_row W9 _ _ _ _ g9
                have hnp := (HS.out W9 h9).2.2
                have hrow : (W9.setCell ⟨o9, 2 + j / 8, none⟩ (.int .u8 (y : Int))).drew.heap[o9]? = some (.cells (pc ⟨p.bits, (m : Int), flipB (cutB k m) j⟩) 25 (0, 0)) := by
                  rw [heap_drew, heap_setCell_same W9 _ _ _ _ _ g9, pc_set _ _ _ _ _ (by omega) (by rw [hy, hx])]
                have hW0 := HZ.out
                have hown : RowAt (W9.setCell ⟨o9, 2 + j / 8, none⟩ (.int .u8 (y : Int))).drew g8 0 (pc ⟨p.bits, (m : Int), cutB k m⟩) := hR9.below (B := o9) ((Below.refl o9 W9).setCell (p := ⟨o9, 2 + j / 8, none⟩) (by simp) _).drew hlt8
                have hoth : RowAt (W9.setCell ⟨o9, 2 + j / 8, none⟩ (.int .u8 (y : Int))).drew o9 0 (pc ⟨p.bits, (m : Int), flipB (cutB k m) j⟩) := fun i v hv => by
                  rw [cell_of_row _ _ _ _ _ _ hrow]; simpa using hv
                have h10 : Below W.heap.size W (W9.setCell ⟨o9, 2 + j / 8, none⟩ (.int .u8 (y : Int))).drew := (h9.setCell (by simp; omega) _).drew
                have hz10 : o9 < (W9.setCell ⟨o9, 2 + j / 8, none⟩ (.int .u8 (y : Int))).drew.heap.size := by simp; omega
                obtain ⟨j8, hj8⟩ : ∃ j8, j8 = j / 8 := ⟨_, rfl⟩
                obtain ⟨r, hr⟩ : ∃ r, r = j % 8 := ⟨_, rfl⟩
                have w8 : IntKind.i64.wrap ((j : Int) / 8) = (j8 : Int) := by rw [IntKind.wrap_i64]; omega
                have wr8 : (j : Int).tmod 8 = (r : Int) := by rw [Int.tmod_eq_emod_of_nonneg (by omega)]; omega
                have wu : IntKind.u64.wrap (r : Int) = (r : Int) := by rw [IntKind.wrap_u64]; omega
                have i1 : (j8 : Int) < 16 := by omega
                have i2 : j8 < 16 := by omega
                have i3 : (r : Int) < 8 := by omega
                have i4 : r < 8 := by omega
                rw [← hj8] at hcell hfro hrow hown hoth h10 hz10
                rw [← hr] at hval hy
                have HX := Lib.hid (⟨hx, hy, hj8, hr⟩ : x = cutB k m (j / 8) ∧ y = x ^^^ (128 / 2 ^ r) ∧ j8 = j / 8 ∧ r = j % 8)
                clear hx hy hj8 hr hR9 g9 hz9 h9 hrow hlt128 hW0 hx256
                have hlong := longer (l := j) hp hk HM.out HL.out (by have hmm := may_len HM.out hp; have := HLB.out; have := HL.out; omega) HFF.out
                rw [← HM1.out] at hlong
                have bo := cutB_bytes hk m
                have bf := flip_bytes bo j
                have F1 := Lib.hid (fun w => calls_of_eq (fits_any ⟨p.bits, (m : Int), cutB k m⟩ k bo hk w) (congrArg Value.bool hlong.1))
                have F2 := Lib.hid (fun w => calls_of_eq (fits_any ⟨p.bits, (m : Int), flipB (cutB k m) j⟩ k bf hk w) (congrArg Value.bool hlong.2.1))
                have V1 := Lib.hid (fun w => calls_of_eq (covers_any p ⟨p.bits, (m : Int), cutB k m⟩ hp bo w) (congrArg Value.bool hlong.2.2.1))
                have V2 := Lib.hid (fun w => calls_of_eq (covers_any p ⟨p.bits, (m : Int), flipB (cutB k m) j⟩ hp bf w) (congrArg Value.bool hlong.2.2.2.1))
                have V3 := Lib.hid (fun w => calls_of_eq (covers_any ⟨p.bits, (m : Int), cutB k m⟩ ⟨p.bits, (m : Int), flipB (cutB k m) j⟩ bo bf w) (congrArg Value.bool hlong.2.2.2.2))
                clear hlong bo bf
                go_still_tail 17, (by kernel_rfl)
                change wpList _ _ _ _ _ W9.drew
                have lown := run_preLoad hown
                have loth := run_preLoad hoth
                obtain ⟨lp, kp, lk, bp, np⟩ := preKey_of (HK.out _ h10).1 (HK.out _ h10).2
                have hT : ∀ w', Below (W9.setCell ⟨o9, 2 + j8, none⟩ (.int .u8 (y : Int))).drew.heap.size (W9.setCell ⟨o9, 2 + j8, none⟩ (.int .u8 (y : Int))).drew w' →
                    ((preLoad ⟨w.heap.size, 0, none⟩).run Try.prog w' = .ok (.agg (pc p)) w' ∧ (keyLoad ⟨w.heap.size + 1, 0, none⟩).run Try.prog w' = .ok (.agg (kc k)) w' ∧
                    (preLoad ⟨g8, 0, none⟩).run Try.prog w' = .ok (.agg (pc ⟨p.bits, (m : Int), cutB k m⟩)) w' ∧ (preLoad ⟨o9, 0, none⟩).run Try.prog w' = .ok (.agg (pc ⟨p.bits, (m : Int), flipB (cutB k m) j⟩)) w') ∧ Below w.heap.size w w' := by
                  intro w' h'
                  have h11 := h10.trans (h'.mono h10.size)
                  obtain ⟨lp, kp, lk, bp, np⟩ := preKey_of (HK.out _ h11).1 (HK.out _ h11).2
                  exact ⟨⟨lp, lk, run_preLoad (hown.below h' (by omega)), run_preLoad (hoth.below h' hz10)⟩, hb.trans (h11.mono hb.size)⟩
                have HT := Lib.hid hT
                clear hT kp bp np hown hoth hz10 h10 hnp w8 wr8 wu i1 i2 i3 i4 hval
                go_wp2_with fail
                refine (F1.out _).mono ?_
                clear lp lk lown loth
                rintro e v1 ⟨rfl, q1⟩
                obtain ⟨⟨lp, lk, lown, loth⟩, b1⟩ := HT.out v1 q1
                go_wp2_with fail
                refine (F2.out _).mono ?_
                clear lp lk lown loth
                rintro e v2 ⟨rfl, r2⟩
                have q2 := q1.trans (r2.mono q1.size)
                clear r2 q1 b1
                obtain ⟨⟨lp, lk, lown, loth⟩, b2⟩ := HT.out v2 q2
                go_wp2_with fail
                refine (V1.out _).mono ?_
                clear lp lk lown loth
                rintro e v3 ⟨rfl, r3⟩
                have q3 := q2.trans (r3.mono q2.size)
                clear r3 q2 b2
                obtain ⟨⟨lp, lk, lown, loth⟩, b3⟩ := HT.out v3 q3
                go_wp2_with fail
                refine (V2.out _).mono ?_
                clear lp lk lown loth
                rintro e v4 ⟨rfl, r4⟩
                have q4 := q3.trans (r4.mono q3.size)
                clear r4 q3 b3
                obtain ⟨⟨lp, lk, lown, loth⟩, b4⟩ := HT.out v4 q4
                go_wp2_with fail
                refine (V3.out _).mono ?_
                clear lp lk lown loth
                rintro e v5 ⟨rfl, r5⟩
                have q5 := q4.trans (r5.mono q4.size)
                clear r5 q4 b4
                obtain ⟨⟨lp, lk, lown, loth⟩, b5⟩ := HT.out v5 q5
                go_wp2
                go_ret
                exact ⟨rfl, b5⟩

theorem walk (p : Pre) (k : Nat → Nat) (hp : Bytes16 p.key) (_ : I64 p.bits) (_ : I64 p.len) (hk : Bytes16 k) (w : World) :
    Calls Try.prog 7 #[.agg (pc p), .agg (kc k)] w fun e w' => e = .returned (.bool true) ∧ Below w.heap.size w w' := by
  by_cases h : mayB p = true ∧ endsB k p.bits.toNat = true
  · obtain ⟨h1, h2⟩ := h
    have hl := (may_len h1 hp).1
    exact walk_yes p k hp hk h1 h2 p.len.toNat (by omega) w
  · exact walk_no p k hp hk h w

end keySteps
end Go.Proofs.Ytpjmhdolmemmlaa
