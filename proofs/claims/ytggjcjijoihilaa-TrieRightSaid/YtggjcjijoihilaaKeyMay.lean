/- key.May, Fits, Covers: what each call hands back; of what was there nothing has turned. key.Covers: what each call hands back; of what was there nothing has turned. bytes.Compare of two keys that lie in memory. key.Less: what each call hands back; of what was there nothing has turned. -/
import Derived.Test.YtggjcjijoihilaaKeyEnds
import Derived.Laws.Externs
namespace Go.Proofs.Ytggjcjijoihilaa
open Go.RowKit Go.Sort
attribute [local go_sem ↓] loadVar_key loadVar_pre

theorem ret_bool {a b : Bool} (h : a = b) : Ending.returned (.bool a) = .returned (.bool b) := by rw [h]

theorem RowAt.bits {w : World} {b off : Nat} {p : Pre} (h : RowAt w b off (pc p)) : w.cell? ⟨b, off, none⟩ = some (.int .i64 p.bits) := h 0 _ (pc_bits p)
theorem RowAt.len {w : World} {b off : Nat} {p : Pre} (h : RowAt w b off (pc p)) : w.cell? ⟨b, off + 1, none⟩ = some (.int .i64 p.len) := h 1 _ (pc_len p)

set_option maxHeartbeats 400000 in
set_option maxRecDepth 100000 in
theorem may_no (p : Pre) (h : ¬ (p.bits = 32 ∨ p.bits = 128)) (w : World) :
    Calls Try.prog 35 #[.agg (pc p)] w fun e w' => e = .returned (.bool false) ∧ Below w.heap.size w w' := by
  have h1 : (p.bits != 32) = true := by rw [bne_iff_ne]; omega
  have h2 : (p.bits != 128) = true := by rw [bne_iff_ne]; omega
  have hp := pc_bits p
  go_enter Try.func35, Try.ntmps35
  go_wp2
  go_ret
  exact ⟨rfl, (Below.refl _ _).alloc (Nat.le_refl _) _⟩

set_option maxHeartbeats 1000000 in
set_option maxRecDepth 100000 in
theorem may_yes (p : Pre) (b2 : Bool) (h1 : (p.bits != 32) = b2) (h2 : b2 = true → (p.bits != 128) = false) (hk : Bytes16 p.key) (w : World) :
    Calls Try.prog 35 #[.agg (pc p)] w fun e w' => e = .returned (.bool (decide (0 ≤ p.len) && decide (p.len ≤ p.bits) && endsB p.key p.len.toNat)) ∧ Below w.heap.size w w' := by
  have hr := rowAt_new w (pc p) 26
  have hb : Below w.heap.size w (w.alloc (.cells (pc p) 26)) := (Below.refl _ _).alloc (Nat.le_refl _) _
  have hp := pc_bits p
  have hq := pc_len p
  have L := run_keyLoad hr.key
  have hsz : (w.alloc (.cells (pc p) 26)).heap.size = w.heap.size + 1 := by simp
  cases b2 with
  | true =>
    have h2 := h2 rfl
    by_cases h3 : 0 ≤ p.len
    · by_cases h4 : p.len ≤ p.bits
      · have HF : Hid ((decide (0 ≤ p.len) && decide (p.len ≤ p.bits) && endsB p.key p.len.toNat) = endsB p.key p.len.toNat) := by show _ = _; simp [h3, h4]
        go_enter Try.func35, Try.ntmps35
        go_wp2_with (go_at_call 63; refine (ends_any cut_any p.key p.len _ hk).mono ?_; rintro e w' ⟨rfl, hb1⟩)
        go_ret
        exact ⟨ret_bool HF.out.symm, hb.trans (hb1.mono (by rw [hsz]; omega))⟩
      · go_enter Try.func35, Try.ntmps35
        go_wp2
        go_ret
        exact ⟨ret_bool (by simp; intro h5; omega), hb⟩
    · have HF : Hid ((decide (0 ≤ p.len) && decide (p.len ≤ p.bits) && endsB p.key p.len.toNat) = false) := by show _ = _; simp [h3]
      go_enter Try.func35, Try.ntmps35
      go_wp2
      go_ret
      exact ⟨ret_bool HF.out.symm, hb⟩
  | false =>
    clear h2
    by_cases h3 : 0 ≤ p.len
    · by_cases h4 : p.len ≤ p.bits
      · have HF : Hid ((decide (0 ≤ p.len) && decide (p.len ≤ p.bits) && endsB p.key p.len.toNat) = endsB p.key p.len.toNat) := by show _ = _; simp [h3, h4]
        go_enter Try.func35, Try.ntmps35
        go_wp2_with (go_at_call 63; refine (ends_any cut_any p.key p.len _ hk).mono ?_; rintro e w' ⟨rfl, hb1⟩)
        go_ret
        exact ⟨ret_bool HF.out.symm, hb.trans (hb1.mono (by rw [hsz]; omega))⟩
      · go_enter Try.func35, Try.ntmps35
        go_wp2
        go_ret
        exact ⟨ret_bool (by simp; intro h5; omega), hb⟩
    · have HF : Hid ((decide (0 ≤ p.len) && decide (p.len ≤ p.bits) && endsB p.key p.len.toNat) = false) := by show _ = _; simp [h3]
      go_enter Try.func35, Try.ntmps35
      go_wp2
      go_ret
      exact ⟨ret_bool HF.out.symm, hb⟩

theorem may_any (p : Pre) (hk : Bytes16 p.key) (w : World) :
    Calls Try.prog 35 #[.agg (pc p)] w fun e w' => e = .returned (.bool (mayB p)) ∧ Below w.heap.size w w' := by
  by_cases h : p.bits = 32 ∨ p.bits = 128
  · have e : mayB p = (decide (0 ≤ p.len) && decide (p.len ≤ p.bits) && endsB p.key p.len.toNat) := by
      unfold mayB
      have : (p.bits == 32 || p.bits == 128) = true := by simpa using h
      rw [this, Bool.true_and]
    rw [e]
    exact may_yes p _ rfl (fun h2 => by rw [bne_iff_ne] at h2; rw [bne_eq_false_iff_eq]; omega) hk w
  · have e : mayB p = false := by
      unfold mayB
      have : (p.bits == 32 || p.bits == 128) = false := by simpa using h
      rw [this]; rfl
    rw [e]
    exact may_no p h w

/-- A contract of a callee in a region that draws its order: met in every world that may stand there. -/
theorem fits_cases (p : Pre) (k : Nat → Nat) : fitsB p k = if mayB p = true then (if endsB k p.bits.toNat = true then decide (p.len ≤ (com p.key k : Int)) else false) else false := by
  unfold fitsB
  cases mayB p <;> cases endsB k p.bits.toNat <;> simp

set_option maxHeartbeats 1000000 in
set_option maxRecDepth 100000 in
theorem fits_any (p : Pre) (k : Nat → Nat) (hp : Bytes16 p.key) (hk : Bytes16 k) (w : World) :
    Calls Try.prog 34 #[.agg (pc p), .agg (kc k)] w fun e w' => e = .returned (.bool (fitsB p k)) ∧ Below w.heap.size w w' := by
  have hb : Below w.heap.size w ((w.alloc (.cells (pc p) 26)).alloc (.cells (kc k) 24)) := ((Below.refl _ _).alloc (Nat.le_refl _) _).alloc (by simp) _
  have rp : RowAt ((w.alloc (.cells (pc p) 26)).alloc (.cells (kc k) 24)) w.heap.size 0 (pc p) := (rowAt_new w (pc p) _).below (B := w.heap.size + 1) ((Below.refl _ _).alloc (by simp) _) (by omega)
  have rk : RowAt ((w.alloc (.cells (pc p) 26)).alloc (.cells (kc k) 24)) (w.heap.size + 1) 0 (kc k) := by simpa using rowAt_new (w.alloc (.cells (pc p) 26)) (kc k) 24
  have HF := show Hid _ from fits_cases p k
  cases hm : mayB p with
  | false =>
    rw [hm] at HF
    have HM := show Hid _ from hm
    clear hm
    go_enter Try.func34, Try.ntmps34
    go_wp2
    generalize (w.alloc (.cells (pc p) 26)).alloc (.cells (kc k) 24) = W at *
    have L1 := fun d os => run_preLoad (rowAt_regrown rp d os)
    have C1 := fun d os => Calls.regrown_of (may_any p hp (grow (redrawn W d) os))
    rw [HM.out] at C1
    refine wp_region_quiet_below (by kernel_rfl) (by kernel_rfl) ?_
    repeat (go_big_quiet_step (exact C1 _ _))
    refine wpQuiet_nil fun w1 hw1 => ?_
    have hb1 : Below w.heap.size w w1 := by
      obtain ⟨p, rfl⟩ := hw1
      exact hb.trans ((below_regrown W p.d p.os).mono hb.size)
    clear hw1 L1 C1
    go_wp2
    go_ret
    exact ⟨ret_bool (by rw [HF.out]; rfl), hb1⟩
  | true =>
    rw [hm] at HF
    have HM := show Hid _ from hm
    clear hm
    cases he : endsB k p.bits.toNat with
    | false =>
      rw [he] at HF
      have HE := show Hid _ from he
      clear he
      go_enter Try.func34, Try.ntmps34
      go_wp2
      generalize (w.alloc (.cells (pc p) 26)).alloc (.cells (kc k) 24) = W at *
      have L1 := fun d os => run_preLoad (rowAt_regrown rp d os)
      have L2 := fun d os => run_keyLoad (rowAt_regrown rk d os)
      have c0 := cell_regrown rp.bits
      have C1 := fun d os => Calls.regrown_of (may_any p hp (grow (redrawn W d) os))
      have C2 := fun d os => Calls.regrown_of (ends_any cut_any k p.bits (grow (redrawn W d) os) hk)
      rw [HM.out] at C1
      rw [HE.out] at C2
      refine wp_region_quiet_below (by kernel_rfl) (by kernel_rfl) ?_
      repeat (go_big_quiet_step (first | exact C1 _ _ | exact C2 _ _))
      refine wpQuiet_nil fun w1 hw1 => ?_
      have hb1 : Below w.heap.size w w1 := by
        obtain ⟨p, rfl⟩ := hw1
        exact hb.trans ((below_regrown W p.d p.os).mono hb.size)
      clear hw1 L1 C1 L2 C2 c0
      go_wp2
      go_ret
      exact ⟨ret_bool (by rw [HF.out]; rfl), hb1⟩
    | true =>
      rw [he] at HF
      have HE := show Hid _ from he
      clear he
      go_enter Try.func34, Try.ntmps34
      go_wp2
      generalize (w.alloc (.cells (pc p) 26)).alloc (.cells (kc k) 24) = W at *
      have L1 := fun d os => run_preLoad (rowAt_regrown rp d os)
      have L2 := fun d os => run_keyLoad (rowAt_regrown rk d os)
      have L3 := fun d os => run_keyLoad (rowAt_regrown rp.key d os)
      have c0 := cell_regrown rp.bits
      have c1 := cell_regrown rp.len
      have C1 := fun d os => Calls.regrown_of (may_any p hp (grow (redrawn W d) os))
      have C2 := fun d os => Calls.regrown_of (ends_any cut_any k p.bits (grow (redrawn W d) os) hk)
      have C3 := fun d os => Calls.regrown_of (com_any p.key k (grow (redrawn W d) os) hp hk)
      rw [HM.out] at C1
      rw [HE.out] at C2
      simp only [Nat.zero_add] at L3 c1
      refine wp_region_quiet_below (by kernel_rfl) (by kernel_rfl) ?_
      repeat (go_big_quiet_step (first | exact C1 _ _ | exact C2 _ _ | exact C3 _ _))
      refine wpQuiet_nil fun w1 hw1 => ?_
      have hb1 : Below w.heap.size w w1 := by
        obtain ⟨p, rfl⟩ := hw1
        exact hb.trans ((below_regrown W p.d p.os).mono hb.size)
      clear hw1 L1 C1 L2 C2 L3 C3 c0 c1
      go_wp2
      go_ret
      exact ⟨ret_bool (by rw [HF.out]; rfl), hb1⟩

end Go.Proofs.Ytggjcjijoihilaa
namespace Go.Proofs.Ytggjcjijoihilaa
open Go.RowKit Go.Sort
attribute [local go_sem ↓] loadVar_key loadVar_pre

theorem covers_cases (p q : Pre) : coversB p q = if mayB q = true then (if (p.bits == q.bits) = true then (if p.len ≤ q.len then fitsB p q.key else false) else false) else false := by
  unfold coversB
  by_cases h : p.len ≤ q.len <;> cases mayB q <;> cases p.bits == q.bits <;> simp [h]

/-- What is known of a world in which two prefixes lie, one block behind the other. -/
structure TwoPre (w : World) (B : Nat) (p q : Pre) : Prop where
  lp : (preLoad ⟨B, 0, none⟩).run Try.prog w = .ok (.agg (pc p)) w
  lq : (preLoad ⟨B + 1, 0, none⟩).run Try.prog w = .ok (.agg (pc q)) w
  kp : (keyLoad ⟨B, 2, none⟩).run Try.prog w = .ok (.agg (kc p.key)) w
  kq : (keyLoad ⟨B + 1, 2, none⟩).run Try.prog w = .ok (.agg (kc q.key)) w
  bp : w.cell? ⟨B, 0, none⟩ = some (.int .i64 p.bits)
  bq : w.cell? ⟨B + 1, 0, none⟩ = some (.int .i64 q.bits)
  np : w.cell? ⟨B, 1, none⟩ = some (.int .i64 p.len)
  nq : w.cell? ⟨B + 1, 1, none⟩ = some (.int .i64 q.len)

theorem twoPre_of {w : World} {B : Nat} {p q : Pre} (rp : RowAt w B 0 (pc p)) (rq : RowAt w (B + 1) 0 (pc q)) : TwoPre w B p q :=
  ⟨run_preLoad rp, run_preLoad rq, run_keyLoad rp.key, run_keyLoad rq.key, rp.bits, rq.bits, by simpa using rp.len, by simpa using rq.len⟩

theorem rows_two (w : World) (a b : Array Value) (s t : TypeId) : RowAt ((w.alloc (.cells a s)).alloc (.cells b t)) w.heap.size 0 a ∧ RowAt ((w.alloc (.cells a s)).alloc (.cells b t)) (w.heap.size + 1) 0 b ∧
    Below w.heap.size w ((w.alloc (.cells a s)).alloc (.cells b t)) ∧ ((w.alloc (.cells a s)).alloc (.cells b t)).heap.size = w.heap.size + 2 :=
  ⟨(rowAt_new w a _).below (B := w.heap.size + 1) ((Below.refl _ _).alloc (by simp) _) (by omega), by simpa using rowAt_new (w.alloc (.cells a s)) b t, ((Below.refl _ _).alloc (Nat.le_refl _) _).alloc (by simp) _, by simp⟩

set_option maxHeartbeats 2000000 in
set_option maxRecDepth 100000 in
theorem covers_any (p q : Pre) (hp : Bytes16 p.key) (hq : Bytes16 q.key) (w : World) :
    Calls Try.prog 38 #[.agg (pc p), .agg (pc q)] w fun e w' => e = .returned (.bool (coversB p q)) ∧ Below w.heap.size w w' := by
  obtain ⟨rp, rq, hb, hz⟩ := rows_two w (pc p) (pc q) 26 26
  have C1 := may_any q hq ((w.alloc (.cells (pc p) 26)).alloc (.cells (pc q) 26))
  have HZ := Lib.hid hz
  clear hz
  have HF := Lib.hid (covers_cases p q)
  have T : ∀ w1, Below ((w.alloc (.cells (pc p) 26)).alloc (.cells (pc q) 26)).heap.size ((w.alloc (.cells (pc p) 26)).alloc (.cells (pc q) 26)) w1 → TwoPre w1 w.heap.size p q ∧ Below w.heap.size w w1 :=
    fun w1 h => ⟨twoPre_of (rp.below h (by rw [HZ.out]; omega)) (rq.below h (by rw [HZ.out]; omega)), hb.trans (h.mono hb.size)⟩
  obtain ⟨lp, lq, kp, kq, bp, bq, np, nq⟩ := twoPre_of rp rq
  have HT := Lib.hid T
  clear T hb
  cases hm : mayB q with
  | false =>
    rw [hm] at HF C1
    have HC := Lib.hid C1
    clear hm C1
    go_enter Try.func38, Try.ntmps38
    go_wp2_with (go_at_call 35; refine HC.out.mono ?_; rintro e w1 ⟨rfl, h1⟩; obtain ⟨-, hb1⟩ := HT.out w1 h1)
    go_ret
    exact ⟨ret_bool (by rw [HF.out]; rfl), hb1⟩
  | true =>
    rw [hm] at HF C1
    have HC := Lib.hid C1
    clear hm C1
    cases he : p.bits == q.bits with
    | false =>
      rw [he] at HF
      go_enter Try.func38, Try.ntmps38
      go_wp2_with (go_at_call 35; refine HC.out.mono ?_; rintro e w1 ⟨rfl, h1⟩; obtain ⟨⟨lp, lq, kp, kq, bp, bq, np, nq⟩, hb1⟩ := HT.out w1 h1)
      go_ret
      exact ⟨ret_bool (by rw [HF.out]; rfl), hb1⟩
    | true =>
      rw [he] at HF
      by_cases hl : p.len ≤ q.len
      · rw [if_pos hl] at HF
        go_enter Try.func38, Try.ntmps38
        go_wp2_with (first
          | (go_at_call 35; refine HC.out.mono ?_; rintro e w1 ⟨rfl, h1⟩; obtain ⟨⟨lp, lq, kp, kq, bp, bq, np, nq⟩, hb1⟩ := HT.out w1 h1)
          | (go_at_call 34; refine (fits_any p q.key hp hq _).mono ?_; rintro e w2 ⟨rfl, h2⟩))
        go_ret
        exact ⟨ret_bool (by rw [HF.out]; rfl), hb1.trans (h2.mono hb1.size)⟩
      · rw [if_neg hl] at HF
        have hl2 : decide (p.len ≤ q.len) = false := by simpa using hl
        go_enter Try.func38, Try.ntmps38
        go_wp2_with (go_at_call 35; refine HC.out.mono ?_; rintro e w1 ⟨rfl, h1⟩; obtain ⟨⟨lp, lq, kp, kq, bp, bq, np, nq⟩, hb1⟩ := HT.out w1 h1)
        go_ret
        exact ⟨ret_bool (by rw [HF.out]; rfl), hb1⟩

end Go.Proofs.Ytggjcjijoihilaa
namespace Go.Proofs.Ytggjcjijoihilaa
open Go.RowKit Go.Sort

def kbytes (k : Nat → Nat) : ByteArray := ⟨((List.range' 0 16).map fun j => UInt8.ofNat (k j)).toArray⟩

theorem kbytes_size (k : Nat → Nat) : (kbytes k).size = 16 := by simp [kbytes, ByteArray.size]
theorem kbytes_at (k : Nat → Nat) (i : Nat) (h : i < 16) : (kbytes k)[i]! = UInt8.ofNat (k i) := by
  have e : (kbytes k).data[i]? = some (UInt8.ofNat (k i)) := by simp [kbytes, h]
  have hs : i < (kbytes k).size := by rw [kbytes_size]; exact h
  rw [getElem!_pos (kbytes k) i hs]
  have := Array.getElem?_eq_some_iff.1 e
  exact this.2

theorem run_loadBytes {P : Program} {w : World} {b off : Nat} (k : Nat → Nat) : ∀ (n i : Nat) (acc : ByteArray), (∀ j, i ≤ j → j < i + n → w.cell? ⟨b, off + j, none⟩ = some (.int .u8 (k j : Nat))) →
    (Extern.Bytes.loadBytes ⟨b, off + i, none⟩ n acc).run P w = .ok ⟨acc.data ++ ((List.range' i n).map fun j => UInt8.ofNat (k j)).toArray⟩ w
  | 0, i, acc, _ => by simp [Extern.Bytes.loadBytes]
  | n + 1, i, acc, h => by
    have h0 := h i (Nat.le_refl _) (by omega)
    have ih := run_loadBytes (P := P) (w := w) (b := b) (off := off) k n (i + 1) (acc.push (UInt8.ofNat (k i))) (fun j h1 h2 => h j (by omega) (by omega))
    have hadd : (⟨b, off + i, none⟩ : Addr).add 1 = ⟨b, off + (i + 1), none⟩ := by simp [Addr.add, Nat.add_assoc]
    simp only [Extern.Bytes.loadBytes, Sem.run_bind, run_load, h0, Result.andThen, hadd, Int.toNat_natCast, Nat.toUInt8_eq, ih]
    congr 2
    simp [ByteArray.push, List.range'_succ]

theorem run_bytesOf_key {P : Program} {w : World} {b off : Nat} {k : Nat → Nat} (h : RowAt w b off (kc k)) (c : Nat) : (Extern.Bytes.bytesOf (.slice (some ⟨b, off, none⟩) 16 c)).run P w = .ok (kbytes k) w := by
  have := run_loadBytes (P := P) (w := w) (b := b) (off := off) k 16 0 .empty (fun j _ h2 => h j _ (kc_at k j (by omega)))
  simp only [Nat.add_zero] at this
  show (Extern.Bytes.loadBytes ⟨b, off, none⟩ 16 .empty).run P w = _
  rw [this]
  congr 2

def numCmp (a b : Nat → Nat) : Int := if num a < num b then -1 else if num a = num b then 0 else 1

theorem ofNat_ne {x y : Nat} (hx : x < 256) (hy : y < 256) : (UInt8.ofNat x != UInt8.ofNat y) = true ↔ x ≠ y := by
  rw [bne_iff_ne]
  constructor
  · intro h e; exact h (by rw [e])
  · intro h e
    have := congrArg UInt8.toNat e
    simp [Nat.mod_eq_of_lt hx, Nat.mod_eq_of_lt hy] at this
    exact h this

theorem cmp_keys {a b : Nat → Nat} (ha : Bytes16 a) (hb : Bytes16 b) : Extern.BytealgCompare.cmp (kbytes a) (kbytes b) = numCmp a b := by
  unfold Extern.BytealgCompare.cmp numCmp
  rw [kbytes_size, kbytes_size]
  rcases first_byte (a := a) (b := b) with h | ⟨c, h1, h2, h3⟩
  · have hf : (List.range (min 16 16)).find? (fun i => (kbytes a)[i]! != (kbytes b)[i]!) = none := by
      rw [List.find?_eq_none]
      intro i hi
      have hi : i < 16 := by simpa using hi
      rw [kbytes_at a i hi, kbytes_at b i hi, h i hi]; simp
    rw [hf, num_same h]; simp
  · have hf : (List.range (min 16 16)).find? (fun i => (kbytes a)[i]! != (kbytes b)[i]!) = some c := by
      rw [List.find?_range_eq_some]
      refine ⟨?_, by simpa using h1, fun j hj => ?_⟩
      · rw [kbytes_at a c h1, kbytes_at b c h1]; exact (ofNat_ne (ha c) (hb c)).2 h3
      · rw [kbytes_at a j (by omega), kbytes_at b j (by omega), h2 j hj]; simp
    rw [hf]
    simp only [kbytes_at a c h1, kbytes_at b c h1]
    by_cases hl : a c < b c
    · rw [if_pos (num_lt ha c h1 h2 hl), if_pos (by rw [UInt8.lt_iff_toNat_lt]; simpa [Nat.mod_eq_of_lt (ha c), Nat.mod_eq_of_lt (hb c)] using hl)]
    · have hg := num_lt hb c h1 (fun j hj => (h2 j hj).symm) (show b c < a c by omega)
      rw [if_neg (show ¬ UInt8.ofNat (a c) < UInt8.ofNat (b c) by rw [UInt8.lt_iff_toNat_lt]; simpa [Nat.mod_eq_of_lt (ha c), Nat.mod_eq_of_lt (hb c)] using hl), if_neg (show ¬ num a < num b by omega), if_neg (show ¬ num a = num b by omega)]

theorem run_cmp_extern (args : Array Value) (w : World) : (callFunc 85 args).run Try.prog w = ((Extern.BytealgCompare.compare args).run Try.prog w).andThen fun v w' => .ok (.value v) w' :=
  run_callFunc_extern Try.func85 (by kernel_rfl) (by kernel_rfl) (by kernel_rfl) (by kernel_rfl) args w

theorem run_cmp_keys {w : World} {b1 o1 b2 o2 c1 c2 : Nat} {a b : Nat → Nat} (ha : Bytes16 a) (hb : Bytes16 b) (h1 : RowAt w b1 o1 (kc a)) (h2 : RowAt w b2 o2 (kc b)) :
    (callFunc 85 #[.slice (some ⟨b1, o1, none⟩) 16 c1, .slice (some ⟨b2, o2, none⟩) 16 c2]).run Try.prog w = .ok (.value (.int .i64 (numCmp a b))) w := by
  rw [run_cmp_extern]
  have e : (Extern.BytealgCompare.compare #[.slice (some ⟨b1, o1, none⟩) 16 c1, .slice (some ⟨b2, o2, none⟩) 16 c2]).run Try.prog w = .ok (.int .i64 (numCmp a b)) w := by
    change Sem.run Try.prog (do
      let x ← Extern.Bytes.bytesOf (.slice (some ⟨b1, o1, none⟩) 16 c1)
      let y ← Extern.Bytes.bytesOf (.slice (some ⟨b2, o2, none⟩) 16 c2)
      pure (goInt (Extern.BytealgCompare.cmp x y))) w = _
    simp only [Sem.run_bind, run_bytesOf_key h1, run_bytesOf_key h2, Result.andThen_ok, Sem.run_pure, cmp_keys ha hb, goInt]
  rw [e]; rfl

set_option maxHeartbeats 400000 in
set_option maxRecDepth 100000 in
theorem cmp_any {w : World} {b1 o1 b2 o2 c1 c2 : Nat} {a b : Nat → Nat} (ha : Bytes16 a) (hb : Bytes16 b) (h1 : RowAt w b1 o1 (kc a)) (h2 : RowAt w b2 o2 (kc b)) :
    Calls Try.prog 78 #[.slice (some ⟨b1, o1, none⟩) 16 c1, .slice (some ⟨b2, o2, none⟩) 16 c2] w fun e w' => e = .returned (.int .i64 (numCmp a b)) ∧ w = w' := by
  have hd := run_cmp_keys (c1 := c1) (c2 := c2) ha hb h1 h2
  go_enter Try.func78, Try.ntmps78
  go_wp2
  go_ret
  exact ⟨rfl, rfl⟩

end Go.Proofs.Ytggjcjijoihilaa
namespace Go.Proofs.Ytggjcjijoihilaa
open Go.RowKit Go.Sort
attribute [local go_sem ↓] loadVar_key loadVar_pre

def lessIn (p q : Pre) : Bool := if p.bits = q.bits then (if num p.key = num q.key then decide (p.len < q.len) else decide (num p.key < num q.key)) else decide (p.bits < q.bits)

theorem less_cases (p q : Pre) : lessB p q = if mayB p = true then (if mayB q = true then lessIn p q else false) else false := by
  unfold lessB lessIn
  cases mayB p <;> cases mayB q <;> simp

set_option maxHeartbeats 2000000 in
set_option maxRecDepth 100000 in
theorem less_any (p q : Pre) (hp : Bytes16 p.key) (hq : Bytes16 q.key) (w : World) :
    Calls Try.prog 66 #[.agg (pc p), .agg (pc q)] w fun e w' => e = .returned (.bool (lessB p q)) ∧ Below w.heap.size w w' := by
  obtain ⟨rp, rq, hb, hz⟩ := rows_two w (pc p) (pc q) 26 26
  have C1 := fun w => may_any p hp w
  have C2 := fun w => may_any q hq w
  have HZ := Lib.hid hz
  clear hz
  have HF := Lib.hid (less_cases p q)
  have T : ∀ w1, Below ((w.alloc (.cells (pc p) 26)).alloc (.cells (pc q) 26)).heap.size ((w.alloc (.cells (pc p) 26)).alloc (.cells (pc q) 26)) w1 → (TwoPre w1 w.heap.size p q ∧ RowAt w1 w.heap.size 0 (pc p) ∧ RowAt w1 (w.heap.size + 1) 0 (pc q)) ∧ Below w.heap.size w w1 :=
    fun w1 h => ⟨⟨twoPre_of (rp.below h (by rw [HZ.out]; omega)) (rq.below h (by rw [HZ.out]; omega)), rp.below h (by rw [HZ.out]; omega), rq.below h (by rw [HZ.out]; omega)⟩, hb.trans (h.mono hb.size)⟩
  obtain ⟨lp, lq, kp, kq, bp, bq, np, nq⟩ := twoPre_of rp rq
  have HT := Lib.hid T
  clear T hb
  cases hm : mayB p with
  | false =>
    rw [hm] at HF
    simp only [hm] at C1
    have HC := Lib.hid C1
    clear hm C1 C2
    go_enter Try.func66, Try.ntmps66
    go_wp2_with (go_at_call 35; refine (HC.out _).mono ?_; rintro e w1 ⟨rfl, h1⟩; obtain ⟨-, hb1⟩ := HT.out w1 h1)
    go_ret
    exact ⟨ret_bool (by rw [HF.out]; rfl), hb1⟩
  | true =>
    rw [hm] at HF
    simp only [hm] at C1
    have HC := Lib.hid C1
    clear hm C1
    cases hm : mayB q with
    | false =>
      rw [hm] at HF
      simp only [hm] at C2
      have HD := Lib.hid C2
      clear hm C2
      go_enter Try.func66, Try.ntmps66
      go_wp2_with fail
      refine (HC.out _).mono ?_
      rintro e w1 ⟨rfl, h1⟩
      obtain ⟨⟨⟨lp, lq, kp, kq, bp, bq, np, nq⟩, -, -⟩, hb1⟩ := HT.out w1 h1
      go_wp2_with fail
      refine (HD.out _).mono ?_
      rintro e w2 ⟨rfl, h2⟩
      go_wp2
      go_ret
      exact ⟨ret_bool (by rw [HF.out]; rfl), hb1.trans (h2.mono hb1.size)⟩
    | true =>
      rw [hm] at HF
      simp only [hm] at C2
      have HD := Lib.hid C2
      clear hm C2
      by_cases hbits : p.bits = q.bits
      · have hne : (p.bits != q.bits) = false := by simpa using hbits
        by_cases hn : num p.key = num q.key
        · have e0 : (numCmp p.key q.key != 0) = false := by unfold numCmp; rw [if_neg (by omega), if_pos hn]; rfl
          have HL := Lib.hid (show lessIn p q = decide (p.len < q.len) by unfold lessIn; rw [if_pos hbits, if_pos hn])
          clear hn hbits
          go_enter Try.func66, Try.ntmps66
          go_wp2_with fail
          refine (HC.out _).mono ?_
          rintro e w1 ⟨rfl, h1⟩
          obtain ⟨⟨⟨lp, lq, kp, kq, bp, bq, np, nq⟩, -, -⟩, hb1⟩ := HT.out w1 h1
          go_wp2_with fail
          refine (HD.out _).mono ?_
          rintro e w2 ⟨rfl, h2⟩
          have h12 := h1.trans (h2.mono h1.size)
          obtain ⟨⟨⟨lp, lq, kp, kq, bp, bq, np, nq⟩, rp2, rq2⟩, hb2⟩ := HT.out w2 h12
          go_wp2
          have cc := fun d os => cmp_any (w := grow (redrawn w2 d) os) (b1 := w.heap.size) (o1 := 2) (b2 := w.heap.size + 1) (o2 := 2) (c1 := 16) (c2 := 16) hp hq (by simpa using (rowAt_regrown rp2 d os).key) (by simpa using (rowAt_regrown rq2 d os).key)
          refine wp_region_quiet_below (by kernel_rfl) (by kernel_rfl) ?_
          repeat (go_big_quiet_step ((refine Calls.mono (cc _ _) ?_; rintro e w' ⟨rfl, rfl⟩; exact ⟨rfl, ⟨_, _⟩, rfl⟩)))
          refine wpQuiet_nil fun w3 hw3 => ?_
          have hb3 : Below w.heap.size w w3 ∧ Below w2.heap.size w2 w3 := by
            obtain ⟨p, rfl⟩ := hw3
            exact ⟨hb2.trans ((below_regrown w2 p.d p.os).mono hb2.size), below_regrown w2 p.d p.os⟩
          obtain ⟨⟨⟨lp, lq, kp, kq, bp, bq, np, nq⟩, -, -⟩, -⟩ := HT.out w3 (h12.trans (hb3.2.mono h12.size))
          obtain ⟨hb3, -⟩ := hb3
          clear hw3 cc
          go_wp2
          go_ret
          exact ⟨ret_bool (by rw [HF.out, ← HL.out]; simp), hb3⟩
        · have e0 : (numCmp p.key q.key != 0) = true := by
            unfold numCmp
            by_cases h : num p.key < num q.key
            · rw [if_pos h]; rfl
            · rw [if_neg h, if_neg hn]; rfl
          have HL := Lib.hid (show lessIn p q = decide (numCmp p.key q.key < 0) by
            unfold lessIn numCmp; rw [if_pos hbits, if_neg hn]
            by_cases h : num p.key < num q.key
            · rw [if_pos h]; simp [h]
            · rw [if_neg h, if_neg hn]; simp; omega)
          clear hn hbits
          go_enter Try.func66, Try.ntmps66
          go_wp2_with fail
          refine (HC.out _).mono ?_
          rintro e w1 ⟨rfl, h1⟩
          obtain ⟨⟨⟨lp, lq, kp, kq, bp, bq, np, nq⟩, -, -⟩, hb1⟩ := HT.out w1 h1
          go_wp2_with fail
          refine (HD.out _).mono ?_
          rintro e w2 ⟨rfl, h2⟩
          have h12 := h1.trans (h2.mono h1.size)
          obtain ⟨⟨⟨lp, lq, kp, kq, bp, bq, np, nq⟩, rp2, rq2⟩, hb2⟩ := HT.out w2 h12
          go_wp2
          have cc := fun d os => cmp_any (w := grow (redrawn w2 d) os) (b1 := w.heap.size) (o1 := 2) (b2 := w.heap.size + 1) (o2 := 2) (c1 := 16) (c2 := 16) hp hq (by simpa using (rowAt_regrown rp2 d os).key) (by simpa using (rowAt_regrown rq2 d os).key)
          refine wp_region_quiet_below (by kernel_rfl) (by kernel_rfl) ?_
          repeat (go_big_quiet_step ((refine Calls.mono (cc _ _) ?_; rintro e w' ⟨rfl, rfl⟩; exact ⟨rfl, ⟨_, _⟩, rfl⟩)))
          refine wpQuiet_nil fun w3 hw3 => ?_
          have hb3 : Below w.heap.size w w3 ∧ Below w2.heap.size w2 w3 := by
            obtain ⟨p, rfl⟩ := hw3
            exact ⟨hb2.trans ((below_regrown w2 p.d p.os).mono hb2.size), below_regrown w2 p.d p.os⟩
          obtain ⟨⟨⟨lp, lq, kp, kq, bp, bq, np, nq⟩, -, -⟩, -⟩ := HT.out w3 (h12.trans (hb3.2.mono h12.size))
          obtain ⟨hb3, -⟩ := hb3
          clear hw3 cc
          go_wp2
          go_ret
          exact ⟨ret_bool (by rw [HF.out, ← HL.out]; simp), hb3⟩
      · have hne : (p.bits != q.bits) = true := by simpa using hbits
        have HL := Lib.hid (show lessIn p q = decide (p.bits < q.bits) by unfold lessIn; rw [if_neg hbits])
        clear hbits
        go_enter Try.func66, Try.ntmps66
        go_wp2_with fail
        refine (HC.out _).mono ?_
        rintro e w1 ⟨rfl, h1⟩
        obtain ⟨⟨⟨lp, lq, kp, kq, bp, bq, np, nq⟩, -, -⟩, hb1⟩ := HT.out w1 h1
        go_wp2_with fail
        refine (HD.out _).mono ?_
        rintro e w2 ⟨rfl, h2⟩
        have h12 := h1.trans (h2.mono h1.size)
        obtain ⟨⟨⟨lp, lq, kp, kq, bp, bq, np, nq⟩, rp2, rq2⟩, hb2⟩ := HT.out w2 h12
        go_wp2
        go_ret
        exact ⟨ret_bool (by rw [HF.out, ← HL.out]; simp), hb2⟩

end Go.Proofs.Ytggjcjijoihilaa
