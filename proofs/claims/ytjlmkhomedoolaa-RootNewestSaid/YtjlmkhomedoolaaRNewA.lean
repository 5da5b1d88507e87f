/- The statement RootNewest, walked. -/
import Derived.Test.YtjlmkhomedoolaaRootAwake
namespace Go.Proofs.Ytjlmkhomedoolaa.Root
open Go.RowKit Go.Sort Go.Shelf Go.Proofs.Ytjlmkhomedoolaa Go.Proofs.Ytjlmkhomedoolaa.Page
attribute [local go_sem ↓] slice_bytes cut_bytes loadVar_ro storeVar_ro loadVar_page storeVar_page

theorem mod_nat (i N : Nat) (h : 0 < N) : ∃ x : Nat, (i : Int) % (8 * (N : Int)) = (x : Int) ∧ x < 8 * N :=
  ⟨i % (8 * N), by rw [Int.natCast_emod, Int.natCast_mul]; rfl, Nat.mod_lt _ (by omega)⟩
theorem flip_val (z : UInt8) (p : Nat) : bits .xor .u8 (z.toNat : Int) ((2 : Int) ^ (p % 8) % 256) = ((z ^^^ UInt8.ofNat (2 ^ (p % 8))).toNat : Int) := by
  have h2 : 2 ^ (p % 8) < 256 := Nat.pow_lt_pow_right (a := 2) (by decide) (show p % 8 < 8 from Nat.mod_lt _ (by decide))
  have h3 : (2 : Int) ^ (p % 8) % 256 = ((2 ^ (p % 8) : Nat) : Int) := by
    rw [show (2 : Int) ^ (p % 8) = ((2 ^ (p % 8) : Nat) : Int) from by rw [Int.natCast_pow]; rfl]
    generalize 2 ^ (p % 8) = q at *
    omega
  rw [h3, u8_xor_nat _ _ z.toNat_lt h2, UInt8.toNat_xor, two_nat]
theorem flip_eq {l : List UInt8} {p : Nat} {z : UInt8} (h : l[p / 8]? = some z) : l.set (p / 8) (z ^^^ UInt8.ofNat (2 ^ (p % 8))) = flipB l p := by
  unfold flipB
  rw [List.getD_eq_getElem?_getD, h]
  rfl
/-- A row of the call's own, and one slice more that was laid beside it. -/
theorem grow_one {w : World} {base : Nat} {v : Value} {cs : List Value} (h : OwnS w base v cs) (hb : base ≤ w.heap.size) (a : Option Addr) (n cap : Nat) :
    OwnS (w.alloc (.cells #[.slice a n cap] 29)) base v cs ∧ RdRow (w.alloc (.cells #[.slice a n cap] 29)) (.slice (some ⟨w.heap.size, 0, none⟩) 1 1) [.slice a n cap] ∧ base ≤ (w.alloc (.cells #[.slice a n cap] 29)).heap.size ∧ Below w.heap.size w (w.alloc (.cells #[.slice a n cap] 29)) :=
  ⟨h.later (below1 _ _), (OwnS.made w [.slice a n cap] (by unfold maxLen; simp)).rd, Nat.le_trans hb (below1 w _).size, below1 _ _⟩
theorem rows_all {w : World} {cs : List Value} {ls : List (List UInt8)} (h : ∀ (i : Nat) b, ls[i]? = some b → ∃ u, cs[i]? = some u ∧ RdB w u b) (hl : cs.length = ls.length) : ∀ y ∈ cs, y.oneCell' = true := fun y hy => by
  obtain ⟨i, hi, rfl⟩ := List.mem_iff_getElem.1 hy
  obtain ⟨u, h1, h2⟩ := h i _ (List.getElem?_eq_getElem (by omega))
  rw [List.getElem?_eq_getElem hi] at h1
  cases h1
  exact Page.RdB.one h2
theorem rows_behind {w : World} {cs : List Value} {ls : List (List UInt8)} {v u : Value} {b : List UInt8} (hv : RdRow w v (cs ++ [u])) (hl : cs.length = ls.length) (h : ∀ (i : Nat) b, ls[i]? = some b → ∃ u, cs[i]? = some u ∧ RdB w u b) (hu : RdB w u b) : RdL w v (ls ++ [b]) := by
  refine ⟨_, hv, by simp [hl], fun i c hi => ?_⟩
  by_cases hlt : i < ls.length
  · rw [List.getElem?_append_left hlt] at hi
    obtain ⟨x, h1, h2⟩ := h i c hi
    exact ⟨x, by rw [List.getElem?_append_left (by omega)]; exact h1, h2⟩
  · have hj := (List.getElem?_eq_some_iff.1 hi).1
    rw [app_length] at hj
    have : i = ls.length := by omega
    subst this
    rw [List.getElem?_append_right (Nat.le_refl _), Nat.sub_self] at hi
    cases hi
    exact ⟨u, by rw [← hl, List.getElem?_append_right (Nat.le_refl _), Nat.sub_self]; rfl, hu⟩
theorem rows_ahead {w : World} {cs : List Value} {ls : List (List UInt8)} {v u : Value} {b : List UInt8} (hv : RdRow w v (u :: cs)) (hl : cs.length = ls.length) (h : ∀ (i : Nat) b, ls[i]? = some b → ∃ u, cs[i]? = some u ∧ RdB w u b) (hu : RdB w u b) : RdL w v (b :: ls) := by
  refine ⟨_, hv, by simp [hl], fun i c hi => ?_⟩
  match i, hi with
  | 0, hi => cases hi; exact ⟨u, rfl, hu⟩
  | i + 1, hi => exact h i c hi

theorem one_cell (a : Option Addr) (n cap : Nat) : ∀ y ∈ [Value.slice a n cap], y.oneCell' = true := fun y hy => by rw [List.mem_singleton.1 hy]; rfl
theorem behind_of {W7 W8 w9 w10 : World} {v8 v9 v10 : Value} {cs : List Value} {ls : List (List UInt8)} {b : List UInt8} {a : Option Addr} {n cap : Nat} (h8 : OwnS W8 W7.heap.size v8 []) (hb8 : Below W7.heap.size W7 W8)
    (g1 : OwnS w9 W7.heap.size v9 ([] ++ cs)) (g2 : W8.grownBy w9 v8.ownBlock) (g3 : OwnS w10 W7.heap.size v10 (([] ++ cs) ++ [.slice a n cap])) (g4 : (w9.alloc (.cells #[.slice a n cap] 29)).grownBy w10 v9.ownBlock)
    (hl : cs.length = ls.length) (h : ∀ (i : Nat) b, ls[i]? = some b → ∃ u, cs[i]? = some u ∧ RdB W7 u b) (hu : RdB W7 (.slice a n cap) b) : RdL w10 v10 (ls ++ [b]) ∧ Below W7.heap.size W7 w10 := by
  have k1 : Below W7.heap.size W8 w9 := h8.below g2 hb8.size
  have k2 : W7.heap.size ≤ w9.heap.size := Nat.le_trans hb8.size g2.size
  have k3 := grow_one g1 k2 a n cap
  have k4 : Below W7.heap.size (w9.alloc (.cells #[.slice a n cap] 29)) w10 := k3.1.below g4 k3.2.2.1
  have k5 : Below W7.heap.size W7 w10 := hb8.trans (k1.trans ((k3.2.2.2.mono k2).trans k4))
  refine ⟨rows_behind (by have := g3.rd; rwa [List.nil_append] at this) hl (fun i c hi => ?_) (hu.later k5), k5⟩
  obtain ⟨x, h1, h2⟩ := h i c hi
  exact ⟨x, h1, h2.later k5⟩
theorem ahead_of {W7 W8 w9 : World} {v8 v9 : Value} {cs : List Value} {ls : List (List UInt8)} {b : List UInt8} {a : Option Addr} {n cap : Nat} (h8 : OwnS W8 W7.heap.size v8 [.slice a n cap]) (hb8 : Below W7.heap.size W7 W8)
    (g1 : OwnS w9 W7.heap.size v9 ([.slice a n cap] ++ cs)) (g2 : W8.grownBy w9 v8.ownBlock)
    (hl : cs.length = ls.length) (h : ∀ (i : Nat) b, ls[i]? = some b → ∃ u, cs[i]? = some u ∧ RdB W7 u b) (hu : RdB W7 (.slice a n cap) b) : RdL w9 v9 (b :: ls) ∧ Below W7.heap.size W7 w9 := by
  have k5 : Below W7.heap.size W7 w9 := hb8.trans (h8.below g2 hb8.size)
  refine ⟨rows_ahead (by have := g1.rd; exact this) hl (fun i c hi => ?_) (hu.later k5), k5⟩
  obtain ⟨x, h1, h2⟩ := h i c hi
  exact ⟨x, h1, h2.later k5⟩

set_option maxHeartbeats 4000000 in
set_option maxRecDepth 100000 in
/-- Where there is nothing to look at. -/
theorem walkNewest_no (r : Ro) (u : Value) (z : Int) (ls : List (List UInt8)) (v : Value) (kb : Nat) (w : World) (hU : RdN w u r.nums) (hR : RdL w v ls) (hno : 80 < r.nums.length ∨ 20 < ls.length ∨ mayR r z = false) :
    Calls Try.prog 3 #[roV r u, .int .i64 z, v, .int .u16 (kb : Int)] w fun e w' => e = .returned (.bool true) ∧ Below w.heap.size w w' := by
  obtain ⟨W, hW⟩ : ∃ W, W = w.alloc (.cells (roC r u) 25) := ⟨_, rfl⟩
  have hb : Below w.heap.size w W := by rw [hW]; exact below1 _ _
  have hx : Bx 25 W w.heap.size (roC r u) := by rw [hW]; exact Bx.new _ w _
  have HB := Lib.hid hb
  have HAW := Lib.hid (awake_any W)
  obtain ⟨au, cu, hu, hu1, hu2⟩ := hU.len
  obtain ⟨a, cap, hv, hv1, hv2⟩ := hR.len
  obtain ⟨m, hm⟩ : ∃ m, r.nums.length = m := ⟨_, rfl⟩
  obtain ⟨n, hn⟩ : ∃ n, ls.length = n := ⟨_, rfl⟩
  rw [hm] at hu hu1 hno
  rw [hn] at hv hv1 hno
  have hm63 : (m : Int) ≤ 9223372036854775807 := by unfold maxLen at hu2; omega
  have hn63 : (n : Int) ≤ 9223372036854775807 := by unfold maxLen at hv2; omega
  subst hv
  have HX : Hid (∀ W', Below W.heap.size W W' → W'.cell? ⟨w.heap.size, 1, none⟩ = some u ∧ (roLoad ⟨w.heap.size, 0, none⟩).run Try.prog W' = .ok (.agg #[.int .u64 (r.gen : Int), u]) W' ∧ Below w.heap.size w W' ∧ RdN W' u r.nums) := fun W' h =>
    ⟨(hx.later h).cell 1, (hx.later h).ld rfl, hb.trans (h.mono hb.size), (hU.later hb).later h⟩
  have HNO := Lib.hid hno
  subst hu
  unfold roC at hW
  unfold roV
  clear hb hx hU hR hu1 hu2 hv1 hv2 hm hn hno
  go_enter Try.func3, Try.ntmps3
  go_upto_region 1 with fail
  rw [← hW]
  clear hW
  go_wp2_with fail
  (with_reducible refine HAW.out.mono ?_)
  rintro e w1 ⟨rfl, hb1⟩
  obtain ⟨c1, ld1, hbw, hr1⟩ := HX.out w1 hb1
  have HB1 := Lib.hid hbw
  by_cases h80 : 80 < m
  · have h80I : decide ((80 : Int) < m) = true := decide_eq_true (by omega)
    clear hbw hr1 hb1
    go_wp2
    go_ret
    exact ⟨rfl, HB1.out⟩
  have h80I : decide ((80 : Int) < m) = false := decide_eq_false (by omega)
  by_cases h20 : 20 < n
  · have h20I : decide ((20 : Int) < n) = true := decide_eq_true (by omega)
    clear hbw hr1 hb1
    go_wp2
    go_ret
    exact ⟨rfl, HB1.out⟩
  have h20I : decide ((20 : Int) < n) = false := decide_eq_false (by omega)
  have hmay : mayR r z = false := (HNO.out.resolve_left h80).resolve_left h20
  have HP := Lib.hid (put_no r _ z w1 hr1 hmay)
  have HMY : Hid (∀ W', Below w1.heap.size w1 W' → (roLoad ⟨w.heap.size, 0, none⟩).run Try.prog W' = .ok (.agg #[.int .u64 (r.gen : Int), .slice au m cu]) W' ∧ Below w.heap.size w W' ∧ Calls Try.prog 7 #[.agg #[.int .u64 (r.gen : Int), .slice au m cu], .int .i64 z] W' fun e w' => e = .returned (.bool false) ∧ Below W'.heap.size W' w') := fun W' h => by
    obtain ⟨g1, g2, g3, g4⟩ := HX.out W' (hb1.trans (h.mono hb1.size))
    have := may_any r _ z W' g4
    rw [hmay] at this
    exact ⟨g2, g3, this⟩
  unfold roV at HP
  clear hbw hr1 hb1 hmay h80 h20
  go_wp2_with fail
  (with_reducible refine HP.out.mono ?_)
  rintro e w2 ⟨rfl, hb2⟩
  obtain ⟨ld2, -, HM2⟩ := HMY.out w2 hb2
  have HMC := Lib.hid HM2
  have HB2 := Lib.hid (HB1.out.trans (hb2.mono HB1.out.size))
  clear HM2 hb2 ld1 c1
  go_wp2_with fail
  (with_reducible refine HMC.out.mono ?_)
  rintro e w3 ⟨rfl, hb3⟩
  have FIN := Lib.hid (HB2.out.trans (hb3.mono HB2.out.size))
  clear hb3 ld2
  go_wp2
  go_ret
  exact ⟨rfl, FIN.out⟩
end Go.Proofs.Ytjlmkhomedoolaa.Root
