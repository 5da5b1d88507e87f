/- The statement SumParts, walked: every call of it hands back true. -/
import Derived.Test.YtbbhjgbpihmphaaSumAwake
namespace Go.Proofs.Ytbbhjgbpihmphaa.sumParts
open Go.RowKit Go.Sort
attribute [local go_sem ↓] slice_bytes text_bytes eq_text ne_text

theorem byte_cells (x : Nat) (hx : x < 256) : cellsB [UInt8.ofNat x] = [.int .u8 (x : Int)] := by
  show [Value.int .u8 (((UInt8.ofNat x).toNat : Nat) : Int)] = _
  rw [UInt8.toNat_ofNat', Nat.mod_eq_of_lt hx]
theorem byte_ne {x y : Nat} (hx : x < 256) (hy : y < 256) (h : x ≠ y) : UInt8.ofNat x ≠ UInt8.ofNat y := fun e => by
  have := congrArg UInt8.toNat e
  rw [UInt8.toNat_ofNat', UInt8.toNat_ofNat', Nat.mod_eq_of_lt hx, Nat.mod_eq_of_lt hy] at this
  exact h this
theorem take_more (l : List UInt8) (c q : Nat) : l.take c ++ (l.drop c).take q = l.take (c + q) := by rw [List.take_add]

set_option maxHeartbeats 4000000 in
set_option maxRecDepth 100000 in
theorem walk_good (l u : List UInt8) (v vu : Value) (x y : Nat) (w : World) (hx : x < 256) (hy : y < 256) (hR : RdB w v l) (hU : RdB w vu u) (h1 : l.length ≤ 500) (h2 : u.length ≤ 100) :
    Calls Try.prog 6 #[v, vu, .int .u8 (x : Int), .int .u8 (y : Int)] w fun e w' => e = .returned (.bool true) ∧ Below w.heap.size w w' := by
  have H1 := Lib.hid (awake_any w)
  have HR := Lib.hid (And.intro hR hU)
  have HOF : Hid (∀ W, Calls Try.prog 10 #[.slice none 0 0] W fun e w' => e = .returned (.int .u32 0) ∧ W = w') := fun W => by
    have := of_any [] _ W (OwnB.nil W 0).rd
    rwa [show ofC [] = 0 from onC_nil (by decide)] at this
  have HOB : Hid (∀ W, RdB W v l → Calls Try.prog 10 #[v] W fun e w' => e = .returned (.int .u32 ((ofC l : Nat) : Int)) ∧ W = w') := fun W h => of_any l v W h
  have HON : Hid (∀ W (a b : List UInt8) z, RdB W z b → Calls Try.prog 12 #[.int .u32 ((ofC a : Nat) : Int), z] W fun e w' => e = .returned (.int .u32 ((ofC (a ++ b) : Nat) : Int)) ∧ W = w') := fun W a b z h => by
    have := on_any (ofC a) (onC_lt _ _) b z W h
    rwa [show onC (ofC a) b = ofC (a ++ b) from onC_append (by decide) a b] at this
  have HNE : Hid (∀ (a : List UInt8), x ≠ y → ofC (a ++ [UInt8.ofNat x]) ≠ ofC (a ++ [UInt8.ofNat y])) := fun a h e => by
    rw [← show onC (ofC a) [UInt8.ofNat x] = ofC (a ++ [UInt8.ofNat x]) from onC_append (by decide) _ _, ← show onC (ofC a) [UInt8.ofNat y] = ofC (a ++ [UInt8.ofNat y]) from onC_append (by decide) _ _] at e
    exact byte_ne hx hy h (onC_one (onC_lt _ _) e)
  obtain ⟨a, cap, hv, -⟩ := hR.len
  obtain ⟨au, cu, hvu, -⟩ := hU.len
  have HF : Hid (0 < u.length → ∃ b o, au = some ⟨b, o, none⟩ ∧ ∀ W, Below w.heap.size w W → ∀ (i : Nat) z, u[i]? = some z → W.cell? ⟨b, o + i, none⟩ = some (byV z)) := fun hp => by
    obtain ⟨b, o, cap', e1, e2⟩ := hU.form hp
    rw [e1] at hvu
    cases hvu
    exact ⟨b, o, rfl, fun W hW i z hz => by
      obtain ⟨b', o', cap'', e3, e4⟩ := (hU.later hW).form hp
      rw [e1] at e3
      cases e3
      exact e4 i z hz⟩
  obtain ⟨n, hn⟩ : ∃ n, l.length = n := ⟨_, rfl⟩
  obtain ⟨m, hm⟩ : ∃ m, u.length = m := ⟨_, rfl⟩
  rw [hn] at hv h1
  rw [hm] at hvu h2
  have h1I : (n : Int) ≤ 500 := by omega
  have h2I : (m : Int) ≤ 100 := by omega
  have d1 : decide ((500 : Int) < n) = false := by simp; omega
  have d2 : decide ((100 : Int) < m) = false := by simp; omega
  have HN := Lib.hid (And.intro hn hm)
  subst hv
  subst hvu
  clear hR hU hn hm
  go_enter Try.func6, Try.ntmps6
  go_wp2_with fail
  refine H1.out.mono ?_
  rintro e w1 ⟨rfl, hb1⟩
  have B1 := Lib.hid hb1
  have R1 := Lib.hid (HR.out.1.later hb1)
  clear hb1
  go_wp2_with fail
  refine (HOF.out _).mono ?_
  rintro e w2 ⟨rfl, rfl⟩
  go_wp2
  go_loop [9, 10, 11] (fun t r i => ∃ k c : Nat, k ≤ m ∧ c ≤ n ∧ i = .int .i64 k ∧ t = .int .u32 ((ofC (l.take c) : Nat) : Int) ∧ RdB w1 r (l.drop c)) (fun _ _ i => m - (intOf i).toNat)
  case atStart => exact ⟨0, 0, Nat.zero_le _, Nat.zero_le _, rfl, by rw [List.take_zero, show ofC [] = 0 from onC_nil (by decide)]; rfl, R1.out⟩
  case round =>
    obtain ⟨k, c, hk, hc, rfl, rfl, hr⟩ := hrel
    obtain ⟨ar, cr, hvr, -⟩ := hr.len
    obtain ⟨rn, hrn⟩ : ∃ rn, (l.drop c).length = rn := ⟨_, rfl⟩
    rw [hrn] at hvr
    have hrn2 : rn = n - c := by rw [← hrn, List.length_drop, HN.out.1]
    have hrI : (rn : Int) ≤ 500 := by omega
    subst hvr
    by_cases hlt : k < m
    · obtain ⟨b, o, hau, hcell0⟩ := HF.out (by rw [HN.out.2]; omega)
      subst hau
      obtain ⟨z, hz⟩ : ∃ z, u[k]? = some z := ⟨u[k]'(by rw [HN.out.2]; exact hlt), List.getElem?_eq_getElem _⟩
      have hcell : w1.cell? ⟨b, o + k, none⟩ = some (.int .u8 (z.toNat : Int)) := hcell0 w1 B1.out k z hz
      have hzl : z.toNat < 256 := z.toNat_lt
      obtain ⟨zn, hzn⟩ : ∃ zn, z.toNat = zn := ⟨_, rfl⟩
      rw [hzn] at hcell hzl
      obtain ⟨q, hq⟩ : ∃ q, min zn rn = q := ⟨_, rfl⟩
      obtain ⟨u1, s1, r1⟩ := slice_head hr (k := q) (by omega)
      obtain ⟨u2, s2, r2⟩ := slice_tail hr (k := q) (by omega)
      rw [List.drop_drop] at r2
      have HC := Lib.hid (HON.out w1 (l.take c) _ u1 r1)
      rw [take_more] at HC
      have hqc : (((zn : Int) ≤ rn) ∧ (∀ W, (bytesSlice (.slice ar rn cr) none (some (.int .i64 (zn : Int)))).run Try.prog W = .ok u1 W) ∧ ∀ W, (bytesSlice (.slice ar rn cr) (some (.int .i64 (zn : Int))) none).run Try.prog W = .ok u2 W) ∨ ((¬ (zn : Int) ≤ rn) ∧ (∀ W, (bytesSlice (.slice ar rn cr) none (some (.int .i64 (rn : Int)))).run Try.prog W = .ok u1 W) ∧ ∀ W, (bytesSlice (.slice ar rn cr) (some (.int .i64 (rn : Int))) none).run Try.prog W = .ok u2 W) := by
        by_cases h : zn ≤ rn
        · exact .inl ⟨by omega, fun W => s1 _ W (by omega), fun W => s2 _ W (by omega)⟩
        · exact .inr ⟨by omega, fun W => s1 _ W (by omega), fun W => s2 _ W (by omega)⟩
      have REL := Lib.hid (And.intro (show c + q ≤ n by omega) r2)
      clear hz hzn hq s1 s2 r1 r2 hr hrn hrn2 hcell0
      rcases hqc with ⟨hle, t1, t2⟩ | ⟨hle, t1, t2⟩
      all_goals
        go_wp2_with fail
        refine HC.out.mono ?_
        rintro e w3 ⟨rfl, rfl⟩
        go_wp2
        exact ⟨⟨k + 1, c + q, by omega, REL.out.1, by go_num, rfl, REL.out.2⟩, by simp [intOf]; omega⟩
    · have HL : Hid (l.take c ++ l.drop c = l) := List.take_append_drop c l
      have HC := Lib.hid (HON.out w1 (l.take c) _ _ hr)
      rw [HL.out] at HC
      have HX : Hid (∀ W : World, Calls Try.prog 12 #[.int .u32 ((ofC l : Nat) : Int), .slice (some ⟨W.heap.size, 0, none⟩) 1 1] (W.alloc (.cells #[.int .u8 (x : Int)] 5)) fun e w' => e = .returned (.int .u32 ((ofC (l ++ [UInt8.ofNat x]) : Nat) : Int)) ∧ (W.alloc (.cells #[.int .u8 (x : Int)] 5)) = w') := fun W => by
        have := rd_new W [UInt8.ofNat x] (0, 0) (by unfold maxLen; simp)
        rw [byte_cells x hx] at this
        exact HON.out _ l [UInt8.ofNat x] _ this
      have HY : Hid (∀ W : World, Calls Try.prog 12 #[.int .u32 ((ofC l : Nat) : Int), .slice (some ⟨W.heap.size, 0, none⟩) 1 1] (W.alloc (.cells #[.int .u8 (y : Int)] 5)) fun e w' => e = .returned (.int .u32 ((ofC (l ++ [UInt8.ofNat y]) : Nat) : Int)) ∧ (W.alloc (.cells #[.int .u8 (y : Int)] 5)) = w') := fun W => by
        have := rd_new W [UInt8.ofNat y] (0, 0) (by unfold maxLen; simp)
        rw [byte_cells y hy] at this
        exact HON.out _ l [UInt8.ofNat y] _ this
      clear hr hrn hrn2
      go_wp2_with fail
      refine HC.out.mono ?_
      rintro e w3 ⟨rfl, rfl⟩
      go_wp2_with fail
      refine (HOB.out w1 R1.out).mono ?_
      rintro e w3 ⟨rfl, rfl⟩
      go_wp2_with fail
      have B2 := Lib.hid (B1.out.trans (((Below.refl w1.heap.size w1).alloc (Nat.le_refl _) (.cells #[.int .u8 (x : Int)] 5)).mono B1.out.size))
      have B3 := Lib.hid (B2.out.trans (((Below.refl _ (w1.alloc (.cells #[.int .u8 (x : Int)] 5))).alloc (Nat.le_refl _) (.cells #[.int .u8 (y : Int)] 5)).mono B2.out.size))
      have hy1 := HY.out (w1.alloc (.cells #[.int .u8 (x : Int)] 5))
      rw [show (w1.alloc (.cells #[.int .u8 (x : Int)] 5)).heap.size = w1.heap.size + 1 by simp] at hy1
      have HY1 := Lib.hid hy1
      clear hy1
      refine (HX.out w1).mono ?_
      rintro e w3 ⟨rfl, rfl⟩
      go_wp2_with fail
      refine HY1.out.mono ?_
      rintro e w3 ⟨rfl, rfl⟩
      by_cases hxy : x = y
      · have e1 : ((x : Int) == (y : Int)) = true := by rw [beq_iff_eq]; omega
        have e2 : (((ofC (l ++ [UInt8.ofNat x]) : Nat) : Int) == ((ofC (l ++ [UInt8.ofNat y]) : Nat) : Int)) = true := by rw [beq_iff_eq, hxy]
        clear hxy HX HY HY1
        go_wp2
        go_ret
        exact ⟨rfl, B3.out⟩
      · have e1 : ((x : Int) == (y : Int)) = false := by rw [beq_eq_false_iff_ne]; omega
        have e2 : (((ofC (l ++ [UInt8.ofNat x]) : Nat) : Int) == ((ofC (l ++ [UInt8.ofNat y]) : Nat) : Int)) = false := by
          rw [beq_eq_false_iff_ne]
          have := HNE.out l hxy
          omega
        clear hxy HX HY HY1
        go_wp2
        go_ret
        exact ⟨rfl, B3.out⟩

set_option maxHeartbeats 400000 in
theorem walk_no (aa ab : Option Addr) (na nb ca cb : Nat) (x y : Int) (w : World) (h : ¬ (na ≤ 500 ∧ nb ≤ 100)) (_h1 : na ≤ maxLen) (_h2 : nb ≤ maxLen) :
    Calls Try.prog 6 #[.slice aa na ca, .slice ab nb cb, .int .u8 x, .int .u8 y] w fun e w' => e = .returned (.bool true) ∧ Below w.heap.size w w' := by
  have H1 := Lib.hid (awake_any w)
  unfold maxLen at _h1 _h2
  by_cases h1 : na ≤ 500
  · have h2I : (100 : Int) < nb := by omega
    have h1I : ¬ (500 : Int) < na := by omega
    have d1 : decide ((500 : Int) < na) = false := by simp; omega
    have d2 : decide ((100 : Int) < nb) = true := by simp; omega
    clear h h1
    go_enter Try.func6, Try.ntmps6
    go_wp2_with fail
    refine H1.out.mono ?_
    rintro e w1 ⟨rfl, hb1⟩
    have B1 := Lib.hid hb1
    clear hb1
    go_wp2
    go_ret
    exact ⟨rfl, B1.out⟩
  · have h1I : (500 : Int) < na := by omega
    have d1 : decide ((500 : Int) < na) = true := by simp; omega
    clear h h1
    go_enter Try.func6, Try.ntmps6
    go_wp2_with fail
    refine H1.out.mono ?_
    rintro e w1 ⟨rfl, hb1⟩
    have B1 := Lib.hid hb1
    clear hb1
    go_wp2
    go_ret
    exact ⟨rfl, B1.out⟩
theorem walkAll (l u : List UInt8) (v vu : Value) (x y : Nat) (w : World) (hx : x < 256) (hy : y < 256) (hR : RdB w v l) (hU : RdB w vu u) :
    Calls Try.prog 6 #[v, vu, .int .u8 (x : Int), .int .u8 (y : Int)] w fun e w' => e = .returned (.bool true) ∧ Below w.heap.size w w' := by
  by_cases h : l.length ≤ 500 ∧ u.length ≤ 100
  · exact walk_good l u v vu x y w hx hy hR hU h.1 h.2
  · obtain ⟨aa, ca, rfl, h1, h2⟩ := hR.len
    obtain ⟨ab, cb, rfl, h3, h4⟩ := hU.len
    exact walk_no aa ab _ _ ca cb x y w h (by omega) (by omega)
end Go.Proofs.Ytbbhjgbpihmphaa.sumParts
