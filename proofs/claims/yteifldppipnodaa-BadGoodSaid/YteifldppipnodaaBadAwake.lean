/- awake of layer 8: true. -/
import Derived.Test.YteifldppipnodaaBadOpened
namespace Go.Proofs.Yteifldppipnodaa.Bad
open Go.RowKit Go.Sort
attribute [local go_sem ↓] slice_ints slice_bytes loadVar_rs storeVar_rs

theorem good_a : Good [0, 2, 3] [4] := ⟨by decide, by decide, by decide, by decide⟩
theorem good_b : Good [4, 2, 3] [] := ⟨by decide, by decide, by decide, by decide⟩
/-- A reserve that reads so, in the form of its slices. -/
theorem RdR.form {w : World} {r : Value} {st lf : List Nat} (h : RdR w r st lf) : ∃ a p b q, r = .agg #[.slice a st.length p, .slice b lf.length q] ∧ RdN w (.slice a st.length p) st ∧ RdN w (.slice b lf.length q) lf := by
  obtain ⟨u, v, rfl, hu, hv⟩ := h
  obtain ⟨a, p, e1, -⟩ := hu.len
  obtain ⟨b, q, e2, -⟩ := hv.len
  subst e1 e2
  exact ⟨a, p, b, q, rfl, hu, hv⟩
/-- A reserve kept in a new box. -/
theorem kept_new {w : World} {a b : Option Addr} {n p m q : Nat} :
    (rsStore ⟨w.heap.size, 0, none⟩ (.agg #[.slice a n p, .slice b m q])).run Try.prog (w.alloc (.cells #[.slice none 0 0, .slice none 0 0] 25)) = .ok () (w.alloc (.cells #[.slice a n p, .slice b m q] 25)) := by
  have := store_new w (u := .slice a n p) (v := .slice b m q) rfl rfl
  unfold zr at this
  exact this

theorem three_new (W : World) : RdN (W.alloc (.cells #[.int .i64 0, .int .i64 2, .int .i64 3] 3)) (.slice (some ⟨W.heap.size, 0, none⟩) 3 3) [0, 2, 3] := by
  rcases OwnN.made W [0, 2, 3] with h | h
  · exact h.rd
  · exact absurd (by unfold maxLen; simp) h

set_option maxHeartbeats 4000000 in
set_option maxRecDepth 100000 in
theorem awake_any (w : World) : Calls Try.prog 4 #[] w fun e w' => e = .returned (.bool true) ∧ Below w.heap.size w w' := by
  obtain ⟨W1, hW1⟩ : ∃ W, W = w.alloc (.cells #[.int .i64 1] 3) := ⟨_, rfl⟩
  have hb1 : Below w.heap.size w W1 := by rw [hW1]; exact (Below.refl _ _).alloc (Nat.le_refl _) _
  have hr1 : RdN W1 (.slice (some ⟨w.heap.size, 0, none⟩) 1 1) [1] := by rw [hW1]; exact one_new w 1
  have hn := new_any 3 2 [1] _ W1 hr1 (by decide) (by decide) (by decide) (by decide) (by decide)
  have hfl : freeL [1] (3 + 2) = [0, 2, 3, 4] := by decide
  rw [hfl] at hn
  have HN : Hid (Calls Try.prog 5 #[.int .i64 3, .int .i64 2, .slice (some ⟨w.heap.size, 0, none⟩) 1 1] W1 fun e w' => ∃ r, e = .returned (.tuple #[r, .int .i64 0]) ∧ RdR w' r [0, 2, 3] [4] ∧ Below W1.heap.size W1 w') := hn.mono fun e w' ⟨r, h1, h2, h3⟩ => ⟨r, h1, h2.rd, h3⟩
  have HB1 := Lib.hid hb1
  clear hb1 hr1 hn hfl
  go_enter Try.func4, Try.ntmps4
  go_wp2_with fail
  rw [← hW1]
  clear hW1
  (with_reducible refine HN.out.mono ?_)
  rintro e w2 ⟨r, rfl, hr, b2⟩
  obtain ⟨a1, p1, a2, p2, rfl, hu, hv⟩ := hr.form
  have HR : Hid (RdN w2 (.slice a1 3 p1) [0, 2, 3] ∧ RdN w2 (.slice a2 1 p2) [4]) := ⟨hu, hv⟩
  have HB2 := Lib.hid (HB1.out.trans (b2.mono HB1.out.size))
  clear hu hv hr b2
  have q1 := @kept_new w2 a1 a2 3 p1 1 p2
  go_upto_region 2 with fail
  clear q1
  obtain ⟨W2, hW2⟩ : ∃ W, W = w2.alloc (.cells #[.slice a1 3 p1, .slice a2 1 p2] 25) := ⟨_, rfl⟩
  have hk2 : Box W2 w2.heap.size #[.slice a1 3 p1, .slice a2 1 p2] ∧ Below w2.heap.size w2 W2 := by
    rw [hW2]; exact ⟨Box.new _ _, (Below.refl _ _).alloc (Nat.le_refl _) _⟩
  rw [← hW2]
  clear hW2
  have HX2 : Hid (Box W2 w2.heap.size #[.slice a1 3 p1, .slice a2 1 p2] ∧ RdR W2 (.agg #[.slice a1 3 p1, .slice a2 1 p2]) [0, 2, 3] [4] ∧ Below w.heap.size w W2) :=
    ⟨hk2.1, ⟨_, _, rfl, HR.out.1.later hk2.2, HR.out.2.later hk2.2⟩, HB2.out.trans (hk2.2.mono HB2.out.size)⟩
  have l1 := hk2.1.load
  obtain ⟨g2, hg2⟩ : ∃ g, w2.heap.size = g := ⟨_, rfl⟩
  rw [hg2] at HX2 l1 ⊢
  have HC : Hid (Calls Try.prog 6 #[.agg #[.slice a1 3 p1, .slice a2 1 p2], .int .i64 0] W2 fun e w' => ∃ r', e = .returned (.tuple #[r', .int .i64 0]) ∧ RdR w' r' [4, 2, 3] [] ∧ Below W2.heap.size W2 w') :=
    (replace_some _ [0, 2, 3] [] 4 0 W2 HX2.out.2.1 good_a (by decide)).mono fun e w' ⟨r, h1, h2, h3⟩ => ⟨r, h1, h2.rd, h3⟩
  clear hk2 hg2 HR HB2
  go_wp2_with fail
  (with_reducible refine HC.out.mono ?_)
  rintro e w3 ⟨s, rfl, hs, b3⟩
  obtain ⟨a3, p3, a4, p4, rfl, hu, hv⟩ := hs.form
  have HS : Hid (RdN w3 (.slice a3 3 p3) [4, 2, 3] ∧ RdN w3 (.slice a4 0 p4) []) := ⟨hu, hv⟩
  have HB3 := Lib.hid b3
  clear hu hv hs b3 l1
  have q2 := @kept_new w3 a3 a4 3 p3 0 p4
  go_upto_region 3 with fail
  clear q2
  obtain ⟨W3, hW3⟩ : ∃ W, W = w3.alloc (.cells #[.slice a3 3 p3, .slice a4 0 p4] 25) := ⟨_, rfl⟩
  have hk3 : Box W3 w3.heap.size #[.slice a3 3 p3, .slice a4 0 p4] ∧ Below w3.heap.size w3 W3 := by
    rw [hW3]; exact ⟨Box.new _ _, (Below.refl _ _).alloc (Nat.le_refl _) _⟩
  rw [← hW3]
  clear hW3
  have hb23 : Below W2.heap.size W2 W3 := HB3.out.trans (hk3.2.mono HB3.out.size)
  have HX3 : Hid (Box W3 w3.heap.size #[.slice a3 3 p3, .slice a4 0 p4] ∧ RdR W3 (.agg #[.slice a3 3 p3, .slice a4 0 p4]) [4, 2, 3] [] ∧ Box W3 g2 #[.slice a1 3 p1, .slice a2 1 p2] ∧ RdR W3 (.agg #[.slice a1 3 p1, .slice a2 1 p2]) [0, 2, 3] [4] ∧ Below w.heap.size w W3) :=
    ⟨hk3.1, ⟨_, _, rfl, HS.out.1.later hk3.2, HS.out.2.later hk3.2⟩, HX2.out.1.later hb23, HX2.out.2.1.later hb23, HX2.out.2.2.trans (hb23.mono HX2.out.2.2.size)⟩
  have l3 := hk3.1.load
  obtain ⟨g3, hg3⟩ : ∃ g, w3.heap.size = g := ⟨_, rfl⟩
  rw [hg3] at HX3 l3 ⊢
  have HC3 : Hid (Calls Try.prog 7 #[.agg #[.slice a3 3 p3, .slice a4 0 p4], .int .i64 0] W3 fun e w' => e = .returned (.tuple #[.int .i64 4, .int .i64 0]) ∧ Below W3.heap.size W3 w') :=
    at_any _ [4, 2, 3] [] 0 4 W3 HX3.out.2.1 good_b rfl
  clear hk3 hg3 HS HB3 hb23 HX2 HC
  go_wp2_with fail
  (with_reducible refine HC3.out.mono ?_)
  rintro e w4 ⟨rfl, b4⟩
  have HB4 := Lib.hid b4
  have l4 := (HX3.out.2.2.1.later b4).load
  have HC4 := Lib.hid (put_any' _ [0, 2, 3] [4] w4 (HX3.out.2.2.2.1.later b4) good_a)
  clear b4 l3
  go_wp2_with fail
  (with_reducible refine HC4.out.mono ?_)
  rintro e w5 ⟨vb, rfl, hvb, b5⟩
  obtain ⟨a5, p5, e5, -⟩ := hvb.len
  have HC5 := Lib.hid (read_any _ [0, 2, 3] [4] w5 hvb good_a)
  obtain ⟨n5, hn5⟩ : ∃ n, (putB' [0, 2, 3] [4]).length = n := ⟨_, rfl⟩
  rw [hn5] at e5
  subst e5
  have HB5 := Lib.hid (HB4.out.trans (b5.mono HB4.out.size))
  clear hvb b5 hn5 l4 HB4 HC4 HC3
  go_wp2_with fail
  (with_reducible refine HC5.out.mono ?_)
  rintro e w6 ⟨t, rfl, ht, b6⟩
  obtain ⟨a7, p7, a8, p8, rfl, hu, hv⟩ := ht.form
  have HT : Hid (RdN w6 (.slice a7 3 p7) [0, 2, 3] ∧ RdN w6 (.slice a8 1 p8) [4]) := ⟨hu, hv⟩
  have HB6 := Lib.hid (HB5.out.trans (b6.mono HB5.out.size))
  clear hu hv ht b6 HC5
  have q6 := @kept_new w6 a7 a8 3 p7 1 p8
  go_upto_region 6 with fail
  clear q6
  obtain ⟨W6, hW6⟩ : ∃ W, W = w6.alloc (.cells #[.slice a7 3 p7, .slice a8 1 p8] 25) := ⟨_, rfl⟩
  have hk6 : Box W6 w6.heap.size #[.slice a7 3 p7, .slice a8 1 p8] ∧ Below w6.heap.size w6 W6 := by
    rw [hW6]; exact ⟨Box.new _ _, (Below.refl _ _).alloc (Nat.le_refl _) _⟩
  rw [← hW6]
  clear hW6
  have hb36 : Below W3.heap.size W3 W6 := HB6.out.trans (hk6.2.mono HB6.out.size)
  have HX6 : Hid (Box W6 w6.heap.size #[.slice a7 3 p7, .slice a8 1 p8] ∧ RdR W6 (.agg #[.slice a7 3 p7, .slice a8 1 p8]) [0, 2, 3] [4] ∧ Box W6 g3 #[.slice a3 3 p3, .slice a4 0 p4] ∧ RdR W6 (.agg #[.slice a3 3 p3, .slice a4 0 p4]) [4, 2, 3] [] ∧ Box W6 g2 #[.slice a1 3 p1, .slice a2 1 p2] ∧ RdR W6 (.agg #[.slice a1 3 p1, .slice a2 1 p2]) [0, 2, 3] [4] ∧ Below w.heap.size w W6) :=
    ⟨hk6.1, ⟨_, _, rfl, HT.out.1.later hk6.2, HT.out.2.later hk6.2⟩, HX3.out.1.later hb36, HX3.out.2.1.later hb36, HX3.out.2.2.1.later hb36, HX3.out.2.2.2.1.later hb36, HX3.out.2.2.2.2.trans (hb36.mono HX3.out.2.2.2.2.size)⟩
  have c1 : W6.cell? ⟨g2, 0, none⟩ = some (.slice a1 3 p1) := HX6.out.2.2.2.2.1.cell 0
  obtain ⟨g6, hg6⟩ : ∃ g, w6.heap.size = g := ⟨_, rfl⟩
  rw [hg6] at HX6 ⊢
  have hal : Below W6.heap.size W6 (W6.alloc (.cells #[.int .i64 0, .int .i64 2, .int .i64 3] 3)) := (Below.refl _ _).alloc (Nat.le_refl _) _
  have hu1 : RdN W6 (.slice a1 3 p1) [0, 2, 3] := by
    obtain ⟨u, v, e, h, -⟩ := HX6.out.2.2.2.2.2.1
    cases e; exact h
  have HI : Hid (Calls Try.prog 10 #[.slice a1 3 p1, .slice (some ⟨W6.heap.size, 0, none⟩) 3 3] (W6.alloc (.cells #[.int .i64 0, .int .i64 2, .int .i64 3] 3)) fun e w' => e = .returned (.bool true) ∧ Below W6.heap.size W6 w') := by
    refine (ints_yes _ _ [0, 2, 3] _ (hu1.later hal) (three_new W6)).mono ?_
    rintro e w' ⟨rfl, hb⟩
    exact ⟨rfl, hal.trans (hb.mono hal.size)⟩
  clear hk6 hg6 hal hu1 hb36 HT HB6 HB5 HX3
  go_wp2_with fail
  (with_reducible refine HI.out.mono ?_)
  rintro e w7 ⟨rfl, b7⟩
  have HB7 := Lib.hid b7
  have l7 := (HX6.out.1.later b7).load
  have l8 := (HX6.out.2.2.2.2.1.later b7).load
  have HC7 := Lib.hid (same_yes _ _ [0, 2, 3] [4] w7 (HX6.out.2.1.later b7) (HX6.out.2.2.2.2.2.1.later b7))
  clear b7 c1 HI
  go_wp2_with fail
  (with_reducible refine HC7.out.mono ?_)
  rintro e w8 ⟨rfl, b8⟩
  have hb8 := HB7.out.trans (b8.mono HB7.out.size)
  have HB8 := Lib.hid hb8
  have l9 := (HX6.out.2.2.1.later hb8).load
  have HC8 := Lib.hid (right_yes _ [4, 2, 3] [] w8 (HX6.out.2.2.2.1.later hb8) good_b)
  clear b8 hb8 l7 l8 HC7
  go_wp2_with fail
  (with_reducible refine HC8.out.mono ?_)
  rintro e w9 ⟨rfl, b9⟩
  have hb9 := HB8.out.trans (b9.mono HB8.out.size)
  have FIN := Lib.hid (HX6.out.2.2.2.2.2.2.trans (hb9.mono HX6.out.2.2.2.2.2.2.size))
  clear b9 hb9 l9
  go_wp2
  go_ret
  exact ⟨rfl, FIN.out⟩
end Go.Proofs.Yteifldppipnodaa.Bad
