/- bad.New, where there are enough. -/
import Derived.Test.YteifldppipnodaaBadRepl
namespace Go.Proofs.Yteifldppipnodaa.Bad
open Go.RowKit Go.Sort
attribute [local go_sem ↓] slice_ints loadVar_rs storeVar_rs

set_option maxHeartbeats 2000000 in
set_option maxRecDepth 100000 in
theorem new_any (n m : Nat) (bads : List Nat) (v : Value) (w : World) (hv : RdN w v bads) (h1 : 1 ≤ n) (h2 : n + m ≤ 255) (hb : ∀ x ∈ bads, x < n + m) (hl : bads.length ≤ 1000) (hf : n ≤ (freeL bads (n + m)).length) :
    Calls Try.prog 5 #[.int .i64 (n : Int), .int .i64 (m : Int), v] w fun e w' => ∃ r, e = .returned (.tuple #[r, .int .i64 0]) ∧ OwnL w' w.heap.size r ((freeL bads (n + m)).take n) ((freeL bads (n + m)).drop n) ∧ Below w.heap.size w w' := by
  have hfl := free_length bads (n + m)
  obtain ⟨L, hL⟩ : ∃ L, freeL bads (n + m) = L := ⟨_, rfl⟩
  have HL := Lib.hid hL
  rw [hL] at hf hfl ⊢
  obtain ⟨L1, hL1⟩ : ∃ L1, L.take n = L1 := ⟨_, rfl⟩
  obtain ⟨L2, hL2⟩ : ∃ L2, L.drop n = L2 := ⟨_, rfl⟩
  rw [hL1, hL2]
  obtain ⟨a, p, e, -⟩ := hv.len
  obtain ⟨W, hW⟩ : ∃ W, W = w.alloc (.cells #[.slice none 0 0, .slice none 0 0] 25) := ⟨_, rfl⟩
  have hbx : Box W w.heap.size zr ∧ Below w.heap.size w W := by
    rw [hW]
    exact ⟨Box.new w zr, (Below.refl _ _).alloc (Nat.le_refl _) _⟩
  have HX := Lib.hid hbx
  have HG : Hid (Calls Try.prog 13 #[.int .i64 ((n : Int) + (m : Int)), v] W fun e w' => ∃ u, e = .returned u ∧ OwnN w' W.heap.size u L ∧ Below W.heap.size W w') := by
    have := good_any (n + m) bads v W (hv.later hbx.2) h2 hb hl
    rw [hL, Int.natCast_add] at this
    exact this
  have d1 : decide ((n : Int) < 1) = false := by simp; omega
  have d2 : decide ((m : Int) < 0) = false := by simp
  have d3 : decide ((255 : Int) - n < m) = false := by simp; omega
  obtain ⟨k, hk⟩ : ∃ k, bads.length = k := ⟨_, rfl⟩
  rw [hk] at e
  subst e
  have hn255 : (n : Int) ≤ 255 := by omega
  have hm255 : (m : Int) ≤ 255 := by omega
  clear hv hb hL hbx hk hl
  go_enter Try.func5, Try.ntmps5
  go_upto_region 1 with fail
  rw [← hW]
  clear hW
  go_wp2_with fail
  (with_reducible refine HG.out.mono ?_)
  rintro e w1 ⟨u, rfl, o1, b1⟩
  obtain ⟨x1, q1, e1, -⟩ := o1.rd.len
  have HO := Lib.hid (And.intro o1 b1)
  have HLE := Lib.hid (And.intro hf hfl)
  obtain ⟨l, hl⟩ : ∃ l, L.length = l := ⟨_, rfl⟩
  rw [hl] at e1 hf hfl
  subst e1
  have d4 : decide ((l : Int) < n) = false := by simp; omega
  have d5 : decide (l < n) = false := by simp; omega
  have d6 : ¬ l < n := by omega
  have HC := Lib.hid (parted_any _ L n w1 o1.rd (by have := HLE.out.2; omega) HLE.out.1)
  clear o1 b1 hl hf hfl d1 d2 d3
  go_wp2_with fail
  (with_reducible refine HC.out.mono ?_)
  rintro e w2 ⟨v1, v2, rfl, o1, b1⟩
  obtain ⟨x1, q1, e1, -⟩ := o1.1.rd.len
  obtain ⟨x2, q2, e2, -⟩ := o1.2.1.rd.len
  rw [hL1] at e1 o1
  rw [hL2] at e2 o1
  subst e1 e2
  have hbx := (HX.out.1.later HO.out.2).later b1
  have hst := hbx.store rfl (u := .slice x1 L1.length q1) (v := .slice x2 L2.length q2) rfl rfl
  have hl2 := (hbx.row #[.slice x1 L1.length q1, .slice x2 L2.length q2]).load
  have hw1 := HX.out.2.trans (HO.out.2.mono HX.out.2.size)
  have hwd := hw1.trans (b1.mono hw1.size)
  have FIN : Hid (OwnL (w2.setRow w.heap.size #[.slice x1 L1.length q1, .slice x2 L2.length q2]) w.heap.size (.agg #[.slice x1 L1.length q1, .slice x2 L2.length q2]) L1 L2 ∧ Below w.heap.size w (w2.setRow w.heap.size #[.slice x1 L1.length q1, .slice x2 L2.length q2])) := by
    exact ⟨⟨_, _, rfl, (own_row o1.1 hbx _).mono hw1.size, (own_row o1.2.1 hbx _).mono hw1.size⟩, below_row hwd hwd.size (Nat.le_refl _) _⟩
  clear hbx hwd hw1 o1 b1 HX HG HO HC hL1 hL2
  go_wp2
  exact bodyPost_ret (v := .tuple #[.agg #[.slice x1 L1.length q1, .slice x2 L2.length q2], .int .i64 0]) (results_row_tmp rfl _ _ _ _ rfl rfl hl2) rfl ⟨_, rfl, FIN.out⟩
end Go.Proofs.Yteifldppipnodaa.Bad
