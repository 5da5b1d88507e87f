/- bad.has, bad.At of a right reserve. -/
import Derived.Test.YteifldppipnodaaBadCopied
namespace Go.Proofs.Yteifldppipnodaa.Bad
open Go.RowKit Go.Sort
attribute [local go_sem ↓] slice_ints loadVar_rs storeVar_rs

set_option maxHeartbeats 2000000 in
set_option maxRecDepth 100000 in
theorem has_yes (r : Value) (st lf : List Nat) (n : Nat) (w : World) (hR : RdR w r st lf) (hG : Good st lf) (hn : n < st.length) :
    Calls Try.prog 15 #[r, .int .i64 (n : Int)] w fun e w' => e = .returned (.bool true) ∧ Below w.heap.size w w' := by
  obtain ⟨u, v, rfl, hu, hv⟩ := hR
  obtain ⟨a1, p1, e1, m1, m2⟩ := hu.len
  obtain ⟨n1, hn1⟩ : ∃ n1, st.length = n1 := ⟨_, rfl⟩
  rw [hn1] at e1 hn
  have hm : n1 ≤ 255 := by have := hG.few; rw [List.length_append, hn1] at this; omega
  have hnI : (n : Int) < n1 := by omega
  subst e1
  obtain ⟨W, hW⟩ : ∃ W, W = w.alloc (.cells #[.slice a1 n1 p1, v] 25) := ⟨_, rfl⟩
  have hx : Box W w.heap.size #[.slice a1 n1 p1, v] ∧ Below w.heap.size w W := by
    rw [hW]
    exact ⟨Box.new w _, (Below.refl _ _).alloc (Nat.le_refl _) _⟩
  have HX := Lib.hid hx
  have HC := Lib.hid (right_yes _ st lf W ⟨_, _, rfl, hu.later hx.2, hv.later hx.2⟩ hG)
  have hld := hx.1.load
  have c0 := fun w1 (hb : Below W.heap.size W w1) => keep_cell (hx.1.cell 0) hb
  have HK := Lib.hid c0
  have d1 : decide ((0 : Int) ≤ n) = true := by simp
  have d2 : decide ((n : Int) < n1) = true := decide_eq_true hnI
  clear hu hv hG m1 m2 hn1 hx c0
  go_enter Try.func15, Try.ntmps15
  go_upto_region 1 with fail
  rw [← hW]
  clear hW
  go_wp2_with fail
  (with_reducible refine HC.out.mono ?_)
  rintro e w1 ⟨rfl, b1⟩
  have c0 : w1.cell? ⟨w.heap.size, 0, none⟩ = some (.slice a1 n1 p1) := HK.out w1 b1
  have FIN := Lib.hid (HX.out.2.trans (b1.mono HX.out.2.size))
  clear b1 hld
  go_wp2
  go_ret
  exact ⟨rfl, FIN.out⟩

set_option maxHeartbeats 2000000 in
set_option maxRecDepth 100000 in
theorem at_any (r : Value) (st lf : List Nat) (n x : Nat) (w : World) (hR : RdR w r st lf) (hG : Good st lf) (hx : st[n]? = some x) :
    Calls Try.prog 7 #[r, .int .i64 (n : Int)] w fun e w' => e = .returned (.tuple #[.int .i64 (x : Int), .int .i64 0]) ∧ Below w.heap.size w w' := by
  have hn : n < st.length := (List.getElem?_eq_some_iff.1 hx).1
  obtain ⟨u, v, rfl, hu, hv⟩ := hR
  obtain ⟨g, o, p1, e1, hc⟩ := hu.form (by omega)
  have hcx := hc n x hx
  obtain ⟨W, hW⟩ : ∃ W, W = w.alloc (.cells #[u, v] 25) := ⟨_, rfl⟩
  have hbx : Box W w.heap.size #[u, v] ∧ Below w.heap.size w W := by
    rw [hW]
    exact ⟨Box.new w _, (Below.refl _ _).alloc (Nat.le_refl _) _⟩
  have HX := Lib.hid hbx
  have HC := Lib.hid (has_yes _ st lf n W ⟨_, _, rfl, hu.later hbx.2, hv.later hbx.2⟩ hG hn)
  have hld := hbx.1.load
  have HK : Hid (∀ w1, Below W.heap.size W w1 → w1.cell? ⟨w.heap.size, 0, none⟩ = some u ∧ w1.cell? ⟨g, o + n, none⟩ = some (nV x)) := fun w1 hb => ⟨keep_cell (hbx.1.cell 0) hb, keep_cell hcx (hbx.2.trans (hb.mono hbx.2.size))⟩
  unfold nV at HK
  obtain ⟨n1, hn1⟩ : ∃ n1, st.length = n1 := ⟨_, rfl⟩
  rw [hn1] at e1 hn
  have hnI : (n : Int) < n1 := by omega
  subst e1
  clear hu hv hG hbx hcx hc hx hn1
  go_enter Try.func7, Try.ntmps7
  go_upto_region 1 with fail
  rw [← hW]
  clear hW
  go_wp2_with fail
  (with_reducible refine HC.out.mono ?_)
  rintro e w1 ⟨rfl, b1⟩
  obtain ⟨c0, c1⟩ := HK.out w1 b1
  have FIN := Lib.hid (HX.out.2.trans (b1.mono HX.out.2.size))
  clear b1 hld
  go_wp2
  go_ret2
  exact ⟨rfl, FIN.out⟩
end Go.Proofs.Yteifldppipnodaa.Bad
