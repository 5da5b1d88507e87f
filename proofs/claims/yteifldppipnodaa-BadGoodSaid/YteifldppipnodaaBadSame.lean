/- The document's Ints and Same, of lists that are the same. -/
import Derived.Test.YteifldppipnodaaBadNew
namespace Go.Proofs.Yteifldppipnodaa.Bad
open Go.RowKit Go.Sort
attribute [local go_sem ↓] slice_ints loadVar_rs storeVar_rs

set_option maxHeartbeats 2000000 in
set_option maxRecDepth 100000 in
theorem ints_yes (u v : Value) (l : List Nat) (w : World) (hu : RdN w u l) (hv : RdN w v l) :
    Calls Try.prog 10 #[u, v] w fun e w' => e = .returned (.bool true) ∧ Below w.heap.size w w' := by
  have HR := Lib.hid (And.intro hu hv)
  obtain ⟨a1, p1, e1, h1, h2⟩ := hu.len
  obtain ⟨a2, p2, e2, -⟩ := hv.len
  obtain ⟨n, hn⟩ : ∃ n, l.length = n := ⟨_, rfl⟩
  have HN := Lib.hid hn
  rw [hn] at e1 e2 h1
  have hm : n ≤ 9223372036854775807 := by unfold maxLen at h2; omega
  subst e1 e2
  clear hu hv hn h1 h2
  go_enter Try.func10, Try.ntmps10
  go_wp2
  go_loopw [5] (fun i wr => ∃ k : Nat, k ≤ n ∧ i = .int .i64 k ∧ Below w.heap.size w wr) (fun i _ => n - (intOf i).toNat)
  case atStart => exact ⟨0, Nat.zero_le _, rfl, Below.refl _ _⟩
  case round =>
    obtain ⟨k, hk, rfl, hb⟩ := hrel
    have HB := Lib.hid hb
    clear hb
    by_cases hlt : k < n
    · have hltI : (k : Int) < n := by omega
      obtain ⟨b1, o1, q1, e1, hc1⟩ := HR.out.1.form (by rw [HN.out]; omega)
      obtain ⟨b2, o2, q2, e2, hc2⟩ := HR.out.2.form (by rw [HN.out]; omega)
      rw [HN.out] at e1 e2
      cases e1
      cases e2
      obtain ⟨x, hx⟩ : ∃ x, l[k]? = some x := ⟨_, List.getElem?_eq_getElem (by rw [HN.out]; exact hlt)⟩
      have c1 := keep_cell (hc1 k x hx) HB.out
      have c2 := keep_cell (hc2 k x hx) HB.out
      unfold nV at c1 c2
      clear hx hc1 hc2
      go_wp2
      go_quiet (fail)
      rename_i nq
      have hq : Below w.heap.size w (wr.drewN nq) := HB.out.trans ⟨rfl, rfl, rfl, Nat.le_refl _, fun _ _ => rfl⟩
      have HQ := Lib.hid hq
      clear hq c1 c2
      go_wp2
      go_roundw
      case rel => exact ⟨k + 1, hlt, by go_num, HQ.out⟩
      case measure => simp [intOf]; omega
    · obtain rfl : k = n := by omega
      go_wp2
      go_ret
      exact ⟨rfl, HB.out⟩

set_option maxHeartbeats 2000000 in
set_option maxRecDepth 100000 in
theorem same_yes (r s : Value) (st lf : List Nat) (w : World) (hr : RdR w r st lf) (hs : RdR w s st lf) :
    Calls Try.prog 11 #[r, s] w fun e w' => e = .returned (.bool true) ∧ Below w.heap.size w w' := by
  obtain ⟨u1, v1, rfl, hu1, hv1⟩ := hr
  obtain ⟨u2, v2, rfl, hu2, hv2⟩ := hs
  obtain ⟨W, hW⟩ : ∃ W, W = (w.alloc (.cells #[u1, v1] 25)).alloc (.cells #[u2, v2] 25) := ⟨_, rfl⟩
  have hbx : Box W w.heap.size #[u1, v1] ∧ Box W (w.heap.size + 1) #[u2, v2] ∧ Below w.heap.size w W := by
    obtain ⟨W1, hW1⟩ : ∃ W1, W1 = w.alloc (.cells #[u1, v1] 25) := ⟨_, rfl⟩
    have h1 := Box.new w #[u1, v1]
    have hs1 : W1.heap.size = w.heap.size + 1 := by rw [hW1]; simp
    have hb1 : Below w.heap.size w W1 := by rw [hW1]; exact (Below.refl _ _).alloc (Nat.le_refl _) _
    rw [← hW1] at hW h1
    have h2 := Box.new W1 #[u2, v2]
    rw [hs1] at h2
    have hb2 : Below W1.heap.size W1 W := by rw [hW]; exact (Below.refl _ _).alloc (Nat.le_refl _) _
    exact ⟨h1.later hb2, by rw [hW]; exact h2, hb1.trans (hb2.mono hb1.size)⟩
  have c0 : W.cell? ⟨w.heap.size, 0, none⟩ = some u1 := hbx.1.cell 0
  have c1 : W.cell? ⟨w.heap.size + 1, 0, none⟩ = some u2 := hbx.2.1.cell 0
  have HC := Lib.hid (ints_yes u1 u2 st W (hu1.later hbx.2.2) (hu2.later hbx.2.2))
  have HX := Lib.hid (And.intro hbx (And.intro hv1 hv2))
  clear hu1 hv1 hu2 hv2 hbx
  go_enter Try.func11, Try.ntmps11
  go_upto_region 1 with fail
  rw [← hW]
  clear hW
  go_wp2_with fail
  (with_reducible refine HC.out.mono ?_)
  rintro e w1 ⟨rfl, b1⟩
  have hwd := HX.out.1.2.2.trans (b1.mono HX.out.1.2.2.size)
  have c2 : w1.cell? ⟨w.heap.size, 1, none⟩ = some v1 := keep_cell (HX.out.1.1.cell 1) b1
  have c3 : w1.cell? ⟨w.heap.size + 1, 1, none⟩ = some v2 := keep_cell (HX.out.1.2.1.cell 1) b1
  have HC2 := Lib.hid (ints_yes v1 v2 lf w1 (HX.out.2.1.later hwd) (HX.out.2.2.later hwd))
  have HD := Lib.hid hwd
  clear b1 hwd c0 c1
  go_wp2_with fail
  (with_reducible refine HC2.out.mono ?_)
  rintro e w2 ⟨rfl, b2⟩
  have FIN := Lib.hid (HD.out.trans (b2.mono HD.out.size))
  clear b2 c2 c3
  go_wp2
  go_ret
  exact ⟨rfl, FIN.out⟩
end Go.Proofs.Yteifldppipnodaa.Bad
