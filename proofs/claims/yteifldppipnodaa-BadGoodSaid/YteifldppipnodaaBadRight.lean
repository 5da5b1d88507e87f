/- bad.Right of a reserve that is right. -/
import Derived.Test.YteifldppipnodaaBadP
import Derived.Deep.CutRange
namespace Go.Proofs.Yteifldppipnodaa.Bad
open Go.RowKit Go.Sort
attribute [local go_sem ↓] slice_ints

set_option maxHeartbeats 2000000 in
set_option maxRecDepth 100000 in
theorem right_yes (r : Value) (st lf : List Nat) (w : World) (hR : RdR w r st lf) (hG : Good st lf) :
    Calls Try.prog 12 #[r] w fun e w' => e = .returned (.bool true) ∧ Below w.heap.size w w' := by
  obtain ⟨u, v, rfl, h1, h2⟩ := hR
  have HR := Lib.hid (And.intro h1 h2)
  have HG := Lib.hid hG
  obtain ⟨a1, p1, e1, -⟩ := h1.len
  obtain ⟨a2, p2, e2, -⟩ := h2.len
  have hl1 := hG.some
  have hl2 := hG.few
  rw [List.length_append] at hl1 hl2
  have HN := Lib.hid hl2
  obtain ⟨n1, hn1⟩ : ∃ n1, st.length = n1 := ⟨_, rfl⟩
  obtain ⟨n2, hn2⟩ : ∃ n2, lf.length = n2 := ⟨_, rfl⟩
  have HE := Lib.hid (And.intro hn1 hn2)
  rw [hn1] at e1 hl1 hl2
  rw [hn2] at e2 hl1 hl2
  have d1 : decide ((n1 : Int) + n2 < 1) = false := by simp; omega
  have d2 : decide ((255 : Int) < (n1 : Int) + n2) = false := by simp; omega
  subst e1 e2
  have hmm := @run_makeMap Try.prog
  obtain ⟨W, hW⟩ : ∃ W, W = w.alloc (.cells #[.slice a1 n1 p1, .slice a2 n2 p2] 25) := ⟨_, rfl⟩
  obtain ⟨c0, c1⟩ := box_cells w (.slice a1 n1 p1) (.slice a2 n2 p2)
  rw [← hW] at c0 c1
  have hb1 : Below w.heap.size w W := by rw [hW]; exact (Below.refl _ _).alloc (Nat.le_refl _) _
  have HB := Lib.hid hb1
  clear h1 h2 hG hn1 hn2 hb1
  go_enter Try.func12, Try.ntmps12
  go_upto_region 1 with fail
  rw [← hW]
  clear hW
  go_upto_region 5 with fail
  obtain ⟨W2, hW2⟩ : ∃ W2, W2 = W.alloc (.map #[] 0) := ⟨_, rfl⟩
  have hb2 : Below W.heap.size W W2 := by rw [hW2]; exact (Below.refl _ _).alloc (Nat.le_refl _) _
  have hs2 : W2.heap.size = W.heap.size + 1 := by rw [hW2]; simp
  have hset : SetN W2 W.heap.size 0 [] := by rw [hW2]; exact SetN.made W
  replace c0 := keep_cell c0 hb2
  replace c1 := keep_cell c1 hb2
  rw [← hW2]
  clear hW2 d1 d2 hmm
  obtain ⟨B, hB⟩ : ∃ B, W.heap.size = B := ⟨_, rfl⟩
  rw [hB] at hb2 hs2 hset ⊢
  have HC : Hid (Calls Try.prog 17 #[.slice (some ⟨W2.heap.size, 0, none⟩) 2 2] (W2.alloc (.cells #[.slice a1 n1 p1, .slice a2 n2 p2] 23)) fun e w' => ∃ v, e = .returned v ∧ OwnN w' (B + 1) v (st ++ lf) ∧ SetN w' B 0 [] ∧ Below w.heap.size w w' ∧ B + 1 ≤ w'.heap.size) := by
    have hal : Below W2.heap.size W2 (W2.alloc (.cells #[.slice a1 n1 p1, .slice a2 n2 p2] 23)) := (Below.refl _ _).alloc (Nat.le_refl _) _
    have hw2 : Below w.heap.size w W2 := HB.out.trans (hb2.mono (by rw [← hB]; exact HB.out.size))
    have hsz := hw2.size
    refine (concat_two W2.heap.size _ _ st lf _ ((HR.out.1.later hw2).later hal) ((HR.out.2.later hw2).later hal) (by rw [World.cell?_alloc_at _ _ _ _ rfl]; rfl) (by rw [World.cell?_alloc_at _ _ _ _ rfl]; rfl) (by have := HN.out; omega)).mono ?_
    rintro e w3 ⟨v3, rfl, h2, h3⟩
    have hs3 := h3.size
    have hsa := hal.size
    exact ⟨v3, rfl, h2.mono (by omega), (hset.later hal).later h3, hw2.trans ((hal.mono hsz).trans (h3.mono (by omega))), by omega⟩
  have HBW : Hid (w.heap.size ≤ B) := by rw [← hB]; exact HB.out.size
  clear hb2 hs2 hset hB HB HN HR
  go_wp2_with fail
  refine HC.out.mono ?_
  rintro e w3 ⟨v3, rfl, h1, h2, h3, h4⟩
  obtain ⟨L, hL⟩ : ∃ L, st ++ lf = L := ⟨_, rfl⟩
  have HG2 : Hid (L.Nodup ∧ ∀ x ∈ L, x < 255) := by rw [← hL]; exact ⟨HG.out.nodup, HG.out.small⟩
  have hLn : L.length = n1 + n2 := by rw [← hL, List.length_append, HE.out.1, HE.out.2]
  rw [hL] at h1
  obtain ⟨g, cap, hv, -⟩ := h1.shape (by omega)
  rw [hLn] at hv
  subst hv
  have HI := Lib.hid (And.intro h1 (And.intro h2 (And.intro h3 h4)))
  obtain ⟨m, hm⟩ : ∃ m, n1 + n2 = m := ⟨_, rfl⟩
  rw [hm] at hLn hl2 hl1 HI ⊢
  have HLn := Lib.hid hLn
  clear h1 h2 h3 h4 hL hm HC HG HE c0 c1 hLn
  go_wp2
  go_loopw [30] (fun i wr => ∃ k : Nat, k ≤ m ∧ i = .int .i64 k ∧ OwnN wr (B + 1) (.slice (some ⟨g, 0, none⟩) m cap) L ∧ SetN wr B k (L.take k) ∧ Below w.heap.size w wr ∧ B + 1 ≤ wr.heap.size) (fun i _ => m - (intOf i).toNat)
  case atStart => exact ⟨0, Nat.zero_le _, rfl, HI.out⟩
  case round =>
    obtain ⟨k, hk, rfl, ho, hs, hb, hz⟩ := hrel
    have HW := Lib.hid (And.intro ho (And.intro hs (And.intro hb hz)))
    clear ho hs hb hz
    by_cases hlt : k < m
    · have hltI : (k : Int) < m := by omega
      obtain ⟨x, hx⟩ : ∃ x, L[k]? = some x := ⟨_, List.getElem?_eq_getElem (by rw [HLn.out]; exact hlt)⟩
      have HX := Lib.hid hx
      obtain ⟨hcell, -⟩ := HW.out.1.at hx
      have hx255 : x < 255 := HG2.out.2 x (List.mem_of_getElem? hx)
      have HF : Hid (decide (x ∈ L.take k) = false) := decide_eq_false (not_before HG2.out.1 hx)
      have HA : Hid (SetN (wr.alloc (.cells #[] 50)) B k (L.take k)) := HW.out.2.1.later ((Below.refl _ _).alloc (Nat.le_refl _) _)
      have d1 : decide ((x : Int) < 0) = false := by simp
      have d2 : decide ((255 : Int) ≤ x) = false := by simp; omega
      unfold nV at hcell
      clear hx
      go_wp2_with (first
        | (at_lookup; refine wpList_known rfl _ _ rfl rfl rfl HW.out.2.1 (by omega) false HF.out ?_)
        | (at_mapUpdate; refine wpList_note rfl _ _ _ rfl rfl rfl rfl HA.out (by omega) (by omega) ?_; intro w5 h1 h2)
        | go_in)
      have HA2 : Hid (OwnN (wr.alloc (.cells #[] 50)) (B + 1) (.slice (some ⟨g, 0, none⟩) m cap) L ∧ Below w.heap.size w (wr.alloc (.cells #[] 50))) :=
        ⟨HW.out.1.later ((Below.refl _ _).alloc (Nat.le_refl _) _), HW.out.2.2.1.alloc HW.out.2.2.1.size _⟩
      have HZ : Hid (B + 1 ≤ (wr.alloc (.cells #[] 50)).heap.size) := by have := HW.out.2.2.2; show _ ≤ _; simp; omega
      have HE5 := Lib.hid (And.intro h1 h2)
      clear h1 h2 HF HA hcell
      go_roundw
      case rel =>
        refine ⟨k + 1, hlt, by go_num, HA2.out.1.noted HE5.out.2 (Nat.lt_succ_self _), ?_, HA2.out.2.grown HE5.out.2 HA2.out.2.size (fun j hj => by cases hj; exact HBW.out), Nat.le_trans HZ.out HE5.out.2.size⟩
        rw [take_next HX.out]
        exact HE5.out.1
      case measure => simp [intOf]; omega
    · obtain rfl : k = m := by omega
      have FIN := Lib.hid HW.out.2.2.1
      clear HW
      go_wp2
      go_ret
      exact ⟨rfl, FIN.out⟩
end Go.Proofs.Yteifldppipnodaa.Bad
