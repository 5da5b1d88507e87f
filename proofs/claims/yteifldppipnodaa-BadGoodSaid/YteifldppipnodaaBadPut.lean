/- bad.Put of a right reserve. -/
import Derived.Test.YteifldppipnodaaBadSame
namespace Go.Proofs.Yteifldppipnodaa.Bad
open Go.RowKit Go.Sort
attribute [local go_sem ↓] slice_ints loadVar_rs storeVar_rs

def u8 (n : Nat) : UInt8 := UInt8.ofNat n
def headB (st lf : List Nat) : List UInt8 := [u8 st.length, u8 lf.length] ++ (st ++ lf).map u8
def putB' (st lf : List Nat) : List UInt8 := headB st lf ++ sealB (headB st lf)
theorem u8_val {n : Nat} (h : n < 256) : byV (u8 n) = .int .u8 (n : Int) := by
  unfold byV u8
  rw [UInt8.toNat_ofNat', Nat.mod_eq_of_lt h]
theorem own_two {w : World} {b b' : Nat} {v u : Value} {l : List Nat} {m : List UInt8} (h : OwnN w b v l) (h' : OwnB w b' u m) : ∀ g, u.ownBlock = some g → v.ownBlock ≠ some g := by
  intro g hg he
  rcases h.2 with ⟨h1, -⟩ | ⟨g1, cap, cur, h1, -, h3, -⟩
  · rw [h1] at he; cases he
  · rw [h1] at he
    cases he
    rcases h'.2 with ⟨h4, -⟩ | ⟨g2, cap2, cur2, h4, -, h6, -⟩
    · rw [h4] at hg; cases hg
    · rw [h4] at hg
      cases hg
      rw [h3] at h6
      cases h6
theorem OwnN.grewB {w w' : World} {b b' : Nat} {v u : Value} {l : List Nat} {m : List UInt8} (h : OwnN w b v l) (h' : OwnB w b' u m) (hg : w.grownBy w' u.ownBlock) : OwnN w' b v l := by
  refine World.ownsRow.kept h hg ?_
  by_cases hv : v.ownBlock = none
  · exact .inl hv
  · obtain ⟨g, he⟩ := Option.ne_none_iff_exists'.1 hv
    exact .inr fun e => own_two h h' g (by rw [← e]; exact he) he
theorem oneB_new (W : World) {x : Nat} (hx : x < 256) : RdB (W.alloc (.cells #[.int .u8 (x : Int)] 5)) (.slice (some ⟨W.heap.size, 0, none⟩) 1 1) [u8 x] := by
  rw [← u8_val hx]
  rcases OwnB.made W [u8 x] with h | h
  · exact h.rd
  · exact absurd (by unfold maxLen; simp) h
theorem twoB_new (W : World) {x y : Nat} (hx : x < 256) (hy : y < 256) : OwnB (W.alloc (.cells #[.int .u8 (x : Int), .int .u8 (y : Int)] 5)) W.heap.size (.slice (some ⟨W.heap.size, 0, none⟩) 2 2) [u8 x, u8 y] := by
  rw [← u8_val hx, ← u8_val hy]
  rcases OwnB.made W [u8 x, u8 y] with h | h
  · exact h
  · exact absurd (by unfold maxLen; simp) h
theorem map_next {l : List Nat} {k x : Nat} (h : l[k]? = some x) (p : List UInt8) : p ++ (l.take (k + 1)).map u8 = (p ++ (l.take k).map u8) ++ [u8 x] := by
  rw [take_next h, List.map_append, List.append_assoc]; rfl

set_option maxHeartbeats 2000000 in
set_option maxRecDepth 100000 in
theorem put_any' (r : Value) (st lf : List Nat) (w : World) (hR : RdR w r st lf) (hG : Good st lf) :
    Calls Try.prog 8 #[r] w fun e w' => ∃ v, e = .returned (.tuple #[v, .int .i64 0]) ∧ RdB w' v (putB' st lf) ∧ Below w.heap.size w w' := by
  obtain ⟨u, v, rfl, h1, h2⟩ := hR
  have HR := Lib.hid (And.intro h1 h2)
  have HG := Lib.hid hG
  obtain ⟨a1, p1, e1, -⟩ := h1.len
  obtain ⟨a2, p2, e2, -⟩ := h2.len
  have hl2 := hG.few
  have hl1 := hG.some
  rw [List.length_append] at hl2 hl1
  have HHD : Hid (headB st lf = [u8 st.length, u8 lf.length] ++ (st ++ lf).map u8) := rfl
  obtain ⟨n1, hn1⟩ : ∃ n1, st.length = n1 := ⟨_, rfl⟩
  obtain ⟨n2, hn2⟩ : ∃ n2, lf.length = n2 := ⟨_, rfl⟩
  rw [hn1, hn2] at HHD
  have HE := Lib.hid (And.intro hn1 hn2)
  rw [hn1] at e1 hl2 hl1
  rw [hn2] at e2 hl2 hl1
  have k1 : IntKind.u8.wrap (n1 : Int) = n1 := by simp [IntKind.wrap, IntKind.bits, IntKind.signed]; omega
  have k2 : IntKind.u8.wrap (n2 : Int) = n2 := by simp [IntKind.wrap, IntKind.bits, IntKind.signed]; omega
  subst e1 e2
  obtain ⟨W, hW⟩ : ∃ W, W = w.alloc (.cells #[.slice a1 n1 p1, .slice a2 n2 p2] 25) := ⟨_, rfl⟩
  have hbx : Box W w.heap.size #[.slice a1 n1 p1, .slice a2 n2 p2] ∧ Below w.heap.size w W := by
    rw [hW]
    exact ⟨Box.new w _, (Below.refl _ _).alloc (Nat.le_refl _) _⟩
  have HX := Lib.hid hbx
  have HC := Lib.hid (right_yes _ st lf W ⟨_, _, rfl, h1.later hbx.2, h2.later hbx.2⟩ hG)
  have hld := hbx.1.load
  clear h1 h2 hG hn1 hn2 hbx
  go_enter Try.func8, Try.ntmps8
  go_upto_region 1 with fail
  rw [← hW]
  clear hW
  go_wp2_with fail
  (with_reducible refine HC.out.mono ?_)
  rintro e w1 ⟨rfl, b1⟩
  have c0 : w1.cell? ⟨w.heap.size, 0, none⟩ = some (.slice a1 n1 p1) := keep_cell (HX.out.1.cell 0) b1
  have c1 : w1.cell? ⟨w.heap.size, 1, none⟩ = some (.slice a2 n2 p2) := keep_cell (HX.out.1.cell 1) b1
  have HW1 := Lib.hid (HX.out.2.trans (b1.mono HX.out.2.size))
  clear b1 hld HX HC
  go_upto_region 4 with fail
  obtain ⟨W4, hW4⟩ : ∃ W4, W4 = w1.alloc (.cells #[.int .u8 (n1 : Int), .int .u8 (n2 : Int)] 5) := ⟨_, rfl⟩
  have hb4 : Below w1.heap.size w1 W4 := by rw [hW4]; exact (Below.refl _ _).alloc (Nat.le_refl _) _
  have ho4 : OwnB W4 w1.heap.size (.slice (some ⟨w1.heap.size, 0, none⟩) 2 2) [u8 n1, u8 n2] := by rw [hW4]; exact twoB_new w1 (by omega) (by omega)
  replace c0 := keep_cell c0 hb4
  replace c1 := keep_cell c1 hb4
  rw [← hW4]
  have HH := Lib.hid (And.intro hb4 ho4)
  obtain ⟨B, hB⟩ : ∃ B, w1.heap.size = B := ⟨_, rfl⟩
  have HB := Lib.hid hB
  rw [hB] at HH ⊢
  clear hW4 hb4 ho4 k1 k2 hB
  have HC : Hid (Calls Try.prog 17 #[.slice (some ⟨W4.heap.size, 0, none⟩) 2 2] (W4.alloc (.cells #[.slice a1 n1 p1, .slice a2 n2 p2] 23)) fun e w' => ∃ v, e = .returned v ∧ OwnB w' B (.slice (some ⟨B, 0, none⟩) 2 2) [u8 n1, u8 n2] ∧ OwnN w' B v (st ++ lf) ∧ Below w.heap.size w w' ∧ B ≤ w'.heap.size) := by
    have hal : Below W4.heap.size W4 (W4.alloc (.cells #[.slice a1 n1 p1, .slice a2 n2 p2] 23)) := (Below.refl _ _).alloc (Nat.le_refl _) _
    have hw2 : Below w.heap.size w W4 := HW1.out.trans (HH.out.1.mono (by rw [← HB.out]; exact HW1.out.size))
    have hsz := hw2.size
    have hsB := HH.out.1.size
    rw [HB.out] at hsB
    refine (concat_two W4.heap.size _ _ st lf _ ((HR.out.1.later hw2).later hal) ((HR.out.2.later hw2).later hal) (by rw [World.cell?_alloc_at _ _ _ _ rfl]; rfl) (by rw [World.cell?_alloc_at _ _ _ _ rfl]; rfl) (by rw [HE.out.1, HE.out.2]; omega)).mono ?_
    rintro e w3 ⟨v3, rfl, h2, h3⟩
    have hs3 := h3.size
    have hsa := hal.size
    exact ⟨v3, rfl, (HH.out.2.later hal).later h3, h2.mono (by omega), hw2.trans ((hal.mono hsz).trans (h3.mono (by omega))), by omega⟩
  have HBW : Hid (w.heap.size ≤ B) := by rw [← HB.out]; exact HW1.out.size
  clear HH HW1
  go_wp2_with fail
  (with_reducible refine HC.out.mono ?_)
  rintro e w3 ⟨v3, rfl, g1, g2, g3, g4⟩
  obtain ⟨L, hL⟩ : ∃ L, st ++ lf = L := ⟨_, rfl⟩
  have HG2 : Hid (∀ x ∈ L, x < 255) := by rw [← hL]; exact HG.out.small
  have hLn : L.length = n1 + n2 := by rw [← hL, List.length_append, HE.out.1, HE.out.2]
  have HHL : Hid (headB st lf = [u8 n1, u8 n2] ++ L.map u8) := by rw [← hL]; exact HHD.out
  rw [hL] at g2
  obtain ⟨g, cap, hv, -⟩ := g2.shape (by omega)
  rw [hLn] at hv
  subst hv
  have HI := Lib.hid (And.intro g1 (And.intro g2 (And.intro g3 g4)))
  obtain ⟨m, hm⟩ : ∃ m, n1 + n2 = m := ⟨_, rfl⟩
  rw [hm] at hLn hl2 hl1 HI ⊢
  have HLn := Lib.hid hLn
  obtain ⟨P, hP⟩ : ∃ P, [u8 n1, u8 n2] = P := ⟨_, rfl⟩
  have HP : Hid (P.length = 2) := by rw [← hP]; rfl
  rw [hP] at HI HHL
  clear g1 g2 g3 g4 hL hm HC HG HHD c0 c1 hLn hP
  go_wp2
  go_loopw [4, 26] (fun u i wr => ∃ k : Nat, k ≤ m ∧ i = .int .i64 k ∧ OwnB wr B u (P ++ (L.take k).map u8) ∧ OwnN wr B (.slice (some ⟨g, 0, none⟩) m cap) L ∧ Below w.heap.size w wr ∧ B ≤ wr.heap.size) (fun _ i _ => m - (intOf i).toNat)
  case atStart => exact ⟨0, Nat.zero_le _, rfl, by rw [List.take_zero, List.map_nil, List.append_nil]; exact HI.out⟩
  case round =>
    obtain ⟨k, hk, rfl, ho, hs, hb, hz⟩ := hrel
    have HW := Lib.hid (And.intro ho (And.intro hs (And.intro hb hz)))
    clear ho hs hb hz
    by_cases hlt : k < m
    · have hltI : (k : Int) < m := by omega
      obtain ⟨x, hx⟩ : ∃ x, L[k]? = some x := ⟨_, List.getElem?_eq_getElem (by rw [HLn.out]; exact hlt)⟩
      have HX := Lib.hid (map_next hx P)
      obtain ⟨hcell, -⟩ := HW.out.2.1.at hx
      have hx255 : x < 255 := HG2.out x (List.mem_of_getElem? hx)
      have k1 : IntKind.u8.wrap (x : Int) = x := by simp [IntKind.wrap, IntKind.bits, IntKind.signed]; omega
      have HA : Hid (OwnB (wr.alloc (.cells #[.int .u8 (x : Int)] 5)) B u4 (P ++ (L.take k).map u8) ∧ RdB (wr.alloc (.cells #[.int .u8 (x : Int)] 5)) (.slice (some ⟨wr.heap.size, 0, none⟩) 1 1) [u8 x] ∧ B ≤ (wr.alloc (.cells #[.int .u8 (x : Int)] 5)).heap.size ∧ OwnN (wr.alloc (.cells #[.int .u8 (x : Int)] 5)) B (.slice (some ⟨g, 0, none⟩) m cap) L ∧ Below w.heap.size w (wr.alloc (.cells #[.int .u8 (x : Int)] 5))) := by
        have hal : Below wr.heap.size wr (wr.alloc (.cells #[.int .u8 (x : Int)] 5)) := (Below.refl _ _).alloc (Nat.le_refl _) _
        exact ⟨HW.out.1.later hal, oneB_new wr (by omega), Nat.le_trans HW.out.2.2.2 hal.size, HW.out.2.1.later hal, HW.out.2.2.1.alloc (Nat.le_trans HBW.out HW.out.2.2.2) _⟩
      have HLE : Hid ((P ++ (L.take k).map u8).length + [u8 x].length ≤ 1000000) := by
        show _ ≤ _
        rw [List.length_append, List.length_map, List.length_take, HP.out, List.length_singleton]; omega
      unfold nV at hcell
      clear hx
      go_wp2_with (first
        | (at_builtin; refine wpList_appendB rfl _ _ rfl rfl rfl HA.out.1 HA.out.2.1 HA.out.2.2.1 HLE.out ?_; intro v' w' h1 h2)
        | go_in)
      have hgr : (wr.alloc (.cells #[.int .u8 (x : Int)] 5)).grownBy w' u4.ownBlock := h2
      have HN : Hid (OwnB w' B v' (P ++ (L.take (k + 1)).map u8) ∧ OwnN w' B (.slice (some ⟨g, 0, none⟩) m cap) L ∧ Below w.heap.size w w' ∧ B ≤ w'.heap.size) := by
        refine ⟨by rw [HX.out]; exact h1, HA.out.2.2.2.1.grewB HA.out.1 hgr, HA.out.2.2.2.2.grown hgr (Nat.le_trans HBW.out HA.out.2.2.1) (fun i hi => ?_), Nat.le_trans HA.out.2.2.1 hgr.size⟩
        exact Nat.le_trans HBW.out (World.ownsRow.lt HA.out.1 i hi).1
      clear h1 h2 hgr HA HX hcell
      go_roundw
      case rel => exact ⟨k + 1, hlt, by go_num, HN.out⟩
      case measure => simp [intOf]; omega
    · obtain rfl : k = m := by omega
      rw [List.take_of_length_le (by rw [HLn.out]; exact Nat.le_refl _), ← HHL.out] at HW
      obtain ⟨au, cu, hu, -⟩ := HW.out.1.rd.len
      have hlB : (headB st lf).length ≤ 900000 := by
        rw [HHL.out, List.length_append, List.length_map, HP.out, HLn.out]; omega
      have HS := Lib.hid (sealed_any (headB st lf) _ wr HW.out.1.rd hlB)
      have HD := Lib.hid HW.out.2.2.1
      clear HW hlB
      obtain ⟨q, hq⟩ : ∃ q, (headB st lf).length = q := ⟨_, rfl⟩
      rw [hq] at hu
      subst hu
      go_wp2_with fail
      (with_reducible refine HS.out.mono ?_)
      rintro e w5 ⟨v5, rfl, o5, b5⟩
      have FIN := Lib.hid (And.intro o5.rd (HD.out.trans (b5.mono HD.out.size)))
      clear o5 b5
      go_wp2
      go_ret2
      exact ⟨_, rfl, FIN.out⟩
end Go.Proofs.Yteifldppipnodaa.Bad
