/- bad.opened of a right reserve's bytes. -/
import Derived.Test.YteifldppipnodaaBadPut
namespace Go.Proofs.Yteifldppipnodaa.Bad
open Go.RowKit Go.Sort
attribute [local go_sem ↓] slice_ints slice_bytes loadVar_rs storeVar_rs

theorem u8_int {n : Nat} (h : n < 256) : IntKind.i64.wrap (((u8 n).toNat : Nat) : Int) = (n : Int) := by
  unfold u8
  rw [UInt8.toNat_ofNat', Nat.mod_eq_of_lt h, IntKind.wrap_i64]
  omega

set_option maxHeartbeats 4000000 in
set_option maxRecDepth 100000 in
theorem opened_any (v : Value) (st lf : List Nat) (w : World) (hR : RdB w v (headB st lf)) (hG : Good st lf) :
    Calls Try.prog 20 #[v] w fun e w' => ∃ r, e = .returned (.tuple #[r, .bool true]) ∧ OwnL w' w.heap.size r st lf ∧ Below w.heap.size w w' := by
  have HG := Lib.hid hG
  have hl2 := hG.few
  have hl1 := hG.some
  have hsm := hG.small
  obtain ⟨L, hL⟩ : ∃ L, st ++ lf = L := ⟨_, rfl⟩
  have HLL := Lib.hid hL
  have hlen : (headB st lf).length = L.length + 2 := by unfold headB; rw [List.length_append, List.length_map, hL]; simp; omega
  have hlen2 : st.length + lf.length = L.length := by rw [← hL, List.length_append]
  rw [hL] at hl1 hl2 hsm
  obtain ⟨b0, o0, cap, hv, hc⟩ := hR.form (by omega)
  obtain ⟨v2, s2, r2⟩ := _root_.Go.Proofs.Yteifldppipnodaa.slice_tail hR (k := 2) (by omega)
  have hdrop : (headB st lf).drop 2 = L.map u8 := by unfold headB; rw [hL]; rfl
  rw [hdrop] at r2
  have c0 := hc 0 (u8 st.length) rfl
  have c1 := hc 1 (u8 lf.length) rfl
  rw [u8_val (by omega)] at c0 c1
  rw [Nat.add_zero] at c0
  obtain ⟨n1, hn1⟩ : ∃ n, st.length = n := ⟨_, rfl⟩
  obtain ⟨n2, hn2⟩ : ∃ n, lf.length = n := ⟨_, rfl⟩
  obtain ⟨m, hm⟩ : ∃ m, L.length = m := ⟨_, rfl⟩
  have HN := Lib.hid (And.intro hn1 (And.intro hn2 hm))
  rw [hn1] at c0 hlen2
  rw [hn2] at c1 hlen2
  rw [hm] at hlen hlen2 hl1 hl2
  rw [hlen] at hv
  have HSM := Lib.hid hsm
  have HR2 := Lib.hid r2
  have f2 := fun W => s2 2 W rfl
  subst hv
  obtain ⟨t, ht⟩ : ∃ t, m + 2 = t := ⟨_, rfl⟩
  rw [ht] at f2 ⊢
  obtain ⟨W, hW⟩ : ∃ W, W = w.alloc (.cells #[.slice none 0 0, .slice none 0 0] 25) := ⟨_, rfl⟩
  have hbx : Box W w.heap.size zr ∧ Below w.heap.size w W ∧ W.heap.size = w.heap.size + 1 := by
    rw [hW]
    exact ⟨Box.new w zr, (Below.refl _ _).alloc (Nat.le_refl _) _, by simp⟩
  have HX := Lib.hid hbx
  replace c0 := keep_cell c0 hbx.2.1
  replace c1 := keep_cell c1 hbx.2.1
  have d1 : decide ((t : Int) < 2) = false := by simp; omega
  have k1 : IntKind.i64.wrap (n1 : Int) = n1 := by rw [IntKind.wrap_i64]; omega
  have k2 : IntKind.i64.wrap (n2 : Int) = n2 := by rw [IntKind.wrap_i64]; omega
  have hn1l : n1 ≤ 255 := by omega
  have hn2l : n2 ≤ 255 := by omega
  have htI : (0 : Int) < t := by omega
  have htI1 : (1 : Int) < t := by omega
  have htN : 1 < t := by omega
  have htN0 : 0 < t := by omega
  have htL : (t : Int) ≤ 257 := by omega
  have d2 : decide ((t : Int) - 2 = n1 + n2) = true := by simp; omega
  clear hR r2 s2 hc hG hsm hL hdrop hn1 hn2 hm hbx
  go_enter Try.func20, Try.ntmps20
  go_upto_region 1 with fail
  rw [← hW]
  clear hW
  go_upto_region 3 with fail
  go_quiet (fail)
  rename_i nq
  obtain ⟨a2, q2, e2, -⟩ := HR2.out.len
  rw [List.length_map, HN.out.2.2] at e2
  subst e2
  have hq : Below W.heap.size W (W.drewN nq) := ⟨rfl, rfl, rfl, Nat.le_refl _, fun _ _ => rfl⟩
  have HQ := Lib.hid hq
  clear hq c0 c1 k1 k2
  go_wp2
  rw [show ((t : Int) - 2 != (n1 : Int) + n2) = false by simp; omega]
  go_loopw [6, 33] (fun u i wr => ∃ k : Nat, k ≤ m ∧ i = .int .i64 k ∧ OwnN wr W.heap.size u (L.take k) ∧ Below W.heap.size W wr) (fun _ i _ => m - (intOf i).toNat)
  case atStart => exact ⟨0, Nat.zero_le _, rfl, OwnN.nil _ _, HQ.out⟩
  case round =>
    obtain ⟨k, hk, rfl, ho, hb⟩ := hrel
    have HW := Lib.hid (And.intro ho hb)
    clear ho hb
    by_cases hlt : k < m
    · have hltI : (k : Int) < m := by omega
      obtain ⟨b3, o3, q3, e3, hc3⟩ := HR2.out.form (by rw [List.length_map, HN.out.2.2]; omega)
      rw [List.length_map, HN.out.2.2] at e3
      cases e3
      obtain ⟨x, hx⟩ : ∃ x, L[k]? = some x := ⟨_, List.getElem?_eq_getElem (by rw [HN.out.2.2]; exact hlt)⟩
      have hx255 : x < 255 := HSM.out x (List.mem_of_getElem? hx)
      have hwd : Below w.heap.size w wr := HX.out.2.1.trans (HW.out.2.mono HX.out.2.1.size)
      have hcell := keep_cell (hc3 k (Bad.u8 x) (by rw [List.getElem?_map, hx]; rfl)) hwd
      rw [u8_val (by omega)] at hcell
      have HT := Lib.hid (take_next hx)
      have k1 : IntKind.i64.wrap (x : Int) = x := by rw [IntKind.wrap_i64]; omega
      have HA : Hid (OwnN (wr.alloc (.cells #[.int .i64 (x : Int)] 3)) W.heap.size u6 (L.take k) ∧ RdN (wr.alloc (.cells #[.int .i64 (x : Int)] 3)) (.slice (some ⟨wr.heap.size, 0, none⟩) 1 1) [x] ∧ W.heap.size ≤ (wr.alloc (.cells #[.int .i64 (x : Int)] 3)).heap.size ∧ Below W.heap.size W (wr.alloc (.cells #[.int .i64 (x : Int)] 3))) := by
        have hal : Below wr.heap.size wr (wr.alloc (.cells #[.int .i64 (x : Int)] 3)) := (Below.refl _ _).alloc (Nat.le_refl _) _
        exact ⟨HW.out.1.later hal, one_new wr x, Nat.le_trans HW.out.2.size hal.size, HW.out.2.alloc HW.out.2.size _⟩
      have HLE : Hid ((L.take k).length + [x].length ≤ 1000000) := by
        show _ ≤ _
        rw [List.length_take, HN.out.2.2, List.length_singleton]; omega
      clear hx hc3 hwd
      go_wp2_with (first
        | (at_builtin; refine wpList_appendN rfl _ _ rfl rfl rfl HA.out.1 HA.out.2.1 HA.out.2.2.1 HLE.out ?_; intro v' w' h1 h2)
        | go_in)
      have hgr : (wr.alloc (.cells #[.int .i64 (x : Int)] 3)).grownBy w' u6.ownBlock := h2
      have HNX : Hid (OwnN w' W.heap.size v' (L.take (k + 1)) ∧ Below W.heap.size W w') :=
        ⟨by rw [HT.out]; exact h1, HA.out.2.2.2.grown hgr HA.out.2.2.1 (fun i hi => (World.ownsRow.lt HA.out.1 i hi).1)⟩
      clear h1 h2 hgr HA HT hcell
      go_roundw
      case rel => exact ⟨k + 1, hlt, by go_num, HNX.out⟩
      case measure => simp [intOf]; omega
    · obtain rfl : k = m := by omega
      rw [List.take_of_length_le (by rw [HN.out.2.2]; exact Nat.le_refl _)] at HW
      obtain ⟨au, cu, hu, -⟩ := HW.out.1.rd.len
      rw [HN.out.2.2] at hu
      subst hu
      have hp := parted_any _ L n1 wr HW.out.1.rd (by rw [HN.out.2.2]; omega) (by rw [HN.out.2.2]; omega)
      have ht1 : L.take n1 = st := by rw [← HLL.out, ← HN.out.1, List.take_left]
      have ht2 : L.drop n1 = lf := by rw [← HLL.out, ← HN.out.1, List.drop_left]
      rw [ht1, ht2] at hp
      have HP := Lib.hid hp
      clear hp ht1 ht2
      go_wp2_with fail
      (with_reducible refine HP.out.mono ?_)
      rintro e w5 ⟨v1, v3, rfl, o5, b5⟩
      obtain ⟨x1, q1, e1, -⟩ := o5.1.rd.len
      obtain ⟨x2, q5, e2, -⟩ := o5.2.1.rd.len
      rw [HN.out.1] at e1
      rw [HN.out.2.1] at e2
      subst e1 e2
      have hst := store_new w5 (u := .slice x1 n1 q1) (v := .slice x2 n2 q5) rfl rfl
      unfold zr at hst
      have HO := Lib.hid (And.intro o5 b5)
      clear o5 b5
      go_upto_region 13 with fail
      obtain ⟨W6, hW6⟩ : ∃ W6, W6 = w5.alloc (.cells #[.slice x1 n1 q1, .slice x2 n2 q5] 25) := ⟨_, rfl⟩
      have hb6 : Below w5.heap.size w5 W6 := by rw [hW6]; exact (Below.refl _ _).alloc (Nat.le_refl _) _
      have hx6 : Box W6 w5.heap.size #[.slice x1 n1 q1, .slice x2 n2 q5] := by rw [hW6]; exact Box.new _ _
      rw [← hW6]
      have hbW5 : Below W.heap.size W w5 := HW.out.2.trans (HO.out.2.mono HW.out.2.size)
      have hbW6 : Below W.heap.size W W6 := hbW5.trans (hb6.mono hbW5.size)
      have hr6 : RdR W6 (.agg #[.slice x1 n1 q1, .slice x2 n2 q5]) st lf := ⟨_, _, rfl, HO.out.1.1.rd.later hb6, HO.out.1.2.1.rd.later hb6⟩
      have HC := Lib.hid (right_yes _ st lf W6.drew (hr6.later (Below.refl _ _).drew) HG.out)
      have hlt5 : w.heap.size < w5.heap.size := by have := hbW5.size; have := HX.out.2.2; omega
      have s1 : (rsLoad ⟨w5.heap.size, 0, none⟩).run Try.prog W6.drew = .ok (.agg #[.slice x1 n1 q1, .slice x2 n2 q5]) W6.drew := hx6.drew.load
      have HK : Hid (∀ w7, Below W6.heap.size W6 w7 → Box w7 w5.heap.size #[.slice x1 n1 q1, .slice x2 n2 q5] ∧ Box w7 w.heap.size zr ∧ Box (w7.setRow w.heap.size #[.slice x1 n1 q1, .slice x2 n2 q5]) w5.heap.size #[.slice x1 n1 q1, .slice x2 n2 q5]) := fun w7 hb => by
        have h1 := hx6.later hb
        refine ⟨h1, (HX.out.1.later hbW6).later hb, ?_⟩
        show (w7.setRow _ _).heap[_]? = _
        rw [setRow_other w7 _ _ _ (by omega)]
        exact h1
      have HWS : Hid (w.heap.size ≤ wr.heap.size) := Nat.le_trans HX.out.2.1.size HW.out.2.size
      have HI := Lib.hid (And.intro (HO.out.1.1.later hb6) (And.intro (HO.out.1.2.1.later hb6) hbW6))
      clear hW6 hb6 hx6 hbW5 hbW6 hr6 HO HW hst HP
      go_region_held3 (fun w' => (rsLoad ⟨w5.heap.size, 0, none⟩).run Try.prog w' = .ok (.agg #[.slice x1 n1 q1, .slice x2 n2 q5]) w')
        (first | exact s1 | exact s2 | exact s3)
        (first
          | ((with_reducible refine HC.out.mono ?_); rintro e w7 ⟨rfl, b7⟩; have b7' : Below W6.heap.size W6 w7 := (Below.refl W6.heap.size W6).drew.trans b7; have hk7 := HK.out w7 b7'; have s2 := hk7.1.load; have s4 := hk7.2.1.store rfl (u := .slice x1 n1 q1) (v := .slice x2 n2 q5) rfl rfl; have s3 := hk7.2.2.load))
      have hl2 := (hk7.2.1.row #[.slice x1 n1 q1, .slice x2 n2 q5]).load
      have hwd : Below w.heap.size w w7 := HX.out.2.1.trans ((HI.out.2.2.trans (b7'.mono HI.out.2.2.size)).mono HX.out.2.1.size)
      have FIN : Hid (OwnL (w7.setRow w.heap.size #[.slice x1 n1 q1, .slice x2 n2 q5]) w.heap.size (.agg #[.slice x1 n1 q1, .slice x2 n2 q5]) st lf ∧ Below w.heap.size w (w7.setRow w.heap.size #[.slice x1 n1 q1, .slice x2 n2 q5])) :=
        ⟨⟨_, _, rfl, (own_row (HI.out.1.later b7') hk7.2.1 _).mono HWS.out, (own_row (HI.out.2.1.later b7') hk7.2.1 _).mono HWS.out⟩, below_row hwd hwd.size (Nat.le_refl _) _⟩
      clear hwd hk7 HK HI b7 b7' s1 s2 s3 s4 HC
      go_wp2
      exact bodyPost_ret (v := .tuple #[.agg #[.slice x1 n1 q1, .slice x2 n2 q5], .bool true]) (results_row_tmp rfl _ _ _ _ rfl rfl hl2) rfl ⟨_, rfl, FIN.out⟩

set_option maxHeartbeats 2000000 in
set_option maxRecDepth 100000 in
theorem read_any (v : Value) (st lf : List Nat) (w : World) (hR : RdB w v (putB' st lf)) (hG : Good st lf) :
    Calls Try.prog 9 #[v] w fun e w' => ∃ r, e = .returned (.tuple #[r, .int .i64 0]) ∧ RdR w' r st lf ∧ Below w.heap.size w w' := by
  have HG := Lib.hid hG
  have hlh : (headB st lf).length ≤ 257 := by
    have := hG.few
    unfold headB; rw [List.length_append, List.length_map]; simp only [List.length_cons, List.length_nil]; omega
  have hln : (putB' st lf).length ≤ 900000 := by
    unfold putB'; rw [List.length_append, sealB_length]; omega
  obtain ⟨W, hW⟩ : ∃ W, W = w.alloc (.cells #[.slice none 0 0, .slice none 0 0] 25) := ⟨_, rfl⟩
  have hbx : Box W w.heap.size zr ∧ Below w.heap.size w W := by
    rw [hW]
    exact ⟨Box.new w zr, (Below.refl _ _).alloc (Nat.le_refl _) _⟩
  have HX := Lib.hid hbx
  have ho := open_any _ _ W (hR.later hbx.2) hln
  have hos : openL (putB' st lf) = (headB st lf, 0) := open_sealed _
  rw [hos] at ho
  have HO := Lib.hid ho
  obtain ⟨a, p, e, -⟩ := hR.len
  obtain ⟨n, hn⟩ : ∃ n, (putB' st lf).length = n := ⟨_, rfl⟩
  rw [hn] at e
  subst e
  clear hR hG hbx ho hos hln hn
  go_enter Try.func9, Try.ntmps9
  go_upto_region 1 with fail
  rw [← hW]
  clear hW
  go_wp2_with fail
  (with_reducible refine HO.out.mono ?_)
  rintro e w1 ⟨v1, rfl, o1, b1⟩
  obtain ⟨a1, p1, e1, -⟩ := o1.rd.len
  have HP := Lib.hid (opened_any _ st lf w1 o1.rd HG.out)
  obtain ⟨n1, hn1⟩ : ∃ n, (headB st lf).length = n := ⟨_, rfl⟩
  rw [hn1] at e1
  subst e1
  have HD := Lib.hid (And.intro (HX.out.2.trans (b1.mono HX.out.2.size)) (HX.out.1.later b1))
  clear o1 b1 hlh hn1 HO HX
  go_wp2_with fail
  (with_reducible refine HP.out.mono ?_)
  rintro e w2 ⟨r, rfl, hr, b2⟩
  obtain ⟨u2, v2, rfl, hu2, hv2⟩ := hr
  obtain ⟨x1, q1, e1, -⟩ := hu2.rd.len
  obtain ⟨x2, q2, e2, -⟩ := hv2.rd.len
  obtain ⟨k1, hk1⟩ : ∃ n, st.length = n := ⟨_, rfl⟩
  obtain ⟨k2, hk2⟩ : ∃ n, lf.length = n := ⟨_, rfl⟩
  rw [hk1] at e1
  rw [hk2] at e2
  subst e1 e2
  have hst := store_new w2 (u := .slice x1 k1 q1) (v := .slice x2 k2 q2) rfl rfl
  unfold zr at hst
  have HU := Lib.hid (And.intro hu2 (And.intro hv2 b2))
  clear hu2 hv2 b2 hk1 hk2
  go_upto_region 7 with fail
  obtain ⟨W6, hW6⟩ : ∃ W6, W6 = w2.alloc (.cells #[.slice x1 k1 q1, .slice x2 k2 q2] 25) := ⟨_, rfl⟩
  have hb6 : Below w2.heap.size w2 W6 := by rw [hW6]; exact (Below.refl _ _).alloc (Nat.le_refl _) _
  have hx6 : Box W6 w2.heap.size #[.slice x1 k1 q1, .slice x2 k2 q2] := by rw [hW6]; exact Box.new _ _
  rw [← hW6]
  have hx0 : Box W6 w.heap.size zr := (HD.out.2.later HU.out.2.2).later hb6
  have hld := hx6.load
  have hst2 := hx0.store rfl (u := .slice x1 k1 q1) (v := .slice x2 k2 q2) rfl rfl
  have hl2 := (hx0.row #[.slice x1 k1 q1, .slice x2 k2 q2]).load
  have h2 : Below w.heap.size w w2 := HD.out.1.trans (HU.out.2.2.mono HD.out.1.size)
  have hwd : Below w.heap.size w W6 := h2.trans (hb6.mono h2.size)
  have FIN : Hid (RdR (W6.setRow w.heap.size #[.slice x1 k1 q1, .slice x2 k2 q2]) (.agg #[.slice x1 k1 q1, .slice x2 k2 q2]) st lf ∧ Below w.heap.size w (W6.setRow w.heap.size #[.slice x1 k1 q1, .slice x2 k2 q2])) :=
    ⟨⟨_, _, rfl, (own_row (HU.out.1.later hb6) hx0 _).rd, (own_row (HU.out.2.1.later hb6) hx0 _).rd⟩, below_row hwd hwd.size (Nat.le_refl _) _⟩
  clear hW6 hb6 hx6 hx0 h2 hwd HU HD HP hst
  go_wp2
  exact bodyPost_ret (v := .tuple #[.agg #[.slice x1 k1 q1, .slice x2 k2 q2], .int .i64 0]) (results_row_tmp rfl _ _ _ _ rfl rfl hl2) rfl ⟨_, rfl, FIN.out⟩
end Go.Proofs.Yteifldppipnodaa.Bad
