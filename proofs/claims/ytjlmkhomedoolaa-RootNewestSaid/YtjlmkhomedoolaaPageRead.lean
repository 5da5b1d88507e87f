/- page.Read: what it hands back. -/
import Derived.Test.YtjlmkhomedoolaaPageOpened
namespace Go.Proofs.Ytjlmkhomedoolaa.Page
open Go.RowKit Go.Sort
attribute [local go_sem ↓] slice_bytes loadVar_page storeVar_page

def ReadPost (l : List UInt8) (w : World) (e : Ending) (w' : World) : Prop :=
  ∃ vb, e = .returned (.tuple #[pgV (readL l).1 vb, .int .i64 (readL l).2]) ∧ OwnB w' w.heap.size vb (readL l).1.body ∧ Below w.heap.size w w'
theorem read_end {l : List UInt8} {w : World} {er : Int} (h : readL l = (zeroP, er)) (e : Ending) (w' : World) (hb : Below w.heap.size w w') (he : e = .returned (.tuple #[.agg zp, .int .i64 er])) : ReadPost l w e w' := by
  unfold ReadPost
  rw [h]
  exact ⟨.slice none 0 0, he, OwnB.nil _ _, hb⟩
theorem open_four {l : List UInt8} (h : 4 ≤ l.length) (h0 : (openL l).2 ≠ 0) : (openL l).2 = 4 := by
  unfold openL at *
  rw [if_neg (by omega)] at *
  split
  · rename_i h1
    rw [if_pos h1] at h0
    exact absurd rfl h0
  · rfl

set_option maxHeartbeats 4000000 in
set_option maxRecDepth 100000 in
theorem read_any (l : List UInt8) (v : Value) (w : World) (hR : RdB w v l) : Calls Try.prog 17 #[v] w (ReadPost l w) := by
  have hb0 : Below w.heap.size w (w.alloc (.cells zp 45)) := (Below.refl _ _).alloc (Nat.le_refl _) _
  have hx := Box.new w zp
  obtain ⟨a, cap, hv, hlc, hlm⟩ := hR.len
  unfold maxLen at hlm
  obtain ⟨n, hn⟩ : ∃ n, l.length = n := ⟨_, rfl⟩
  rw [hn] at hv hlc
  have hn63 : (n : Int) ≤ 9223372036854775807 := by omega
  have HN := Lib.hid hn
  have C1 := sized_any (n : Int) (w.alloc (.cells zp 45))
  have HRB := Lib.hid (hR.later hb0)
  have stz := store_new w zeroP (v := .slice none 0 0) rfl
  rw [← zp_is] at stz
  have hld := (Box.new w zp).load rfl
  obtain ⟨W0, hW0⟩ : ∃ W, W = w.alloc (.cells zp 45) := ⟨_, rfl⟩
  have HW0 := Lib.hid hW0
  unfold zp at HW0
  rw [← hW0] at C1 stz hb0 hx HRB hld
  have HW : Hid (∀ W, Below W0.heap.size W0 W → Below w.heap.size w W ∧ Box W w.heap.size zp) := fun W hW => ⟨hb0.trans (hW.mono hb0.size), hx.later hW⟩
  have HB0 := Lib.hid hb0
  clear hR hn hlm hlc hb0 hx
  subst hv
  cases hs : sizedB (n : Int) with
  | false =>
    rw [hs] at C1
    have HC := Lib.hid C1
    have HE : Hid (readL l = (zeroP, 3)) := by show _ = _; unfold readL; rw [HN.out, hs]; rfl
    unfold zp at stz hld
    clear C1 hs
    go_enter Try.func17, Try.ntmps17
    go_upto_region 1 with fail
    rw [← HW0.out]
    clear hW0
    go_wp2_with fail
    with_reducible refine HC.out.mono ?_
    rintro e w1 ⟨rfl, rfl⟩
    go_wp2
    exact bodyPost_ret (v := .tuple #[.agg zp, .int .i64 3]) (results_row_tmp rfl _ _ _ _ rfl rfl hld) rfl (read_end HE.out _ _ HB0.out rfl)
  | true =>
    rw [hs] at C1
    have HC := Lib.hid C1
    have HBL := blank_any l _ W0 HRB.out
    have hsz := sized_iff.1 hs
    have HSZ := Lib.hid hsz
    have HS := Lib.hid hs
    clear C1 hs hsz stz hld
    cases ha : allB l 255 with
    | true =>
      rw [ha] at HBL
      have HC2 := Lib.hid HBL
      have HE : Hid (readL l = (zeroP, 0)) := by show _ = _; unfold readL; rw [HN.out, HS.out, ha]; rfl
      clear HBL ha
      go_enter Try.func17, Try.ntmps17
      go_upto_region 1 with fail
      rw [← HW0.out]
      clear hW0
      go_wp2_with fail
      with_reducible refine HC.out.mono ?_
      rintro e w1 ⟨rfl, rfl⟩
      go_wp2_with fail
      with_reducible refine HC2.out.mono ?_
      rintro e w1 ⟨rfl, hb1⟩
      obtain ⟨hB, hX⟩ := HW.out w1 hb1
      have st8 := hX.store rfl zeroP (v := .slice none 0 0) rfl
      have ld8 := (hX.row (pgC zeroP (.slice none 0 0))).load rfl
      have HB8 := Lib.hid (below_row hB hB.size (Nat.le_refl _) (pgC zeroP (.slice none 0 0)))
      obtain ⟨W8, hW8⟩ : ∃ W, w1.setRow w.heap.size (pgC zeroP (.slice none 0 0)) = W := ⟨_, rfl⟩
      rw [hW8] at st8 ld8 HB8
      rw [← zp_is] at st8 ld8
      unfold zp at st8 ld8
      clear hB hX hW8
      go_wp2
      exact bodyPost_ret (v := .tuple #[.agg zp, .int .i64 0]) (results_row_tmp rfl _ _ _ _ rfl rfl ld8) rfl (read_end HE.out _ _ HB8.out rfl)
    | false =>
      rw [ha] at HBL
      have HC2 := Lib.hid HBL
      have HA := Lib.hid ha
      clear HBL ha
      by_cases ho : (openL l).2 = 0
      · obtain ⟨-, -, hol⟩ := open_of ho
        have HE : Hid (readL l = if goodB (openL l).1 n = true then (openedP (openL l).1, 0) else (zeroP, 2)) := by
          show _ = _
          unfold readL
          rw [HN.out, HS.out, HA.out, if_neg (by decide), if_neg (by decide), if_pos ho]
        have HOP : Hid (∀ W, RdB W (.slice a n cap) l → Calls Try.prog 29 #[.slice a n cap] W fun e w' => ∃ v', e = .returned (.tuple #[v', .int .i64 0]) ∧ OwnB w' W.heap.size v' (openL l).1 ∧ Below W.heap.size W w') := fun W hW => by
          have := open_any l _ W hW (by rw [HN.out]; have := HSZ.out; omega)
          rwa [ho] at this
        rw [HN.out] at hol
        have HOD : Hid (∀ W u, RdB W u (openL l).1 → Calls Try.prog 30 #[u, .int .i64 (n : Int)] W (OpenedPost (openL l).1 n W)) := fun W u hu => opened_any (openL l).1 u n W hu (by have := HSZ.out; omega) (by have := HSZ.out; omega) hol
        obtain ⟨L, hL⟩ : ∃ L, (openL l).1 = L := ⟨_, rfl⟩
        rw [hL] at HE HOP HOD
        clear ho hol hL
        go_enter Try.func17, Try.ntmps17
        go_upto_region 1 with fail
        rw [← HW0.out]
        clear hW0
        go_wp2_with fail
        with_reducible refine HC.out.mono ?_
        rintro e w1 ⟨rfl, rfl⟩
        go_wp2_with fail
        with_reducible refine HC2.out.mono ?_
        rintro e w1 ⟨rfl, hb1⟩
        have B1 := Lib.hid hb1
        clear hb1
        go_wp2_with fail
        refine (HOP.out w1 (HRB.out.later B1.out)).mono ?_
        rintro e w2 ⟨v2, rfl, ho2, hb2⟩
        have B2 := Lib.hid (B1.out.trans (hb2.mono B1.out.size))
        have O2 := Lib.hid ho2.rd
        clear ho2 hb2
        have HOD2 := HOD.out w2 v2 O2.out
        unfold OpenedPost at HOD2
        cases hg : goodB L n with
        | false =>
          rw [hg, if_neg (by decide)] at HOD2
          have HOD3 : Hid (Calls Try.prog 30 #[v2, .int .i64 (n : Int)] w2 fun e w' => ∃ vb, e = .returned (.tuple #[.agg #[.int .i64 0, .int .i64 0, .int .u64 0, vb], .bool false]) ∧ OwnB w' w2.heap.size vb zeroP.body ∧ Below w2.heap.size w2 w') := HOD2
          have HEF : Hid (readL l = (zeroP, 2)) := by show _ = _; rw [HE.out, hg]; rfl
          clear HOD2 hg
          go_wp2_with fail
          with_reducible refine HOD3.out.mono ?_
          rintro e w3 ⟨vb, rfl, ho3, hb3⟩
          have B3 := Lib.hid (B2.out.trans (hb3.mono B2.out.size))
          have st6 : (pageStore ⟨w3.heap.size, 0, none⟩ (.agg #[.int .i64 0, .int .i64 0, .int .u64 0, vb])).run Try.prog (w3.alloc (.cells #[.int .i64 0, .int .i64 0, .int .u64 0, .slice none 0 0] 45)) = .ok () (w3.alloc (.cells (pgC zeroP vb) 45)) := store_new w3 zeroP (RdB.one ho3.rd)
          have hb4 : Below w3.heap.size w3 (w3.alloc (.cells (pgC zeroP vb) 45)) := (Below.refl _ _).alloc (Nat.le_refl _) _
          have B4 := Lib.hid (B3.out.trans (hb4.mono B3.out.size))
          obtain ⟨W4, hW4⟩ : ∃ W, w3.alloc (.cells (pgC zeroP vb) 45) = W := ⟨_, rfl⟩
          rw [hW4] at st6 B4
          clear hb4 hW4 ho3 hb3
          obtain ⟨hB, hX⟩ := HW.out W4 B4.out
          have st8 := hX.store rfl zeroP (v := .slice none 0 0) rfl
          have ld8 := (hX.row (pgC zeroP (.slice none 0 0))).load rfl
          have HB8 := Lib.hid (below_row hB hB.size (Nat.le_refl _) (pgC zeroP (.slice none 0 0)))
          obtain ⟨W8, hW8⟩ : ∃ W, W4.setRow w.heap.size (pgC zeroP (.slice none 0 0)) = W := ⟨_, rfl⟩
          rw [hW8] at st8 ld8 HB8
          rw [← zp_is] at st8 ld8
          unfold zp at st8 ld8
          clear hB hX hW8
          go_wp2
          exact bodyPost_ret (v := .tuple #[.agg zp, .int .i64 2]) (results_row_tmp rfl _ _ _ _ rfl rfl ld8) rfl (read_end HEF.out _ _ HB8.out rfl)
        | true =>
          rw [hg, if_pos rfl] at HOD2
          have HOD3 := Lib.hid HOD2
          have HET : Hid (readL l = (openedP L, 0)) := by show _ = _; rw [HE.out, hg]; rfl
          clear HOD2 hg
          obtain ⟨q, hq⟩ : ∃ q, openedP L = q := ⟨_, rfl⟩
          rw [hq] at HOD3 HET
          clear hq
          go_wp2_with fail
          with_reducible refine HOD3.out.mono ?_
          rintro e w3 ⟨vb, rfl, ho3, hb3⟩
          have B3 := Lib.hid (B2.out.trans (hb3.mono B2.out.size))
          have hone := RdB.one ho3.rd
          have st6 := store_new w3 q hone
          have hb4 : Below w3.heap.size w3 (w3.alloc (.cells (pgC q vb) 45)) := (Below.refl _ _).alloc (Nat.le_refl _) _
          obtain ⟨hB4, hX4⟩ := HW.out _ (B3.out.trans (hb4.mono B3.out.size))
          have ld6 := (Box.new w3 (pgC q vb)).load rfl
          have ho4 := ho3.later hb4
          obtain ⟨W4, hW4⟩ : ∃ W, w3.alloc (.cells (pgC q vb) 45) = W := ⟨_, rfl⟩
          rw [hW4] at st6 ld6 hB4 hX4 ho4
          have st8 := hX4.store rfl q hone
          have ld8 := (hX4.row (pgC q vb)).load rfl
          have hlt : w.heap.size < w2.heap.size := Nat.lt_of_lt_of_le (HW.out _ (Below.refl _ _)).2.lt B2.out.size
          have HB8 := Lib.hid (below_row hB4 hB4.size (Nat.le_refl _) (pgC q vb))
          have HO8 := Lib.hid ((own_row ho4 (pgC q vb) hlt).mono (Nat.le_of_lt hlt))
          obtain ⟨W8, hW8⟩ : ∃ W, W4.setRow w.heap.size (pgC q vb) = W := ⟨_, rfl⟩
          rw [hW8] at st8 ld8 HB8 HO8
          unfold zp at st6
          unfold pgC at st6 st8 ld6 ld8
          unfold pgV pgC
          clear hb4 hW4 ho3 hb3 hB4 hX4 ho4 hW8 hlt hone
          go_wp2
          refine bodyPost_ret (v := .tuple #[pgV q vb, .int .i64 0]) (results_row_tmp rfl _ _ _ _ rfl rfl ld8) rfl ?_
          unfold ReadPost
          rw [HET.out]
          exact ⟨vb, rfl, HO8.out, HB8.out⟩
      · have h4 := open_four (l := l) (by rw [HN.out]; have := HSZ.out; omega) ho
        have HE : Hid (readL l = (zeroP, 4)) := by
          show _ = _
          unfold readL
          rw [HN.out, HS.out, HA.out, if_neg (by decide), if_neg (by decide), if_neg ho]
        have HOP : Hid (∀ W, RdB W (.slice a n cap) l → Calls Try.prog 29 #[.slice a n cap] W fun e w' => ∃ v', e = .returned (.tuple #[v', .int .i64 4]) ∧ OwnB w' W.heap.size v' (openL l).1 ∧ Below W.heap.size W w') := fun W hW => by
          have := open_any l _ W hW (by rw [HN.out]; have := HSZ.out; omega)
          rwa [h4] at this
        clear ho h4
        go_enter Try.func17, Try.ntmps17
        go_upto_region 1 with fail
        rw [← HW0.out]
        clear hW0
        go_wp2_with fail
        with_reducible refine HC.out.mono ?_
        rintro e w1 ⟨rfl, rfl⟩
        go_wp2_with fail
        with_reducible refine HC2.out.mono ?_
        rintro e w1 ⟨rfl, hb1⟩
        have B1 := Lib.hid hb1
        clear hb1
        go_wp2_with fail
        refine (HOP.out w1 (HRB.out.later B1.out)).mono ?_
        rintro e w2 ⟨v2, rfl, ho2, hb2⟩
        have B2 := Lib.hid (B1.out.trans (hb2.mono B1.out.size))
        clear ho2 hb2
        obtain ⟨hB, hX⟩ := HW.out w2 B2.out
        have st8 := hX.store rfl zeroP (v := .slice none 0 0) rfl
        have ld8 := (hX.row (pgC zeroP (.slice none 0 0))).load rfl
        have HB8 := Lib.hid (below_row hB hB.size (Nat.le_refl _) (pgC zeroP (.slice none 0 0)))
        obtain ⟨W8, hW8⟩ : ∃ W, w2.setRow w.heap.size (pgC zeroP (.slice none 0 0)) = W := ⟨_, rfl⟩
        rw [hW8] at st8 ld8 HB8
        rw [← zp_is] at st8 ld8
        unfold zp at st8 ld8
        clear hB hX hW8
        go_wp2
        exact bodyPost_ret (v := .tuple #[.agg zp, .int .i64 4]) (results_row_tmp rfl _ _ _ _ rfl rfl ld8) rfl (read_end HE.out _ _ HB8.out rfl)
end Go.Proofs.Ytjlmkhomedoolaa.Page
