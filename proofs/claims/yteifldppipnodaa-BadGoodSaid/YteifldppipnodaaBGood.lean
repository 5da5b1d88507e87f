/- BadGood, walked: true. -/
import Derived.Test.YteifldppipnodaaBGoodP
namespace Go.Proofs.Yteifldppipnodaa.badGood
open Go.RowKit Go.Sort Go.Proofs.Yteifldppipnodaa.Bad
attribute [local go_sem ↓] slice_ints slice_bytes loadVar_rs storeVar_rs

/-- What the variable of the reserve holds. -/
def Kept (w0 : World) (base g n m k j : Nat) (wr : World) : Prop :=
  ∃ a p b q n1 n2, Box wr g #[.slice a n1 p, .slice b n2 q] ∧ OwnL wr base (.agg #[.slice a n1 p, .slice b n2 q]) (stG n k j) (lfG n m j) ∧ Below w0.heap.size w0 wr

set_option maxHeartbeats 4000000 in
set_option maxRecDepth 100000 in
theorem walk (x y z : Nat) (w : World) (hx : x < 256) (hy : y < 256) (hz : z < 256) :
    Calls Try.prog 3 #[.int .u8 (x : Int), .int .u8 (y : Int), .int .u8 (z : Int)] w fun e w' => e = .returned (.bool true) ∧ Below w.heap.size w w' := by
  have HA := Lib.hid (awake_any w)
  go_enter Try.func3, Try.ntmps3
  go_wp2_with fail
  (with_reducible refine HA.out.mono ?_)
  rintro e w1 ⟨rfl, b1⟩
  have HB1 := Lib.hid b1
  clear b1
  go_upto_region 4 with fail
  obtain ⟨n, hn⟩ : ∃ n, x % 100 + 1 = n := ⟨_, rfl⟩
  obtain ⟨m, hm⟩ : ∃ m, y % 100 = m := ⟨_, rfl⟩
  rw [show ((x : Int) % 100 + 1) = (n : Int) by omega, show ((y : Int) % 100) = (m : Int) by omega]
  have hn1 : 1 ≤ n := by omega
  have hn100 : n ≤ 100 := by omega
  have hm99 : m ≤ 99 := by omega
  have HN : Hid (Calls Try.prog 5 #[.int .i64 (n : Int), .int .i64 (m : Int), .slice none 0 0] w1 fun e w' => ∃ r, e = .returned (.tuple #[r, .int .i64 0]) ∧ OwnL w' w1.heap.size r (stG n 0 0) (lfG n m 0) ∧ Below w1.heap.size w1 w') := by
    have := new_any n m [] (.slice none 0 0) w1 ⟨none, 0, rfl, Nat.le_refl _, Nat.zero_le _, fun _ => rfl, fun ad ha => by cases ha⟩ hn1 (by omega) (fun x h => by cases h) (Nat.zero_le _) (by rw [free_all, List.length_range]; omega)
    rw [take_all, drop_all] at this
    exact this
  clear hn hm HA
  go_wp2_with fail
  (with_reducible refine HN.out.mono ?_)
  rintro e w2 ⟨r, rfl, hr, b2⟩
  obtain ⟨a1, p1, a2, p2, hre⟩ := hr.form
  subst hre
  have HR := Lib.hid (And.intro hr b2)
  obtain ⟨n1, hn1⟩ : ∃ k, (stG n 0 0).length = k := ⟨_, rfl⟩
  obtain ⟨n2, hn2⟩ : ∃ k, (lfG n m 0).length = k := ⟨_, rfl⟩
  rw [hn1, hn2] at HR ⊢
  clear hr b2 hn1 hn2 HN
  have q1 := @kept_new w2 a1 a2 n1 p1 n2 p2
  go_upto_region 7 with fail
  clear q1
  go_upto_region 8 with fail
  obtain ⟨k, hk⟩ : ∃ k, z % n = k := ⟨_, rfl⟩
  have hkn : k < n := by rw [← hk]; exact Nat.mod_lt _ hn1
  rw [show ((z : Int) % n) = (k : Int) by rw [← hk]; rfl]
  obtain ⟨W2, hW2⟩ : ∃ W, W = w2.alloc (.cells #[.slice a1 n1 p1, .slice a2 n2 p2] 25) := ⟨_, rfl⟩
  have hb2 : Below w2.heap.size w2 W2 := by rw [hW2]; exact (Below.refl _ _).alloc (Nat.le_refl _) _
  have hx2 : Box W2 w2.heap.size #[.slice a1 n1 p1, .slice a2 n2 p2] := by rw [hW2]; exact Box.new _ _
  rw [← hW2]
  have h12 := HB1.out.trans (HR.out.2.mono HB1.out.size)
  have HK : Hid (Kept w w1.heap.size w2.heap.size n m k 0 W2) := ⟨a1, p1, a2, p2, n1, n2, hx2, HR.out.1.later hb2, h12.trans (hb2.mono h12.size)⟩
  have HG1 : Hid (w.heap.size ≤ w2.heap.size ∧ w1.heap.size ≤ w2.heap.size) := ⟨h12.size, HR.out.2.size⟩
  have HGD := Lib.hid (fun j (hj : j ≤ m) => goodG hn1 (show n + m ≤ 255 by omega) hkn j hj)
  obtain ⟨g, hg⟩ : ∃ g, w2.heap.size = g := ⟨_, rfl⟩
  rw [hg] at HK HG1 ⊢
  obtain ⟨base, hbase⟩ : ∃ g, w1.heap.size = g := ⟨_, rfl⟩
  rw [hbase] at HK HG1
  have hnk : (k : Int) < n := by omega
  clear hk hW2 hb2 hx2 h12 HR hg hbase HB1
  go_wp2
  go_loopw [12] (fun i wr => ∃ j : Nat, j ≤ m ∧ i = .int .i64 j ∧ Hid (Kept w base g n m k j wr)) (fun i _ => m - (intOf i).toNat)
  case atStart => exact ⟨0, Nat.zero_le _, rfl, HK⟩
  case round =>
    obtain ⟨j, hj, rfl, HJ⟩ := hrel
    by_cases hlt : j < m
    · have hltI : (j : Int) < m := by omega
      obtain ⟨a, p, b, q, l1, l2, hbx, how, hbl⟩ := HJ.out
      have hld := hbx.load
      have hG := HGD.out j (by omega)
      have HO := Lib.hid (And.intro hbx (And.intro how hbl))
      have hP := how.rd
      rw [lfG_next hlt] at hP hG
      have HC : Hid (Calls Try.prog 6 #[.agg #[.slice a l1 p, .slice b l2 q], .int .i64 (k : Int)] wr fun e w' => ∃ r', e = .returned (.tuple #[r', .int .i64 0]) ∧ OwnL w' wr.heap.size r' (stG n k (j + 1)) (lfG n m (j + 1)) ∧ Below wr.heap.size wr w') :=
        replace_some _ (stG n k j) (lfG n m (j + 1)) (n + j) k wr hP hG (by rw [stG_length]; exact hkn)
      clear hbx how hbl hP hG HJ
      go_wp2_with fail
      (with_reducible refine HC.out.mono ?_)
      rintro e w3 ⟨s, rfl, hs, b3⟩
      obtain ⟨a3, p3, a4, p4, hse⟩ := hs.form
      subst hse
      have HS := Lib.hid (And.intro hs b3)
      obtain ⟨n3, hn3⟩ : ∃ k', (stG n k (j + 1)).length = k' := ⟨_, rfl⟩
      obtain ⟨n4, hn4⟩ : ∃ k', (lfG n m (j + 1)).length = k' := ⟨_, rfl⟩
      rw [hn3, hn4] at HS ⊢
      clear hs b3 hn3 hn4 hld HC
      have q2 := @kept_new w3 a3 a4 n3 p3 n4 p4
      go_upto_region 12 with fail
      clear q2
      obtain ⟨W3, hW3⟩ : ∃ W, W = w3.alloc (.cells #[.slice a3 n3 p3, .slice a4 n4 p4] 25) := ⟨_, rfl⟩
      have hb3 : Below w3.heap.size w3 W3 := by rw [hW3]; exact (Below.refl _ _).alloc (Nat.le_refl _) _
      have hx3 : Box W3 w3.heap.size #[.slice a3 n3 p3, .slice a4 n4 p4] := by rw [hW3]; exact Box.new _ _
      rw [← hW3]
      have hbr := HS.out.2.trans (hb3.mono HS.out.2.size)
      have HX3 : Hid (Box W3 w3.heap.size #[.slice a3 n3 p3, .slice a4 n4 p4] ∧ OwnL W3 wr.heap.size (.agg #[.slice a3 n3 p3, .slice a4 n4 p4]) (stG n k (j + 1)) (lfG n m (j + 1)) ∧ Below wr.heap.size wr W3) :=
        ⟨hx3, HS.out.1.later hb3, hbr⟩
      have hld3 := hx3.load
      have HC3 := Lib.hid (at_any _ (stG n k (j + 1)) (lfG n m (j + 1)) k (n + j) W3 HX3.out.2.1.rd (HGD.out (j + 1) hlt) (stG_at hkn j))
      rw [Int.natCast_add] at HC3
      clear hW3 hb3 hx3 hbr HS
      go_wp2_with fail
      (with_reducible refine HC3.out.mono ?_)
      rintro e w4 ⟨rfl, b4⟩
      have hbr4 := HX3.out.2.2.trans (b4.mono HX3.out.2.2.size)
      have hx4 := HX3.out.1.later b4
      have hld4 := hx4.load
      have hg4 := HO.out.1.later hbr4
      have hst4 := hg4.store rfl (u := .slice a3 n3 p3) (v := .slice a4 n4 p4) rfl rfl
      have HNX : Hid (Kept w base g n m k (j + 1) (w4.setRow g #[.slice a3 n3 p3, .slice a4 n4 p4])) := by
        have hw := HO.out.2.2.trans (hbr4.mono HO.out.2.2.size)
        refine ⟨a3, p3, a4, p4, n3, n4, hg4.row _, ?_, below_row hw hw.size HG1.out.1 _⟩
        have hgr : g < wr.heap.size := HO.out.1.lt
        exact ((HX3.out.2.1.later b4).row hg4 _).mono (by have := HG1.out.2; omega)
      clear b4 hbr4 hx4 hg4 hld3 HC3 HX3 HO
      go_wp2
      clear hld4 hst4
      go_roundw
      case rel => exact ⟨j + 1, hlt, by go_num, HNX⟩
      case measure => simp [intOf]; omega
    · obtain rfl : j = m := by omega
      obtain ⟨a, p, b, q, l1, l2, hbx, how, hbl⟩ := HJ.out
      have hld := hbx.load
      have hG := HGD.out j (Nat.le_refl _)
      have HO := Lib.hid (And.intro hbx (And.intro how hbl))
      have hP := how.rd
      rw [lfG_end] at hP hG
      have HC := Lib.hid (replace_none _ (stG n k j) k wr hP hG (by rw [stG_length]; exact hkn))
      clear hbx how hbl hP hG HJ
      go_wp2_with fail
      (with_reducible refine HC.out.mono ?_)
      rintro e w3 ⟨s, rfl, hs, b3⟩
      obtain ⟨a3, p3, a4, p4, hse, -, -⟩ := hs.form
      subst hse
      have HS := Lib.hid b3
      obtain ⟨n3, hn3⟩ : ∃ k', (stG n k j).length = k' := ⟨_, rfl⟩
      rw [hn3, List.length_nil]
      clear hs b3 hn3 hld HC
      have q2 := @kept_new w3 a3 a4 n3 p3 0 p4
      go_upto_region 17 with fail
      clear q2
      obtain ⟨W3, hW3⟩ : ∃ W, W = w3.alloc (.cells #[.slice a3 n3 p3, .slice a4 0 p4] 25) := ⟨_, rfl⟩
      have hb3 : Below w3.heap.size w3 W3 := by rw [hW3]; exact (Below.refl _ _).alloc (Nat.le_refl _) _
      rw [← hW3]
      have hbr := HS.out.trans (hb3.mono HS.out.size)
      have HE : Hid (Box W3 g #[.slice a l1 p, .slice b l2 q] ∧ RdR W3 (.agg #[.slice a l1 p, .slice b l2 q]) (stG n k j) (lfG n j j) ∧ Below w.heap.size w W3) :=
        ⟨HO.out.1.later hbr, HO.out.2.1.rd.later hbr, HO.out.2.2.trans (hbr.mono HO.out.2.2.size)⟩
      clear hW3 hb3 hbr HS HO
      go_wp2
      go_loopw [19] (fun i wx => ∃ i' : Nat, i' ≤ n ∧ i = .int .i64 i' ∧ Hid (Below W3.heap.size W3 wx)) (fun i _ => n - (intOf i).toNat)
      case atStart => exact ⟨0, Nat.zero_le _, rfl, Lib.hid (Below.refl _ _)⟩
      case round =>
        obtain ⟨i, hi, rfl, HB⟩ := hrel
        by_cases hlt2 : i < n
        · have hltI2 : (i : Int) < n := by omega
          have hld := (HE.out.1.later HB.out).load
          obtain ⟨x, hx⟩ : ∃ x, (stG n k j)[i]? = some x := ⟨_, List.getElem?_eq_getElem (by rw [stG_length]; exact hlt2)⟩
          have HC := Lib.hid (at_any _ (stG n k j) (lfG n j j) i x wr (HE.out.2.1.later HB.out) (HGD.out j (Nat.le_refl _)) hx)
          by_cases hik : i = k
          · subst hik
            clear hx
            go_wp2_with fail
            (with_reducible refine HC.out.mono ?_)
            rintro e w4 ⟨rfl, b4⟩
            have HN4 := Lib.hid (HB.out.trans (b4.mono HB.out.size))
            clear b4 hld HC HB
            go_wp2
            go_roundw
            case rel => exact ⟨i + 1, hlt2, by go_num, HN4⟩
            case measure => simp [intOf]; omega
          · have hxi : x = i := by
              have h := stG_other hlt2 hik j
              rw [hx] at h
              exact Option.some.inj h
            subst hxi
            clear hx
            go_wp2_with fail
            (with_reducible refine HC.out.mono ?_)
            rintro e w4 ⟨rfl, b4⟩
            have HN4 := Lib.hid (HB.out.trans (b4.mono HB.out.size))
            have d1 : decide ((x : Int) = k) = false := by simp; omega
            clear b4 hld HC HB
            go_wp2
            go_roundw
            case rel => exact ⟨x + 1, hlt2, by go_num, HN4⟩
            case measure => simp [intOf]; omega
        · obtain rfl : i = n := by omega
          have FIN := Lib.hid (HE.out.2.2.trans (HB.out.mono HE.out.2.2.size))
          clear HE HB
          go_wp2
          go_ret
          exact ⟨rfl, FIN.out⟩
end Go.Proofs.Yteifldppipnodaa.badGood
