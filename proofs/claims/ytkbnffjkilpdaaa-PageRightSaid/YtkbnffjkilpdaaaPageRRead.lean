/- The document's Read of layer 7: what it hands back. -/
import Derived.Test.YtkbnffjkilpdaaaPageRead
import Derived.Test.YtkbnffjkilpdaaaPageRPut
import Derived.Test.YtkbnffjkilpdaaaPageRP
import Derived.Deep.CutRange
namespace Go.Proofs.Ytkbnffjkilpdaaa.Page
open Go.RowKit Go.Sort
attribute [local go_sem ↓] slice_bytes loadVar_page storeVar_page

def RReadPost (l : List UInt8) (w : World) (e : Ending) (w' : World) : Prop :=
  ∃ vb, e = .returned (.tuple #[pgV (readL l).1 vb, .int .i64 (readL l).2]) ∧ RdB w' vb (readL l).1.body ∧ Below w.heap.size w w'
theorem rread_end {l : List UInt8} {w : World} {er : Int} (h : readL l = (zeroP, er)) (e : Ending) (w' : World) (hb : Below w.heap.size w w') (he : e = .returned (.tuple #[.agg zp, .int .i64 er])) : RReadPost l w e w' := by
  unfold RReadPost
  rw [h]
  exact ⟨.slice none 0 0, he, (OwnB.nil _ 0).rd, hb⟩

set_option maxHeartbeats 2000000 in
set_option maxRecDepth 100000 in
theorem rread_any (l : List UInt8) (v : Value) (w : World) (hR : RdB w v l) : Calls Try.prog 10 #[v] w (RReadPost l w) := by
  have hb0 : Below w.heap.size w ((w.alloc (.cells zp 25)).alloc (.cells zp 25)) := ((Below.refl _ _).alloc (Nat.le_refl _) _).alloc (by simp) _
  have hx2 : Box ((w.alloc (.cells zp 25)).alloc (.cells zp 25)) w.heap.size zp := by unfold Box; rw [Go.heap_alloc_old _ _ (by simp)]; exact Go.heap_alloc_new w _
  have hx4 : Box ((w.alloc (.cells zp 25)).alloc (.cells zp 25)) (w.heap.size + 1) zp := by
    have := Go.heap_alloc_new (w.alloc (.cells zp 25)) (.cells zp 25); unfold Box; simpa using this
  have HW : Hid (∀ W, Below ((w.alloc (.cells zp 25)).alloc (.cells zp 25)).heap.size ((w.alloc (.cells zp 25)).alloc (.cells zp 25)) W →
      Box W w.heap.size zp ∧ Box W (w.heap.size + 1) zp ∧ RdB W v l ∧ Below w.heap.size w W) := fun W hW => ⟨hx2.later hW, hx4.later hW, (hR.later hb0).later hW, hb0.trans (hW.mono hb0.size)⟩
  have st1 := store_new (w.alloc (.cells zp 25)) zeroP (v := .slice none 0 0) rfl
  rw [← zp_is, show (w.alloc (.cells zp 25)).heap.size = w.heap.size + 1 by simp] at st1
  obtain ⟨W0, hW0⟩ : ∃ W, W = (w.alloc (.cells zp 25)).alloc (.cells zp 25) := ⟨_, rfl⟩
  have st1' : (pageStore ⟨w.heap.size + 1, 0, none⟩ (.agg #[.int .i64 0, .int .i64 0, .int .u64 0, .slice none 0 0])).run Try.prog ((w.alloc (.cells #[.int .i64 0, .int .i64 0, .int .u64 0, .slice none 0 0] 25)).alloc (.cells #[.int .i64 0, .int .i64 0, .int .u64 0, .slice none 0 0] 25)) = .ok () W0 := by rw [hW0]; exact st1
  rw [← hW0] at HW
  clear st1
  have HBL : Hid (∀ W, RdB W v l → Calls Try.prog 17 #[v] W fun e w' => e = .returned (.bool (allB l 255)) ∧ W = w') := fun W h => rblank_any l v W h
  obtain ⟨a, cap, hv, hlc, hlm⟩ := hR.len
  unfold maxLen at hlm
  obtain ⟨n, hn⟩ : ∃ n, l.length = n := ⟨_, rfl⟩
  rw [hn] at hv hlc
  have hn63 : (n : Int) ≤ 9223372036854775807 := by omega
  have HN := Lib.hid hn
  have HRR := Lib.hid hR
  clear hlc hlm hb0 hx2 hx4
  by_cases hs1 : n < 24
  · have hsI : (n : Int) < 24 := by omega
    have HE : Hid (readL l = (zeroP, 3)) := by
      show _ = _
      unfold readL
      rw [HN.out, show sizedB (n : Int) = false by simp [sizedB]; omega]; rfl
    subst hv
    clear hR hn hs1 hW0
    go_enter Try.func10, Try.ntmps10
    go_upto_region 2 with fail
    obtain ⟨hX, hX4, -, hB⟩ := HW.out W0 (Below.refl _ _)
    have st8 := hX.store rfl zeroP (v := .slice none 0 0) rfl
    have ld4 := hX4.load rfl
    have ld8 := (hX.row (pgC zeroP (.slice none 0 0))).load rfl
    have HB8 := Lib.hid (below_row hB hB.size (Nat.le_refl _) (pgC zeroP (.slice none 0 0)))
    obtain ⟨W8, hW8⟩ : ∃ W, W0.setRow w.heap.size (pgC zeroP (.slice none 0 0)) = W := ⟨_, rfl⟩
    rw [hW8] at st8 ld8 HB8
    rw [← zp_is] at st8 ld8
    unfold zp at st8 ld8 ld4
    clear hB hX hX4 hW8
    go_wp2
    exact bodyPost_ret (v := .tuple #[.agg zp, .int .i64 3]) (results_row_tmp rfl _ _ _ _ rfl rfl ld8) rfl (rread_end HE.out _ _ HB8.out rfl)
  · by_cases hs2 : 256 < n
    · have hsI : ¬ (n : Int) < 24 := by omega
      have hsJ : (256 : Int) < n := by omega
      have HE : Hid (readL l = (zeroP, 3)) := by
        show _ = _
        unfold readL
        rw [HN.out, show sizedB (n : Int) = false by simp [sizedB]; omega]; rfl
      subst hv
      clear hR hn hs1 hs2 hW0
      go_enter Try.func10, Try.ntmps10
      go_upto_region 2 with fail
      obtain ⟨hX, hX4, -, hB⟩ := HW.out W0 (Below.refl _ _)
      have st8 := hX.store rfl zeroP (v := .slice none 0 0) rfl
      have ld4 := hX4.load rfl
      have ld8 := (hX.row (pgC zeroP (.slice none 0 0))).load rfl
      have HB8 := Lib.hid (below_row hB hB.size (Nat.le_refl _) (pgC zeroP (.slice none 0 0)))
      obtain ⟨W8, hW8⟩ : ∃ W, W0.setRow w.heap.size (pgC zeroP (.slice none 0 0)) = W := ⟨_, rfl⟩
      rw [hW8] at st8 ld8 HB8
      rw [← zp_is] at st8 ld8
      unfold zp at st8 ld8 ld4
      clear hB hX hX4 hW8
      go_wp2
      exact bodyPost_ret (v := .tuple #[.agg zp, .int .i64 3]) (results_row_tmp rfl _ _ _ _ rfl rfl ld8) rfl (rread_end HE.out _ _ HB8.out rfl)
    · have hsI : ¬ (n : Int) < 24 := by omega
      have hsJ : ¬ (256 : Int) < n := by omega
      have HSZ : Hid (24 ≤ n ∧ n ≤ 256) := ⟨by omega, by omega⟩
      have hsz : sizedB (n : Int) = true := sized_iff.2 ⟨by omega, by omega⟩
      have HSB : Hid (sizedB (l.length : Int) = true) := by show _ = _; rw [hn]; exact hsz
      have hbl := HBL.out W0 (HW.out W0 (Below.refl _ _)).2.2.1
      cases ha : allB l 255 with
      | true =>
        rw [ha] at hbl
        have HE : Hid (readL l = (zeroP, 0)) := by
          show _ = _
          unfold readL
          rw [HN.out, hsz, ha]; rfl
        have HB := Lib.hid hbl
        subst hv
        clear hR hn hs1 hs2 hsz hbl ha hW0
        go_enter Try.func10, Try.ntmps10
        go_upto_region 2 with fail
        go_wp2_with fail
        with_reducible refine HB.out.mono ?_
        rintro e w1 ⟨rfl, rfl⟩
        obtain ⟨hX, hX4, -, hB⟩ := HW.out W0 (Below.refl _ _)
        have st8 := hX.store rfl zeroP (v := .slice none 0 0) rfl
        have ld4 := hX4.load rfl
        have ld8 := (hX.row (pgC zeroP (.slice none 0 0))).load rfl
        have HB8 := Lib.hid (below_row hB hB.size (Nat.le_refl _) (pgC zeroP (.slice none 0 0)))
        obtain ⟨W8, hW8⟩ : ∃ W, W0.setRow w.heap.size (pgC zeroP (.slice none 0 0)) = W := ⟨_, rfl⟩
        rw [hW8] at st8 ld8 HB8
        rw [← zp_is] at st8 ld8
        unfold zp at st8 ld8 ld4
        clear hB hX hX4 hW8
        go_wp2
        exact bodyPost_ret (v := .tuple #[.agg zp, .int .i64 0]) (results_row_tmp rfl _ _ _ _ rfl rfl ld8) rfl (rread_end HE.out _ _ HB8.out rfl)
      | false =>
        rw [ha] at hbl
        have HA := Lib.hid ha
        have HB := Lib.hid hbl
        have hop := ropen_any l v W0 (HW.out W0 (Below.refl _ _)).2.2.1 (by omega)
        clear ha hbl hsz
        by_cases ho : (openL l).2 = 0
        · have HE0 := Lib.hid (read_mid HSB.out HA.out ho)
          rw [ho] at hop
          have HOP := Lib.hid hop
          obtain ⟨bb, o, cap', hv', hcs⟩ := hR.form (by omega)
          rw [hn] at hv'
          rw [hv] at hv'
          cases hv'
          obtain ⟨x0, h0⟩ : ∃ x, l[0]? = some x := ⟨_, List.getElem?_eq_getElem (by omega)⟩
          obtain ⟨x1, h1⟩ : ∃ x, l[1]? = some x := ⟨_, List.getElem?_eq_getElem (by omega)⟩
          obtain ⟨y8, h8⟩ : ∃ x, l[8]? = some x := ⟨_, List.getElem?_eq_getElem (by omega)⟩
          obtain ⟨y9, h9⟩ : ∃ x, l[9]? = some x := ⟨_, List.getElem?_eq_getElem (by omega)⟩
          have hmm := mid_many (by omega) h8 h9
          obtain ⟨m, hm⟩ : ∃ m, 256 * y8.toNat + y9.toNat = m := ⟨_, rfl⟩
          rw [hm] at hmm
          have HMM := Lib.hid hmm
          have HH0 := Lib.hid h0
          have HH1 := Lib.hid h1
          have HBAD : Hid (¬ (x0.toNat = 1 ∨ x0.toNat = 2) ∨ 63 < x1.toNat ∨ n - 16 < m → readL l = (zeroP, 2)) := fun h => by
            rw [HE0.out, mid_bad (by omega) HH0.out HH1.out HMM.out (by rw [HN.out]; exact h)]; rfl
          have HGOOD : Hid ((x0.toNat = 1 ∨ x0.toNat = 2) → x1.toNat ≤ 63 → m ≤ n - 16 → readL l = if allB ((mid l).drop (10 + m)) 0 = true then (⟨(x0.toNat : Int), (x1.toNat : Int), getB ((l.drop 2).take 6), (l.drop 10).take m⟩, 0) else (zeroP, 2)) := fun g1 g2 g3 => by
            rw [HE0.out, mid_good (by omega) (by omega) HH0.out HH1.out HMM.out g1 g2 (by rw [HN.out]; exact g3), mid_opened (by omega) HH0.out HH1.out HMM.out (by rw [HN.out]; exact g3)]
          have HCS : Hid (∀ W, Below W0.heap.size W0 W → ∀ (i : Nat) x, l[i]? = some x → W.cell? ⟨bb, o + i, none⟩ = some (byV x)) := fun W hW i x hx => cell_keep (hcs i x hx) (HW.out W hW).2.2.2
          obtain ⟨vS, fS, rS⟩ := slice_part hR (lo := 2) (hi := 8) (by decide) (by omega)
          have HFS := Lib.hid (fun W => fS .i64 .i64 2 8 W rfl rfl)
          have HRS0 : Hid (RdB w vS ((l.drop 2).take 6)) := rS
          have hk8 : y8.toNat < 256 := y8.toNat_lt
          have hk9 : y9.toNat < 256 := y9.toNat_lt
          have hc8 := fun W hW => HCS.out W hW 8 y8 h8
          have hc9 := fun W hW => HCS.out W hW 9 y9 h9
          have hc0 := fun W hW => HCS.out W hW 0 x0 h0
          have hc1 := fun W hW => HCS.out W hW 1 x1 h1
          unfold byV at hc8 hc9 hc0 hc1
          obtain ⟨k0, e0⟩ : ∃ k, x0.toNat = k := ⟨_, rfl⟩
          obtain ⟨k1, e1⟩ : ∃ k, x1.toNat = k := ⟨_, rfl⟩
          have hk0 : k0 < 256 := by rw [← e0]; exact x0.toNat_lt
          have hk1 : k1 < 256 := by rw [← e1]; exact x1.toNat_lt
          obtain ⟨k8, e8⟩ : ∃ k, y8.toNat = k := ⟨_, rfl⟩
          obtain ⟨k9, e9⟩ : ∃ k, y9.toNat = k := ⟨_, rfl⟩
          rw [e8] at hc8 hm hk8
          rw [e9] at hc9 hm hk9
          rw [e0] at hc0 HBAD HGOOD
          rw [e1] at hc1 HBAD HGOOD
          simp only [Nat.add_zero] at hc0
          have hmI : 256 * (k8 : Int) + (k9 : Int) = (m : Int) := by omega
          have hmB : (m : Int) ≤ 65535 := by omega
          have H01 := Lib.hid (And.intro hc0 hc1)
          have H89 := Lib.hid (And.intro hc8 hc9)
          have hnI : (24 : Int) ≤ n := by omega
          have hnJ : (n : Int) ≤ 256 := by omega
          have hw0 : IntKind.i64.wrap (k0 : Int) = k0 := by rw [IntKind.wrap_i64]; omega
          have hw1 : IntKind.i64.wrap (k1 : Int) = k1 := by rw [IntKind.wrap_i64]; omega
          have HW01 := Lib.hid (And.intro hw0 hw1)
          subst hv
          clear hR hn hs1 hs2 hop ho hcs rS fS hc8 hc9 hc0 hc1 e0 e1 e8 e9 h0 h1 h8 h9 hmm hm hw0 hw1 hW0
          go_enter Try.func10, Try.ntmps10
          go_upto_region 2 with fail
          go_wp2_with fail
          with_reducible refine HB.out.mono ?_
          rintro e w1 ⟨rfl, rfl⟩
          go_wp2_with fail
          with_reducible refine HOP.out.mono ?_
          rintro e w2 ⟨vo, rfl, -, hb2⟩
          have B2 := Lib.hid hb2
          obtain ⟨c8, c9⟩ : w2.cell? ⟨bb, o + 8, none⟩ = some (.int .u8 (k8 : Int)) ∧ w2.cell? ⟨bb, o + 9, none⟩ = some (.int .u8 (k9 : Int)) := ⟨H89.out.1 w2 hb2, H89.out.2 w2 hb2⟩
          clear hb2
          go_wp2_with fail
          go_quiet (fail)
          rename_i nq
          have hqq : Below w2.heap.size w2 (w2.drewN nq) := ⟨rfl, rfl, rfl, Nat.le_refl _, fun _ _ => rfl⟩
          have B3 := Lib.hid (B2.out.trans (hqq.mono B2.out.size))
          obtain ⟨W3, hW3⟩ : ∃ W, w2.drewN nq = W := ⟨_, rfl⟩
          rw [hW3] at B3 ⊢
          obtain ⟨c0, c1⟩ : W3.cell? ⟨bb, o, none⟩ = some (.int .u8 (k0 : Int)) ∧ W3.cell? ⟨bb, o + 1, none⟩ = some (.int .u8 (k1 : Int)) := ⟨H01.out.1 W3 B3.out, H01.out.2 W3 B3.out⟩
          have HC0 := Lib.hid c0
          have HC1 := Lib.hid c1
          clear hqq hW3 c8 c9
          go_upto_region 10 with fail
          go_cut [62] from 40 to 61 (fun t wx => t = .bool (decide (¬ (k0 = 1 ∨ k0 = 2) ∨ 63 < k1 ∨ n - 16 < m)) ∧ wx = W3)
          case first =>
            by_cases g1 : k0 = 1 ∨ k0 = 2
            · by_cases g2 : 63 < k1
              · have q2 : (63 : Int) < k1 := by omega
                have HD : Hid (decide (¬ (k0 = 1 ∨ k0 = 2) ∨ 63 < k1 ∨ n - 16 < m) = true) := decide_eq_true (.inr (.inl g2))
                rcases g1 with rfl | rfl
                · clear g2
                  go_wp2
                  go_meet
                  exact ⟨by rw [HD.out], rfl⟩
                · clear g2
                  go_wp2
                  go_meet
                  exact ⟨by rw [HD.out], rfl⟩
              · have q2 : ¬ (63 : Int) < k1 := by omega
                have HD : Hid (decide (¬ (k0 = 1 ∨ k0 = 2) ∨ 63 < k1 ∨ n - 16 < m) = decide ((n : Int) - 16 < (m : Int))) := by
                  show _ = _
                  rw [decide_eq_decide]
                  constructor
                  · rintro (h | h | h)
                    · exact absurd g1 h
                    · exact absurd h g2
                    · omega
                  · intro h; exact .inr (.inr (by omega))
                rcases g1 with rfl | rfl
                · clear g2
                  go_wp2
                  go_meet
                  exact ⟨by rw [HD.out], rfl⟩
                · clear g2
                  go_wp2
                  go_meet
                  exact ⟨by rw [HD.out], rfl⟩
            · have q1 : ((k0 : Int) != 1) = true := by rw [bne_iff_ne]; omega
              have q2 : ((k0 : Int) != 2) = true := by rw [bne_iff_ne]; omega
              have HD : Hid (decide (¬ (k0 = 1 ∨ k0 = 2) ∨ 63 < k1 ∨ n - 16 < m) = true) := decide_eq_true (.inl g1)
              clear g1
              go_wp2
              go_meet
              exact ⟨by rw [HD.out], rfl⟩
          case rest =>
          obtain ⟨rfl, hwc⟩ := hcut
          obtain rfl : W3 = wc := hwc.symm
          by_cases hbad : ¬ (k0 = 1 ∨ k0 = 2) ∨ 63 < k1 ∨ n - 16 < m
          · have HE := Lib.hid (HBAD.out hbad)
            rw [decide_eq_true hbad]
            clear hbad c0 c1
            obtain ⟨hX, hX4, -, hB⟩ := HW.out W3 B3.out
            have st8 := hX.store rfl zeroP (v := .slice none 0 0) rfl
            have ld4 := hX4.load rfl
            have ld8 := (hX.row (pgC zeroP (.slice none 0 0))).load rfl
            have HB8 := Lib.hid (below_row hB hB.size (Nat.le_refl _) (pgC zeroP (.slice none 0 0)))
            obtain ⟨W8, hW8⟩ : ∃ W, W3.setRow w.heap.size (pgC zeroP (.slice none 0 0)) = W := ⟨_, rfl⟩
            rw [hW8] at st8 ld8 HB8
            rw [← zp_is] at st8 ld8
            unfold zp at st8 ld8 ld4
            clear hB hX hX4 hW8
            go_wp2
            exact bodyPost_ret (v := .tuple #[.agg zp, .int .i64 2]) (results_row_tmp rfl _ _ _ _ rfl rfl ld8) rfl (rread_end HE.out _ _ HB8.out rfl)
          · rw [decide_eq_false hbad]
            have hg1 : k0 = 1 ∨ k0 = 2 := Classical.byContradiction fun h => hbad (.inl h)
            have hg2 : k1 ≤ 63 := by omega
            have hg3 : m ≤ n - 16 := by omega
            have HG := Lib.hid (HGOOD.out hg1 hg2 hg3)
            have hm16 : (m : Int) ≤ (n : Int) - 16 := by omega
            obtain ⟨vBody, fB, rB⟩ := slice_part HRR.out (lo := 10) (hi := 10 + m) (by omega) (by rw [HN.out]; omega)
            rw [Nat.add_sub_cancel_left] at rB
            have HFB := Lib.hid (fun W => fB .i64 .i64 10 (10 + (m : Int)) W rfl (by omega))
            have HRB := Lib.hid rB
            obtain ⟨aB, cB, hvB, -⟩ := rB.len
            obtain ⟨lB, hlB⟩ : ∃ k, ((l.drop 10).take m).length = k := ⟨_, rfl⟩
            rw [hlB] at hvB
            have HVB := Lib.hid hvB
            clear hbad hg1 hg2 hg3 fB rB hvB hlB hmI
            go_wp2_with fail
            go_loop [8] (fun t => ∃ j : Nat, 10 + m ≤ j ∧ j ≤ n - 4 ∧ t = .int .i64 (j : Int) ∧ Hid (Noughts l (10 + m) j)) (fun t => n - (intOf t).toNat)
            case atStart => exact ⟨10 + m, Nat.le_refl _, by omega, by simp, fun j y h1 h2 => absurd h2 (by omega)⟩
            case round =>
              obtain ⟨j, hj1, hj2, rfl, HNO⟩ := hrel
              have hjI : (j : Int) ≤ (n : Int) - 4 := by omega
              by_cases hlt : j < n - 4
              · have hltI : (j : Int) < (n : Int) - 4 := by omega
                have hjn : (j : Int) < n := by omega
                obtain ⟨y, hy⟩ : ∃ y, l[j]? = some y := ⟨_, List.getElem?_eq_getElem (by rw [HN.out]; omega)⟩
                have hcy := HCS.out W3 B3.out j y hy
                unfold byV at hcy
                by_cases hy0 : y = 0
                · have hk : (y.toNat : Int) = 0 := by rw [hy0]; rfl
                  rw [hk] at hcy
                  have HN2 : Hid (Noughts l (10 + m) (j + 1)) := fun i x h1 h2 hx => by
                    by_cases e : i = j
                    · subst e; rw [hy] at hx; cases hx; exact hy0
                    · exact HNO.out i x h1 (by omega) hx
                  clear hy hy0 hk
                  go_wp2
                  go_round
                  case rel => exact ⟨j + 1, by omega, by omega, by go_num, HN2⟩
                  case measure => simp [intOf]; omega
                · have hk : ((y.toNat : Int) != 0) = true := by rw [bne_iff_ne]; intro e; exact hy0 (UInt8.toNat_inj.1 (by show y.toNat = 0; omega))
                  have HE : Hid (readL l = (zeroP, 2)) := by
                    show _ = _
                    rw [HG.out, mid_not hj1 (by rw [HN.out]; exact hlt) hy hy0]; rfl
                  obtain ⟨ky, hky⟩ : ∃ k, y.toNat = k := ⟨_, rfl⟩
                  rw [hky] at hcy hk
                  clear hy hy0 hky c0 c1
                  obtain ⟨hX, hX4, -, hB⟩ := HW.out W3 B3.out
                  have st8 := hX.store rfl zeroP (v := .slice none 0 0) rfl
                  have ld4 := hX4.load rfl
                  have ld8 := (hX.row (pgC zeroP (.slice none 0 0))).load rfl
                  have HB8 := Lib.hid (below_row hB hB.size (Nat.le_refl _) (pgC zeroP (.slice none 0 0)))
                  obtain ⟨W8, hW8⟩ : ∃ W, W3.setRow w.heap.size (pgC zeroP (.slice none 0 0)) = W := ⟨_, rfl⟩
                  rw [hW8] at st8 ld8 HB8
                  rw [← zp_is] at st8 ld8
                  unfold zp at st8 ld8 ld4
                  clear hB hX hX4 hW8
                  go_wp2
                  exact bodyPost_ret (v := .tuple #[.agg zp, .int .i64 2]) (results_row_tmp rfl _ _ _ _ rfl rfl ld8) rfl (rread_end HE.out _ _ HB8.out rfl)
              · obtain rfl : j = n - 4 := by omega
                have hnn : ¬ (((n - 4 : Nat) : Int) < (n : Int) - 4) := by omega
                have HE : Hid (readL l = (⟨(k0 : Int), (k1 : Int), getB ((l.drop 2).take 6), (l.drop 10).take m⟩, 0)) := by
                  show _ = _
                  rw [HG.out, mid_noughts (by rw [HN.out]; exact HNO.out)]; rfl
                obtain ⟨r4, hr4⟩ : ∃ r, n - 4 = r := ⟨_, rfl⟩
                rw [hr4] at hnn ⊢
                have HRS := Lib.hid (HRS0.out.later (HW.out W3 B3.out).2.2.2)
                have HW13 : Hid (IntKind.i64.wrap (10 + (m : Int)) = 10 + (m : Int)) := by show _ = _; rw [IntKind.wrap_i64]; omega
                have hlI : (1 : Int) < (n : Int) := by omega
                have hlN : 1 < n := by omega
                have hlP : 0 < n := by omega
                clear hj1 hj2 hjI hlt hr4 c0 c1
                go_wp2_with fail
                refine region_slots_tail 16 (by kernel_rfl) (by kernel_rfl) (by kernel_rfl) (Gof [Gd.eq (.slice (some ⟨bb, o, none⟩) n cap), Gd.eq (.pointer (some ⟨bb, o, none⟩)), Gd.eq (.int .u8 (k0 : Int)), Gd.eq (.int .i64 (k0 : Int)), Gd.eq (.slice (some ⟨bb, o, none⟩) n cap), Gd.eq (.pointer (some ⟨bb, o + 1, none⟩)), Gd.eq (.int .u8 (k1 : Int)), Gd.eq (.int .i64 (k1 : Int)), Gd.eq (.slice (some ⟨bb, o, none⟩) n cap), Gd.eq (vS), Gd.eq (.int .u64 ((getB ((l.drop 2).take 6) : Nat) : Int)), Gd.eq (.slice (some ⟨bb, o, none⟩) n cap), Gd.eq (.int .i64 (m : Int)), Gd.eq (.int .i64 (10 + (m : Int))), Gd.eq (vBody), Gd.eq (.agg #[.int .i64 (k0 : Int), .int .i64 (k1 : Int), .int .u64 ((getB ((l.drop 2).take 6) : Nat) : Int), .slice aB lB cB])]) (Gof_st _) (steps_all ?_) ?_
                · dsimp only [headOps, List.take]
                  refine StepsFrom.cons ?s0 (StepsFrom.cons ?s1 (StepsFrom.cons ?s2 (StepsFrom.cons ?s3 (StepsFrom.cons ?s4 (StepsFrom.cons ?s5 (StepsFrom.cons ?s6 (StepsFrom.cons ?s7 (StepsFrom.cons ?s8 (StepsFrom.cons ?s9 (StepsFrom.cons ?s10 (StepsFrom.cons ?s11 (StepsFrom.cons ?s12 (StepsFrom.cons ?s13 (StepsFrom.cons ?s14 (StepsFrom.cons ?s15 StepsFrom.nil)))))))))))))))
                  case s0 =>
                    intro ac wc hU
                    have e0 : slot ac 0 = .slice (some ⟨bb, o, none⟩) n cap := (hU.keep 0 (by kernel_rfl)).trans rfl
                    refine step_val (wanted_none rfl) (run_move rfl) ?_
                    show (Gd.eq (.slice (some ⟨bb, o, none⟩) n cap)).p _ wc
                    exact (by rw [eval_tmp]; exact e0)
                  case s1 =>
                    intro ac wc hU
                    have e79 : (Gd.eq (.slice (some ⟨bb, o, none⟩) n cap)).p (slot ac 79) wc := hU.dep 0 79 (by kernel_rfl)
                    refine step_val (wanted_none rfl) (v := .pointer (some ⟨bb, o, none⟩)) ?_ rfl
                    have e79 : slot ac 79 = .slice (some ⟨bb, o, none⟩) n cap := e79
                    simp [execOp, eval_tmp, eval_const, e79] <;> go_simp
                  case s2 =>
                    intro ac wc hU
                    have e80 : (Gd.eq (.pointer (some ⟨bb, o, none⟩))).p (slot ac 80) wc := hU.dep 1 80 (by kernel_rfl)
                    refine step_val (wanted_none rfl) (v := .int .u8 (k0 : Int)) ?_ rfl
                    have c := cell_keep HC0.out hU.below
                    have e80 : slot ac 80 = .pointer (some ⟨bb, o, none⟩) := e80
                    simp [execOp, eval_tmp, e80] <;> go_simp
                  case s3 =>
                    intro ac wc hU
                    have e81 : (Gd.eq (.int .u8 (k0 : Int))).p (slot ac 81) wc := hU.dep 2 81 (by kernel_rfl)
                    refine step_val (wanted_none rfl) (v := .int .i64 (k0 : Int)) ?_ rfl
                    have e81 : slot ac 81 = .int .u8 (k0 : Int) := e81
                    simp [execOp, eval_tmp, e81] <;> go_simp
                    exact HW01.out.1
                  case s4 =>
                    intro ac wc hU
                    have e0 : slot ac 0 = .slice (some ⟨bb, o, none⟩) n cap := (hU.keep 0 (by kernel_rfl)).trans rfl
                    refine step_val (wanted_none rfl) (run_move rfl) ?_
                    show (Gd.eq (.slice (some ⟨bb, o, none⟩) n cap)).p _ wc
                    exact (by rw [eval_tmp]; exact e0)
                  case s5 =>
                    intro ac wc hU
                    have e83 : (Gd.eq (.slice (some ⟨bb, o, none⟩) n cap)).p (slot ac 83) wc := hU.dep 4 83 (by kernel_rfl)
                    refine step_val (wanted_none rfl) (v := .pointer (some ⟨bb, o + 1, none⟩)) ?_ rfl
                    have e83 : slot ac 83 = .slice (some ⟨bb, o, none⟩) n cap := e83
                    simp [execOp, eval_tmp, eval_const, e83] <;> go_simp
                  case s6 =>
                    intro ac wc hU
                    have e84 : (Gd.eq (.pointer (some ⟨bb, o + 1, none⟩))).p (slot ac 84) wc := hU.dep 5 84 (by kernel_rfl)
                    refine step_val (wanted_none rfl) (v := .int .u8 (k1 : Int)) ?_ rfl
                    have c := cell_keep HC1.out hU.below
                    have e84 : slot ac 84 = .pointer (some ⟨bb, o + 1, none⟩) := e84
                    simp [execOp, eval_tmp, e84] <;> go_simp
                  case s7 =>
                    intro ac wc hU
                    have e85 : (Gd.eq (.int .u8 (k1 : Int))).p (slot ac 85) wc := hU.dep 6 85 (by kernel_rfl)
                    refine step_val (wanted_none rfl) (v := .int .i64 (k1 : Int)) ?_ rfl
                    have e85 : slot ac 85 = .int .u8 (k1 : Int) := e85
                    simp [execOp, eval_tmp, e85] <;> go_simp
                    exact HW01.out.2
                  case s8 =>
                    intro ac wc hU
                    have e0 : slot ac 0 = .slice (some ⟨bb, o, none⟩) n cap := (hU.keep 0 (by kernel_rfl)).trans rfl
                    refine step_val (wanted_none rfl) (run_move rfl) ?_
                    show (Gd.eq (.slice (some ⟨bb, o, none⟩) n cap)).p _ wc
                    exact (by rw [eval_tmp]; exact e0)
                  case s9 =>
                    intro ac wc hU
                    have e87 : (Gd.eq (.slice (some ⟨bb, o, none⟩) n cap)).p (slot ac 87) wc := hU.dep 8 87 (by kernel_rfl)
                    refine step_val (wanted_none rfl) (v := vS) ?_ rfl
                    have f := HFS.out wc
                    have e87 : slot ac 87 = .slice (some ⟨bb, o, none⟩) n cap := e87
                    simp [execOp, eval_tmp, eval_const, e87] <;> go_simp
                  case s10 =>
                    intro ac wc hU
                    have e88 : (Gd.eq (vS)).p (slot ac 88) wc := hU.dep 9 88 (by kernel_rfl)
                    refine step_call (wanted_none rfl) (f := 27) (args := #[(vS)]) ?_ ?_
                    · have e88 : slot ac 88 = vS := e88
                      simp [execOp, resolve, invoke, eval_tmp, e88] <;> go_simp
                    · refine (rget_any _ _ wc (HRS.out.later hU.below)).mono ?_
                      rintro e w' ⟨rfl, rfl⟩; exact ⟨_, rfl, Below.refl _ _, rfl⟩
                  case s11 =>
                    intro ac wc hU
                    have e0 : slot ac 0 = .slice (some ⟨bb, o, none⟩) n cap := (hU.keep 0 (by kernel_rfl)).trans rfl
                    refine step_val (wanted_none rfl) (run_move rfl) ?_
                    show (Gd.eq (.slice (some ⟨bb, o, none⟩) n cap)).p _ wc
                    exact (by rw [eval_tmp]; exact e0)
                  case s12 =>
                    intro ac wc hU
                    have e7 : slot ac 7 = .int .i64 (m : Int) := (hU.keep 7 (by kernel_rfl)).trans rfl
                    refine step_val (wanted_none rfl) (run_move rfl) ?_
                    show (Gd.eq (.int .i64 (m : Int))).p _ wc
                    exact (by rw [eval_tmp]; exact e7)
                  case s13 =>
                    intro ac wc hU
                    have e91 : (Gd.eq (.int .i64 (m : Int))).p (slot ac 91) wc := hU.dep 12 91 (by kernel_rfl)
                    refine step_val (wanted_none rfl) (v := .int .i64 (10 + (m : Int))) ?_ rfl
                    have e91 : slot ac 91 = .int .i64 (m : Int) := e91
                    simp [execOp, eval_tmp, eval_const, e91] <;> go_simp
                    exact HW13.out
                  case s14 =>
                    intro ac wc hU
                    have e90 : (Gd.eq (.slice (some ⟨bb, o, none⟩) n cap)).p (slot ac 90) wc := hU.dep 11 90 (by kernel_rfl)
                    have e92 : (Gd.eq (.int .i64 (10 + (m : Int)))).p (slot ac 92) wc := hU.dep 13 92 (by kernel_rfl)
                    refine step_val (wanted_none rfl) (v := vBody) ?_ rfl
                    have f := HFB.out wc
                    have e90 : slot ac 90 = .slice (some ⟨bb, o, none⟩) n cap := e90
                    have e92 : slot ac 92 = .int .i64 (10 + (m : Int)) := e92
                    simp [execOp, eval_tmp, eval_const, e90, e92] <;> go_simp
                  case s15 =>
                    intro ac wc hU
                    have e82 : (Gd.eq (.int .i64 (k0 : Int))).p (slot ac 82) wc := hU.dep 3 82 (by kernel_rfl)
                    have e86 : (Gd.eq (.int .i64 (k1 : Int))).p (slot ac 86) wc := hU.dep 7 86 (by kernel_rfl)
                    have e89 : (Gd.eq (.int .u64 ((getB ((l.drop 2).take 6) : Nat) : Int))).p (slot ac 89) wc := hU.dep 10 89 (by kernel_rfl)
                    have e93 : (Gd.eq (vBody)).p (slot ac 93) wc := hU.dep 14 93 (by kernel_rfl)
                    refine step_val (wanted_none rfl) (v := .agg #[.int .i64 (k0 : Int), .int .i64 (k1 : Int), .int .u64 ((getB ((l.drop 2).take 6) : Nat) : Int), .slice aB lB cB]) ?_ rfl
                    have e82 : slot ac 82 = .int .i64 (k0 : Int) := e82
                    have e86 : slot ac 86 = .int .i64 (k1 : Int) := e86
                    have e89 : slot ac 89 = .int .u64 ((getB ((l.drop 2).take 6) : Nat) : Int) := e89
                    have e93 : slot ac 93 = vBody := e93
                    simp [execOp, eval_tmp, e82, e86, e89, e93, HVB.out] <;> go_simp
                · intro ac wc hU
                  have hlit := act_puts hU (by kernel_rfl) [79, 80, 81, 82, 83, 84, 85, 86, 87, 88, 89, 90, 91, 92, 93, 94] (by kernel_rfl)
                  have f79 : slot ac 79 = .slice (some ⟨bb, o, none⟩) n cap := hU.last 0 79 (by kernel_rfl)
                  have f80 : slot ac 80 = .pointer (some ⟨bb, o, none⟩) := hU.last 1 80 (by kernel_rfl)
                  have f81 : slot ac 81 = .int .u8 (k0 : Int) := hU.last 2 81 (by kernel_rfl)
                  have f82 : slot ac 82 = .int .i64 (k0 : Int) := hU.last 3 82 (by kernel_rfl)
                  have f83 : slot ac 83 = .slice (some ⟨bb, o, none⟩) n cap := hU.last 4 83 (by kernel_rfl)
                  have f84 : slot ac 84 = .pointer (some ⟨bb, o + 1, none⟩) := hU.last 5 84 (by kernel_rfl)
                  have f85 : slot ac 85 = .int .u8 (k1 : Int) := hU.last 6 85 (by kernel_rfl)
                  have f86 : slot ac 86 = .int .i64 (k1 : Int) := hU.last 7 86 (by kernel_rfl)
                  have f87 : slot ac 87 = .slice (some ⟨bb, o, none⟩) n cap := hU.last 8 87 (by kernel_rfl)
                  have f88 : slot ac 88 = vS := hU.last 9 88 (by kernel_rfl)
                  have f89 : slot ac 89 = .int .u64 ((getB ((l.drop 2).take 6) : Nat) : Int) := hU.last 10 89 (by kernel_rfl)
                  have f90 : slot ac 90 = .slice (some ⟨bb, o, none⟩) n cap := hU.last 11 90 (by kernel_rfl)
                  have f91 : slot ac 91 = .int .i64 (m : Int) := hU.last 12 91 (by kernel_rfl)
                  have f92 : slot ac 92 = .int .i64 (10 + (m : Int)) := hU.last 13 92 (by kernel_rfl)
                  have f93 : slot ac 93 = vBody := hU.last 14 93 (by kernel_rfl)
                  have f94 : slot ac 94 = .agg #[.int .i64 (k0 : Int), .int .i64 (k1 : Int), .int .u64 ((getB ((l.drop 2).take 6) : Nat) : Int), .slice aB lB cB] := hU.last 15 94 (by kernel_rfl)
                  have hb17 := hU.below
                  simp only [puts, List.foldl, Act.put, List.setIfInBounds_toArray, List.set_cons_zero, List.set_cons_succ, f79, f80, f81, f82, f83, f84, f85, f86, f87, f88, f89, f90, f91, f92, f93, f94] at hlit
                  rw [hlit]
                  clear hlit hU f79 f80 f81 f82 f83 f84 f85 f86 f87 f88 f89 f90 f91 f92 f93 f94
                  have B17 := Lib.hid (B3.out.trans (hb17.mono B3.out.size))
                  obtain ⟨hX, -, -, hB⟩ := HW.out wc B17.out
                  have st8 := hX.store rfl ⟨(k0 : Int), (k1 : Int), getB ((l.drop 2).take 6), (l.drop 10).take m⟩ (v := .slice aB lB cB) rfl
                  have ld8 := (hX.row (pgC ⟨(k0 : Int), (k1 : Int), getB ((l.drop 2).take 6), (l.drop 10).take m⟩ (.slice aB lB cB))).load rfl
                  have HB8 := Lib.hid (below_row hB hB.size (Nat.le_refl _) (pgC ⟨(k0 : Int), (k1 : Int), getB ((l.drop 2).take 6), (l.drop 10).take m⟩ (.slice aB lB cB)))
                  obtain ⟨W8, hW8⟩ : ∃ W, wc.setRow w.heap.size (pgC ⟨(k0 : Int), (k1 : Int), getB ((l.drop 2).take 6), (l.drop 10).take m⟩ (.slice aB lB cB)) = W := ⟨_, rfl⟩
                  rw [hW8] at st8 ld8 HB8
                  have HZ : Hid (RReadPost l w (.returned (.tuple #[pgV ⟨(k0 : Int), (k1 : Int), getB ((l.drop 2).take 6), (l.drop 10).take m⟩ (.slice aB lB cB), .int .i64 0])) W8) := by
                    show RReadPost _ _ _ _
                    unfold RReadPost
                    rw [HE.out]
                    exact ⟨_, rfl, by rw [← HVB.out]; exact HRB.out.later HB8.out, HB8.out⟩
                  unfold pgC at st8 ld8
                  dsimp only at st8 ld8
                  clear hX hB hW8 hb17
                  simp only [List.drop_succ_cons, List.drop_zero]
                  go_wp2
                  exact bodyPost_ret (v := .tuple #[pgV ⟨(k0 : Int), (k1 : Int), getB ((l.drop 2).take 6), (l.drop 10).take m⟩ (.slice aB lB cB), .int .i64 0]) (results_row_tmp rfl _ _ _ _ rfl rfl ld8) rfl HZ.out
        · have h4 := open_four (l := l) (by omega) ho
          rw [h4] at hop
          have HE : Hid (readL l = (zeroP, 4)) := by
            show _ = _
            unfold readL
            rw [HSB.out, HA.out, if_neg (by decide), if_neg (by decide), if_neg ho]
          have HOP := Lib.hid hop
          subst hv
          clear hR hn hs1 hs2 hop ho h4 hW0
          go_enter Try.func10, Try.ntmps10
          go_upto_region 2 with fail
          go_wp2_with fail
          with_reducible refine HB.out.mono ?_
          rintro e w1 ⟨rfl, rfl⟩
          go_wp2_with fail
          with_reducible refine HOP.out.mono ?_
          rintro e w2 ⟨vo, rfl, -, hb2⟩
          have B2 := Lib.hid hb2
          clear hb2
          obtain ⟨hX, hX4, -, hB⟩ := HW.out w2 B2.out
          have st8 := hX.store rfl zeroP (v := .slice none 0 0) rfl
          have ld4 := hX4.load rfl
          have ld8 := (hX.row (pgC zeroP (.slice none 0 0))).load rfl
          have HB8 := Lib.hid (below_row hB hB.size (Nat.le_refl _) (pgC zeroP (.slice none 0 0)))
          obtain ⟨W8, hW8⟩ : ∃ W, w2.setRow w.heap.size (pgC zeroP (.slice none 0 0)) = W := ⟨_, rfl⟩
          rw [hW8] at st8 ld8 HB8
          rw [← zp_is] at st8 ld8
          unfold zp at st8 ld8 ld4
          clear hB hX hX4 hW8
          go_wp2
          exact bodyPost_ret (v := .tuple #[.agg zp, .int .i64 4]) (results_row_tmp rfl _ _ _ _ rfl rfl ld8) rfl (rread_end HE.out _ _ HB8.out rfl)
end Go.Proofs.Ytkbnffjkilpdaaa.Page
