/- The statement ChipKeeps, walked: every call of it hands back true. -/
import Derived.Test.YtilgppijmkcomaaChipAwake
import Derived.Test.YtilgppijmkcomaaKeepM
import Derived.Deep.CutRange
import Derived.Deep.CutBlock
import Derived.Deep.RegionHeld3
namespace Go.Proofs.Ytilgppijmkcomaa.chipKeeps
open Go.RowKit Go.Sort Go.Shelf Go.Proofs.Ytilgppijmkcomaa.Chip
attribute [local go_sem ↓] loadVar_chip storeVar_chip make_five

set_option maxHeartbeats 8000000 in
set_option maxRecDepth 100000 in
theorem walk (fs : List Flt) (ds : List Ado) (v0 v1 : Value) (w : World) (h0 : RdF w v0 fs) (h1 : RdD w v1 ds) :
    Calls Try.prog 3 #[v0, v1] w fun e w' => e = .returned (.bool true) ∧ Below w.heap.size w w' := by
  obtain ⟨af, cf, hv0, hl0, hm0⟩ := RdRow.len h0
  obtain ⟨ad, cd, hv1, hl1, hm1⟩ := RdRow.len h1
  have HF : Hid (∀ V, Below w.heap.size w V → RdF V v0 fs) := fun V h => RdF.later h0 h
  have HD : Hid (∀ V, Below w.heap.size w V → RdD V v1 ds) := fun V h => RdRow.later h1 h
  obtain ⟨m, hm⟩ : ∃ m, m = fs.length := ⟨_, rfl⟩
  obtain ⟨n, hn⟩ : ∃ n, n = ds.length := ⟨_, rfl⟩
  have HM := Lib.hid hm
  have HN := Lib.hid hn
  rw [← hm] at hv0 hl0
  rw [← hn] at hv1 hl1
  unfold maxLen at hm0 hm1
  have hm63 : (m : Int) ≤ 9223372036854775807 := by omega
  have hn63 : (n : Int) ≤ 9223372036854775807 := by omega
  have HAW := Lib.hid awake_any
  obtain ⟨c0, hc0⟩ : ∃ c0, c0 = newChp 3 4 5 := ⟨_, rfl⟩
  have HC0 := Lib.hid hc0
  have HNEW : Hid (∀ V, Calls Try.prog 6 #[.int .i64 3, .int .i64 4, .int .i64 5] V (ChipPost V c0 0)) := fun V => by rw [hc0]; exact new_any 3 4 5 V
  subst hv0 hv1
  clear h0 h1 hm hn hl0 hm0 hl1 hm1 hc0
  unfold ChipPost at HNEW
  by_cases h60 : m ≤ 60
  · have h60I : (m : Int) ≤ 60 := by omega
    clear h60
    have HON : Hid (∀ c i S X, Kp c i S X → i ≤ 1000 → ∀ V v, Below w.heap.size w V → RdC V v c → Calls Try.prog 7 #[v, .slice af m cf] V fun e w' => ∃ v' er, e = .returned (.tuple #[v', .int .i64 er]) ∧ RdN w' v' (onC c fs) ∧ Below V.heap.size V w') := fun c i S X hk hi V v hb hr =>
      (on_any c hk.small fs v _ V hr (HF.out V hb)).mono fun e w' ⟨v', h1, h2, h3⟩ => ⟨v', _, h1, h2, h3⟩
    go_enter Try.func3, Try.ntmps3
    go_wp2_with fail
    refine (HAW.out w).mono ?_
    rintro e w1 ⟨rfl, hb1⟩
    have H1 := Lib.hid hb1
    clear hb1
    go_wp2_with fail
    refine (HNEW.out w1).mono ?_
    rintro e w2 ⟨v2, rfl, hr2, hb2⟩
    obtain ⟨A2, W2, hv2, st2, hx2, hn2, ha2, hs2⟩ := box_make hr2
    subst hv2
    have hb2w : Below w.heap.size w w2 := H1.out.trans (hb2.mono H1.out.size)
    have H2 : Hid (Below w.heap.size w W2) := hb2w.trans (ha2.mono hb2w.size)
    have Z2 : Hid (w.heap.size ≤ w2.heap.size) := hb2w.size
    have ld := hx2.load hs2
    have X2 := Lib.hid hx2
    have N2 := Lib.hid hn2
    have S2 := Lib.hid hs2
    unfold zc at st2
    clear hr2 hb2 hx2 hn2 ha2 hs2 hb2w
    have K0 : Hid (Kp c0 0 (List.replicate 12 false) (List.replicate 12 0)) := by show Kp _ _ _ _; rw [HC0.out]; exact Kp.new
    go_wp2_with fail
    clear ld st2
    refine (HON.out c0 0 _ _ K0.out (by omega) W2 _ H2.out N2.out.rd).mono ?_
    rintro e w3 ⟨v3, er, rfl, hr3, hb3⟩
    obtain ⟨A3, W3, hv3, st3, hx3, hn3, -, hg3, hs3⟩ := box_put hr3 (X2.out.later hb3) S2.out
    subst hv3
    have H3a : Below w.heap.size w w3 := H2.out.trans (hb3.mono H2.out.size)
    have H3 : Hid (Below w.heap.size w W3) := below_put H3a H3a.size Z2.out hg3
    have X3 : Hid (Bx W3 w2.heap.size (onC c0 fs)) := ⟨A3, hx3, hs3, hn3⟩
    clear hr3 hb3 hx3 hn3 hg3 hs3 H3a
    go_upto_region 9 with fail
    clear st3
    have HRT : Hid (∀ c i S X, Kp c i S X → i ≤ 1000 → ∀ V v, RdC V v c → Calls Try.prog 12 #[v] V fun e w' => e = .returned (.bool true) ∧ Below V.heap.size V w') := fun c i S X hk hi V v hr => by
      have := right_any c v V hr
      rw [hk.right hi] at this; exact this
    have HRD : Hid (∀ c i S X, Kp c i S X → i ≤ 1000 → c.off = false → ∀ (n k : Nat), n < 3 → k < 4 → ∀ V v, RdC V v c → Calls Try.prog 11 #[v, .int .i64 (n : Int), .int .i64 (k : Int)] V fun e w' => ∃ v', e = .returned (.tuple #[v', .int .i64 0]) ∧ OwnB w' V.heap.size v' (pageAt (blkAt c n) k) ∧ Below V.heap.size V w') := fun c i S X hk hi ho n k hn hkk V v hr => by
      have := read_any c hk.small v n k V hr
      obtain ⟨e1, e2, -⟩ := hk.read hi hn hkk ho
      unfold ReadPost at this
      rw [e1, e2] at this; exact this
    obtain ⟨c1, hc1⟩ : ∃ c1, c1 = onC c0 fs := ⟨_, rfl⟩
    have K1 : Hid (Kp c1 1 (List.replicate 12 false) (List.replicate 12 0)) := by show Kp _ _ _ _; rw [hc1]; exact (K0.out.on (by omega) (by rw [← HM.out]; omega)).2.2
    have hb4 : Below W3.heap.size W3 ((W3.alloc (.cells (cB (List.replicate 12 false)) 33)).alloc (.cells (cH (List.replicate 12 0)) 35)) := ((Below.refl _ _).alloc (Nat.le_refl _) _).alloc (by simp) _
    have hst : St w w2.heap.size W3.heap.size (W3.heap.size + 1) c1 (List.replicate 12 false) (List.replicate 12 0) ((W3.alloc (.cells (cB (List.replicate 12 false)) 33)).alloc (.cells (cH (List.replicate 12 0)) 35)) := by
      refine ⟨H3.out.trans (hb4.mono H3.out.size), by rw [hc1]; exact X3.out.later hb4, ?_, ?_, Z2.out, H3.out.size, Nat.le_succ_of_le H3.out.size⟩
      · rw [Go.heap_alloc_old _ _ (by simp), Go.heap_alloc_new]
      · have := Go.heap_alloc_new (W3.alloc (.cells (cB (List.replicate 12 false)) 33)) (.cells (cH (List.replicate 12 0)) 35)
        simpa using this
    obtain ⟨W4, hW4⟩ : ∃ W4, W4 = (W3.alloc (.cells (cB (List.replicate 12 false)) 33)).alloc (.cells (cH (List.replicate 12 0)) 35) := ⟨_, rfl⟩
    rw [← hW4] at hst
    have HST := Lib.hid hst
    obtain ⟨B7, hB7⟩ : ∃ B7, B7 = W3.heap.size := ⟨_, rfl⟩
    obtain ⟨B5, hB5⟩ : ∃ B5, B5 = w2.heap.size := ⟨_, rfl⟩
    rw [← hB7, ← hB5] at HST
    rw [show (W3.alloc (.cells #[.bool false, .bool false, .bool false, .bool false, .bool false, .bool false, .bool false, .bool false, .bool false, .bool false, .bool false, .bool false] 33)).alloc (.cells #[.int .u8 0, .int .u8 0, .int .u8 0, .int .u8 0, .int .u8 0, .int .u8 0, .int .u8 0, .int .u8 0, .int .u8 0, .int .u8 0, .int .u8 0, .int .u8 0] 35) = W4 from hW4.symm, ← hB7, ← hB5]
    clear hst hb4 hW4 hB7 hB5 hc1 K0 X2 N2 S2 X3 H1 H2 H3 Z2 HNEW HAW
    go_wp2
    go_loopg [9] n (fun k t wr => ∃ (i : Nat) (c : Chp) (S : List Bool) (X : List UInt8), t = .int .i64 i ∧ i + k = n ∧ i ≤ 100 ∧ Hid (Kp c (i + 1) S X) ∧ Hid (St w B5 B7 (B7 + 1) c S X wr))
    case atStart => exact ⟨0, c1, _, _, rfl, by omega, by omega, K1, HST⟩
    case round =>
      clear K1 HST
      obtain ⟨i, c, S, X, rfl, hik, hi100, HK, HS⟩ := hrel
      obtain ⟨ko, hko⟩ : ∃ ko, ko = gk := ⟨_, rfl⟩
      subst hko
      obtain ⟨W, hW⟩ : ∃ W, W = wr := ⟨_, rfl⟩
      subst hW
      obtain ⟨A, vb, hrd, hrn, -, hld, -, -, -⟩ := HS.out.box.cells
      have ld := hld W (Below.refl _ _)
      have RD := Lib.hid hrd
      have RN := Lib.hid hrn
      clear hrd hrn hld
      by_cases hlt : i < n ∧ i < 100
      · obtain ⟨hltn, hlt1⟩ := hlt
        have hltI : (i : Int) < n := by omega
        have hlt1I : (i : Int) < 100 := by omega
        have hi0 : (0 : Int) ≤ i := by omega
        obtain ⟨d, hdi⟩ : ∃ d, ds[i]? = some d := ⟨ds[i]'(by rw [← HN.out]; exact hltn), List.getElem?_eq_getElem _⟩
        obtain ⟨lb, lo, lc, hv, -, -, -⟩ := at_do (HD.out W HS.out.bel) hdi
        simp only [Value.slice.injEq] at hv
        obtain ⟨rfl, -, rfl⟩ := hv
        have HDC : Hid (∀ V, Below w.heap.size w V → V.cell? ⟨lb, lo + i * 3, none⟩ = some (.int .u8 (d.kind.toNat : Int)) ∧ V.cell? ⟨lb, lo + i * 3 + 1, none⟩ = some (.int .u8 (d.block.toNat : Int)) ∧ V.cell? ⟨lb, lo + i * 3 + 2, none⟩ = some (.int .u8 (d.byte.toNat : Int))) := fun V hb => by
          obtain ⟨lb', lo', lc', hv, k0, k1, k2⟩ := at_do (HD.out V hb) hdi
          simp only [Value.slice.injEq, Option.some.injEq, Addr.mk.injEq] at hv
          obtain ⟨⟨rfl, rfl, -⟩, -, -⟩ := hv
          exact ⟨k0, k1, k2⟩
        clear hdi
        obtain ⟨Aw, W1, hAw, st1, hw1, hb1⟩ := bx_make RN.out
        simp only [Value.agg.injEq] at hAw
        subst hAw
        have HW1 := Lib.hid hw1
        have HS1 := Lib.hid (HS.out.later hb1)
        obtain ⟨k0, k1, k2⟩ := HDC.out W HS.out.bel
        obtain ⟨j0, j1, j2⟩ := HDC.out W1 HS1.out.bel
        unfold zc at st1
        clear hw1 hb1 k2 j1 j2
        go_upto_block 2 with fail
        clear st1 k0 k1 j0 ld
        obtain ⟨bn, hbn, hbn3⟩ : ∃ bn : Nat, (wrap64 (d.block.toNat : Int)).tmod 3 = (bn : Int) ∧ bn < 3 := ⟨d.block.toNat % 3, by
          have := d.block.toNat_lt
          rw [IntWalk.wrap64_in _ (by constructor <;> omega), Int.tmod_eq_emod_of_nonneg (by omega)]; omega, by omega⟩
        rw [hbn]
        obtain ⟨kd, hkd⟩ : ∃ kd : Nat, kd = d.kind.toNat := ⟨_, rfl⟩
        rw [← hkd] at HDC ⊢
        have hkdI : (kd : Int) < 256 := by have := d.kind.toNat_lt; omega
        have hkd0 : (0 : Int) ≤ kd := by omega
        obtain ⟨B11, hB11⟩ : ∃ B11, B11 = W.heap.size := ⟨_, rfl⟩
        have HNE : Hid (B11 ≠ B5) := by have := HS.out.box.lt; show _ ≠ _; omega
        rw [← hB11] at HW1 ⊢
        have hbn3I : (bn : Int) < 3 := by omega
        have hbn0 : (0 : Int) ≤ bn := by omega
        have HBN := Lib.hid hbn3
        clear hbn hkd hB11 RD RN hbn3 hltn hlt1
        go_cut [] from 46 to 272 (fun wx => ∃ (c' : Chp) (S' : List Bool) (X' : List UInt8), Hid (Kp c' (i + 1 + 1) S' X') ∧ Hid (St w B5 B7 (B7 + 1) c' S' X' wx) ∧ Hid (Bx wx B11 c) ∧ Hid ((c.off = true → ¬ (kd : Int) % 4 = 3 → c' = c) ∧ c.ops ≤ c'.ops ∧ c'.ops ≤ c.ops + 1))
        case first =>
          obtain ⟨x, hx⟩ : ∃ x, x = d.byte := ⟨_, rfl⟩
          rw [← hx] at HDC
          clear hx
          have X1 := Lib.hid HW1.out
          obtain ⟨A1, vb1, hrd1, hrn1, -, hld1, -, -, -⟩ := HS1.out.box.cells
          have RD1 := Lib.hid hrd1
          have RN1 := Lib.hid hrn1
          have LD1 := Lib.hid hld1
          clear hrd1 hrn1 hld1
          by_cases h01 : (kd : Int) % 4 = 0 ∨ (kd : Int) % 4 = 1
          · go_upto_if 76 with fail
            go_cut [76] from 77 to 78 (fun t wx => t = .bool true ∧ wx = W1)
            case first =>
              by_cases h0 : (kd : Int) % 4 = 0
              · clear h01
                go_wp2
                go_meet
                exact ⟨by rw [h0]; rfl, rfl⟩
              · have h1 : (kd : Int) % 4 = 1 := by omega
                clear h0 h01
                go_wp2
                go_meet
                exact ⟨rfl, rfl⟩
            case rest =>
              obtain ⟨rfl, hwc⟩ := hcut
              obtain rfl : W1 = wc := hwc.symm
              have HK3 : Hid (¬ (kd : Int) % 4 = 3) := by show ¬ _; omega
              clear h01
              obtain ⟨bb, bo, cb, c2, cu, -⟩ := HS1.out.box.blk (i := bn) (by rw [HK.out.three]; exact HBN.out)
              rw [HK.out.three] at c2
              obtain ⟨U, hU⟩ : ∃ U, U = (blkAt c bn).used := ⟨_, rfl⟩
              rw [← hU] at cu
              have hUf : 0 ≤ U ∧ U ≤ 4 := by rw [hU]; exact (HK.out.fit HBN.out).2.2.1
              have HU := Lib.hid hU
              obtain ⟨hUf0, hUf4⟩ := hUf
              clear hU
              by_cases hU4 : U = 4
              · subst hU4
                clear hUf0 hUf4
                go_upto_region 20 with fail
                clear c2 cu
                go_cut [14] from 46 to 272 (fun t wx => ∃ er : Int, t = .int .i64 er ∧ er ≠ 0 ∧ Hid (Below W1.heap.size W1 wx))
                case first =>
                  as_aux_lemma =>
                    have HP3 : Hid (∀ V v u, RdC V v c → RdB V u (List.replicate 5 0) → Calls Try.prog 8 #[v, .int .i64 (bn : Int), .int .i64 3, u] V fun e w' => ∃ v' er d, e = .returned (.tuple #[v', .int .i64 er]) ∧ er ≠ 0 ∧ RdN w' v' d ∧ Below V.heap.size V w') := fun V v u h1 h2 =>
                      (program_any c HK.out.small _ v u bn 3 V h1 h2).mono fun e w' ⟨v', a, b, d⟩ => ⟨v', _, _, a, full_no HU.out.symm _, b, d⟩
                    have b0 : Below W1.heap.size W1 W1.drew := (Below.refl _ _).drew
                    have a1 : Below W1.heap.size W1 (W1.alloc (.cells z5 5)) := (Below.refl _ _).alloc (Nat.le_refl _) _
                    have a2 : Below W1.heap.size W1 (W1.alloc (.cells zc 27)) := (Below.refl _ _).alloc (Nat.le_refl _) _
                    have a3 : Below W1.heap.size W1 ((W1.alloc (.cells z5 5)).alloc (.cells zc 27)) := a1.alloc a1.size _
                    have a4 : Below W1.heap.size W1 ((W1.alloc (.cells zc 27)).alloc (.cells z5 5)) := a2.alloc a2.size _
                    have b1 := a1.drew
                    have b2 := a2.drew
                    have b3 := a3.drew
                    have b4 := a4.drew
                    have ld0 := LD1.out _ b0
                    have ld1 := LD1.out _ b1
                    have ld2 := LD1.out _ b2
                    have ld3 := LD1.out _ b3
                    have ld4 := LD1.out _ b4
                    have u1 : RdB (W1.alloc (.cells z5 5)).drew (.slice (some ⟨W1.heap.size, 0, none⟩) 5 5) (List.replicate 5 0) := (z5_rd W1).later ((Below.refl _ _).drew)
                    have u3 : RdB ((W1.alloc (.cells z5 5)).alloc (.cells zc 27)).drew (.slice (some ⟨W1.heap.size, 0, none⟩) 5 5) (List.replicate 5 0) := (z5_rd W1).later (((Below.refl _ _).alloc (Nat.le_refl _) _).drew)
                    have u4 : RdB ((W1.alloc (.cells zc 27)).alloc (.cells z5 5)).drew (.slice (some ⟨W1.heap.size + 1, 0, none⟩) 5 5) (List.replicate 5 0) := by
                      have := (z5_rd (W1.alloc (.cells zc 27))).later ((Below.refl _ _).drew)
                      simpa using this
                    have x3 : Box ((W1.alloc (.cells z5 5)).alloc (.cells zc 27)).drew (W1.heap.size + 1) zc := by
                      have := (Box.new (W1.alloc (.cells z5 5)) zc).later ((Below.refl _ _).drew)
                      simpa using this
                    have x4 : Box ((W1.alloc (.cells zc 27)).alloc (.cells z5 5)).drew W1.heap.size zc := ((Box.new W1 zc).later ((Below.refl _ _).alloc (Nat.le_refl _) _)).later ((Below.refl _ _).drew)
                    have p1 := HP3.out _ _ _ (RD1.out.later b1) u1
                    have p3 := HP3.out _ _ _ (RD1.out.later b3) u3
                    have p4 := HP3.out _ _ _ (RD1.out.later b4) u4
                    have ms0 := run_five W1.drew
                    have ms2 := run_five (W1.alloc (.cells zc 27)).drew
                    simp only [z5, zc] at ld1 ld2 ld3 ld4 ms0 ms2 b1 b3 b4 p1 p3 p4
                    have X3 := Lib.hid x3
                    have X4 := Lib.hid x4
                    simp only [z5] at X3 X4
                    have HP1 := Lib.hid p1
                    have HP33 := Lib.hid p3
                    have HP4 := Lib.hid p4
                    have HB1 := Lib.hid b1
                    have HB3 := Lib.hid b3
                    have HB4 := Lib.hid b4
                    clear b0 b1 b2 b3 b4 u1 u3 u4 a1 a2 a3 a4 x3 x4 p1 p3 p4
                    go_region_with (first
                      | ((with_reducible refine Calls.mono HP1.out ?_); rintro e w7 ⟨v7, er7, d7, rfl, hne, hr7, hb7⟩; obtain ⟨A7, W7, hv7, st7, -, hb7'⟩ := bx_make hr7; subst hv7; have HBF : Hid (Below W1.heap.size W1 W7) := HB1.out.trans ((hb7.trans (hb7'.mono hb7.size)).mono HB1.out.size); have HNE7 := Lib.hid hne; unfold zc at st7; clear hr7 hb7 hb7' hne)
                      | ((with_reducible refine Calls.mono HP33.out ?_); rintro e w7 ⟨v7, er7, d7, rfl, hne, hr7, hb7⟩; obtain ⟨A7, hv7, st7⟩ := box_late hr7 (Box.later X3.out hb7); subst hv7; have HBF : Hid (Below W1.heap.size W1 (w7.setRow (W1.heap.size + 1) A7)) := below_setRow (HB3.out.trans (hb7.mono HB3.out.size)) (by omega) _; have HNE7 := Lib.hid hne; clear hr7 hb7 hne)
                      | ((with_reducible refine Calls.mono HP4.out ?_); rintro e w7 ⟨v7, er7, d7, rfl, hne, hr7, hb7⟩; obtain ⟨A7, hv7, st7⟩ := box_late hr7 (Box.later X4.out hb7); subst hv7; have HBF : Hid (Below W1.heap.size W1 (w7.setRow W1.heap.size A7)) := below_setRow (HB4.out.trans (hb7.mono HB4.out.size)) (by omega) _; have HNE7 := Lib.hid hne; clear hr7 hb7 hne))
                    all_goals (as_aux_lemma => (go_wp2_with fail; go_meet; exact ⟨_, rfl, HNE7.out, HBF⟩))
                case rest =>
                  as_aux_lemma =>
                    obtain ⟨er, rfl, hne, HB⟩ := hcut
                    have hq : (er == 0) = false := by simpa using hne
                    have HSF := Lib.hid (HS1.out.later HB.out)
                    clear hne
                    go_wp2
                    go_roundg (n - (i + 1))
                    case rel => exact ⟨i + 1, c, S, X, by go_num, by omega, by omega, HK.out.mono, HSF⟩
                    case measure => omega
              · obtain ⟨k, rfl, hk4⟩ : ∃ k : Nat, U = (k : Int) ∧ k < 4 := ⟨U.toNat, by omega, by omega⟩
                have HK4 := Lib.hid hk4
                have hk4I : (k : Int) < 4 := by omega
                have hk0 : (0 : Int) ≤ k := by omega
                have hkb : ((k : Int) == 4) = false := by simp; omega
                clear hUf0 hUf4 hU4 hk4
                have k2 := (HDC.out W1 HS1.out.bel).2.2
                obtain ⟨D, hD⟩ : ∃ D, D = progC c bn k (List.replicate 5 x) := ⟨_, rfl⟩
                obtain ⟨er, her⟩ : ∃ er, er = progE c bn k (List.replicate 5 x) := ⟨_, rfl⟩
                have HPR : Hid (∀ V v u, RdC V v c → RdB V u (List.replicate 5 x) → Calls Try.prog 8 #[v, .int .i64 (bn : Int), .int .i64 (k : Int), u] V (ChipPost V D er)) := fun V v u h1 h2 => by
                  rw [hD, her]; exact program_any c HK.out.small _ v u bn k V h1 h2
                have HFA : Hid ((c.off = true → D = c) ∧ (c.off = false → D.ops = c.ops + 1 ∧ Kp D (i + 1 + 1) (S.set (bn * 4 + k) (er == 0)) (X.set (bn * 4 + k) x))) := by
                  rw [hD, her]; exact HK.out.prog (by omega) HBN.out HK4.out HU.out.symm x
                unfold ChipPost at HPR
                clear hD her
                go_upto_region 23 with fail
                clear c2 cu
                go_still_tail 25, (by kernel_rfl)
                change wpList _ _ _ _ _ W1.drew
                go_upto_region 24 with fail
                have hb5 := five_below W1 x
                have hu5 := five_rd W1 x
                unfold five at hb5 hu5
                obtain ⟨W5, hW5⟩ : ∃ W5, W5 = (W1.alloc (.cells #[.int .u8 (x.toNat : Int), .int .u8 (x.toNat : Int), .int .u8 (x.toNat : Int), .int .u8 (x.toNat : Int), .int .u8 (x.toNat : Int)] 5)).drew := ⟨_, rfl⟩
                rw [← hW5] at hb5 hu5 ⊢
                have ld := LD1.out W5 hb5
                have HB5 := Lib.hid hb5
                have HU5 := Lib.hid hu5
                clear hW5 k2 hb5 hu5
                go_wp2_with fail
                refine (HPR.out W5 _ _ (RD1.out.later HB5.out) HU5.out).mono ?_
                rintro e w6 ⟨v6, rfl, hr6, hb6⟩
                obtain ⟨A6, W6, hv6, st6, hw6, hb6'⟩ := bx_make hr6
                subst hv6
                have hb61 : Below W1.heap.size W1 W6 := HB5.out.trans ((hb6.trans (hb6'.mono hb6.size)).mono HB5.out.size)
                have HS6 := Lib.hid (HS1.out.later hb61)
                have HX6 := Lib.hid (X1.out.later hb61)
                have HD6 := Lib.hid hw6
                have HN6 : Hid (w6.heap.size ≠ B5) := by
                  have h1 := HS1.out.box.lt
                  have h2 := HB5.out.size
                  have h3 := hb6.size
                  show _ ≠ _; omega
                obtain ⟨-, -, -, -, -, -, -, -, o4⟩ := HX6.out.cells
                unfold zc at st6
                clear hr6 hb6 hw6 hb6' hb61 ld
                cases hoff : c.off with
                | true =>
                  as_aux_lemma =>
                    have HDC2 : Hid (D = c) := HFA.out.1 hoff
                    obtain ⟨A7, -, -, hrn7, -, hld7, -, -, -⟩ := HD6.out.cells
                    have ld7 := hld7 W6 (Below.refl _ _)
                    obtain ⟨A8, W7, hv8, st7, hs7, hk7, -⟩ := HS6.out.put hrn7
                    simp only [Value.agg.injEq] at hv8
                    subst hv8
                    have HS7 := Lib.hid hs7
                    have HX7 := Lib.hid (hk7 B11 c HNE.out HX6.out)
                    rw [hoff] at o4
                    have HOF := Lib.hid hoff
                    clear hrn7 hld7 hs7 hk7 hoff
                    go_wp2_with fail
                    go_meet
                    exact ⟨D, S, X, by show Kp _ _ _ _; rw [HDC2.out]; exact HK.out.mono, HS7, HX7, fun _ _ => HDC2.out, by rw [HDC2.out]; omega, by rw [HDC2.out]; omega⟩
                | false =>
                  rw [hoff] at o4
                  obtain ⟨hop, hkp⟩ := HFA.out.2 hoff
                  have HOP := Lib.hid hop
                  have HKP := Lib.hid hkp
                  have HOF := Lib.hid hoff
                  clear hop hkp hoff
                  go_upto_region 26 with fail
                  clear st6 o4
                  obtain ⟨b7, hb7⟩ : ∃ b, S[bn * 4 + k]? = some b := ⟨_, List.getElem?_eq_getElem (by rw [HK.out.sl]; have := HBN.out; have := HK4.out; omega)⟩
                  obtain ⟨x8, hx8⟩ : ∃ b, X[bn * 4 + k]? = some b := ⟨_, List.getElem?_eq_getElem (by rw [HK.out.hl]; have := HBN.out; have := HK4.out; omega)⟩
                  have c7 := HS6.out.cell7 hb7
                  have f7 := HS6.out.fr7 (bn * 4 + k)
                  have c8 := (HS6.out.set7 (bn * 4 + k) (er == 0)).cell8 hx8
                  have f8 := (HS6.out.set7 (bn * 4 + k) (er == 0)).fr8 (bn * 4 + k)
                  have k2 := (HDC.out W6 HS6.out.bel).2.2
                  have k2' := (HDC.out _ (HS6.out.set7 (bn * 4 + k) (er == 0)).bel).2.2
                  clear hb7 hx8
                  go_region
                  have hs8 := ((HS6.out.set7 (bn * 4 + k) (er == 0)).set8 (bn * 4 + k) x).later ((Below.refl _ _).drew)
                  have hx8 := (Bx.set8 (HS6.out.set7 (bn * 4 + k) (er == 0)) (Bx.set7 HS6.out HX6.out (bn * 4 + k) (.bool (er == 0))) (bn * 4 + k) (.int .u8 (x.toNat : Int))).later ((Below.refl _ _).drew)
                  have hd8 := (Bx.set8 (HS6.out.set7 (bn * 4 + k) (er == 0)) (Bx.set7 HS6.out HD6.out (bn * 4 + k) (.bool (er == 0))) (bn * 4 + k) (.int .u8 (x.toNat : Int))).later ((Below.refl _ _).drew)
                  obtain ⟨W8, hW8⟩ : ∃ W8, W8 = ((W6.setCell ⟨B7, bn * 4 + k, none⟩ (.bool (er == 0))).setCell ⟨B7 + 1, bn * 4 + k, none⟩ (.int .u8 (x.toNat : Int))).drew := ⟨_, rfl⟩
                  rw [← hW8] at hs8 hx8 hd8 ⊢
                  as_aux_lemma =>
                    obtain ⟨A7, -, -, hrn7, -, hld7, -, -, -⟩ := hd8.cells
                    have ld7 := hld7 W8 (Below.refl _ _)
                    obtain ⟨A8, W7, hv8, st7, hs7, hk7, -⟩ := hs8.put hrn7
                    simp only [Value.agg.injEq] at hv8
                    subst hv8
                    have HS7 := Lib.hid hs7
                    have HX7 := Lib.hid (hk7 B11 c HNE.out hx8)
                    clear hs8 hx8 hd8 hW8 hrn7 hld7 hs7 hk7 c7 f7 c8 f8 k2 k2'
                    go_wp2_with fail
                    go_meet
                    exact ⟨D, _, _, HKP, HS7, HX7, fun h => absurd (h.symm.trans HOF.out) (by decide), by rw [HOP.out]; omega, by rw [HOP.out]; omega⟩
          · by_cases h2 : (kd : Int) % 4 = 2
            · as_aux_lemma =>
                have HK3 : Hid (¬ (kd : Int) % 4 = 3) := by show ¬ _; omega
                obtain ⟨D, hD⟩ : ∃ D, D = eraseC c bn := ⟨_, rfl⟩
                obtain ⟨er, her⟩ : ∃ er, er = eraseE c bn := ⟨_, rfl⟩
                have HER : Hid (∀ V v, RdC V v c → Calls Try.prog 9 #[v, .int .i64 (bn : Int)] V (ChipPost V D er)) := fun V v h1 => by
                  rw [hD, her]; exact erase_any c HK.out.small v bn V h1
                have HFA : Hid ((c.off = true → D = c) ∧ (c.off = false → D.ops = c.ops + 1 ∧ (blkAt D bn).worn = (blkAt c bn).worn + 1 ∧ Kp D (i + 1 + 1) (fillRow S bn (er == 0) 4) (fillRow X bn 255 4))) := by
                  rw [hD, her]; exact HK.out.erase (by omega) HBN.out
                unfold ChipPost at HER
                have ld := LD1.out W1 (Below.refl _ _)
                clear h01 hD her
                go_wp2_with fail
                refine (HER.out W1 _ RD1.out).mono ?_
                rintro e w6 ⟨v6, rfl, hr6, hb6⟩
                obtain ⟨A6, W6, hv6, st6, hw6, hb6'⟩ := bx_make hr6
                subst hv6
                have hb61 : Below W1.heap.size W1 W6 := hb6.trans (hb6'.mono hb6.size)
                have HS6 := Lib.hid (HS1.out.later hb61)
                have HX6 := Lib.hid (X1.out.later hb61)
                have HD6 := Lib.hid hw6
                obtain ⟨-, -, -, -, -, -, -, -, o4⟩ := HX6.out.cells
                unfold zc at st6
                clear hr6 hb6 hw6 hb6' hb61 ld
                cases hoff : c.off with
                | true =>
                  as_aux_lemma =>
                    have HDC2 : Hid (D = c) := HFA.out.1 hoff
                    obtain ⟨A7, -, -, hrn7, -, hld7, -, -, -⟩ := HD6.out.cells
                    have ld7 := hld7 W6 (Below.refl _ _)
                    obtain ⟨A8, W7, hv8, st7, hs7, hk7, -⟩ := HS6.out.put hrn7
                    simp only [Value.agg.injEq] at hv8
                    subst hv8
                    have HS7 := Lib.hid hs7
                    have HX7 := Lib.hid (hk7 B11 c HNE.out HX6.out)
                    rw [hoff] at o4
                    have HOF := Lib.hid hoff
                    clear hrn7 hld7 hs7 hk7 hoff
                    go_wp2_with fail
                    go_meet
                    exact ⟨D, S, X, by show Kp _ _ _ _; rw [HDC2.out]; exact HK.out.mono, HS7, HX7, fun _ _ => HDC2.out, by rw [HDC2.out]; omega, by rw [HDC2.out]; omega⟩
                | false =>
                  as_aux_lemma =>
                    rw [hoff] at o4
                    obtain ⟨hop, hwo, hkp⟩ := HFA.out.2 hoff
                    have HOP := Lib.hid hop
                    have HWO := Lib.hid hwo
                    have HKP := Lib.hid hkp
                    have HOF := Lib.hid hoff
                    clear hop hkp hoff hwo
                    go_upto_region 31 with fail
                    clear st6 o4
                    obtain ⟨B18, hB18⟩ : ∃ B18, B18 = w6.heap.size := ⟨_, rfl⟩
                    rw [← hB18] at HD6 ⊢
                    clear hB18
                    go_wp2
                    go_loopg [20] 4 (fun k t wr => ∃ q : Nat, t = .int .i64 q ∧ q + k = 4 ∧ Hid (St w B5 B7 (B7 + 1) c (fillRow S bn (er == 0) q) (fillRow X bn 255 q) wr) ∧ Hid (Bx wr B11 c) ∧ Hid (Bx wr B18 D))
                    case atStart => exact ⟨0, rfl, rfl, HS6, HX6, HD6⟩
                    case round =>
                      as_aux_lemma =>
                        obtain ⟨q, rfl, hqk, HSR, HXR, HDR⟩ := hrel
                        obtain ⟨wo, hwo⟩ : ∃ wo, wo = wr := ⟨_, rfl⟩
                        subst hwo
                        by_cases hq : q < 4
                        · have hqI : (q : Int) < 4 := by omega
                          have hq0 : (0 : Int) ≤ q := by omega
                          obtain ⟨b7, hb7⟩ : ∃ b, (fillRow S bn (er == 0) q)[bn * 4 + q]? = some b := ⟨_, List.getElem?_eq_getElem (by rw [fillRow_length, HK.out.sl]; have := HBN.out; omega)⟩
                          obtain ⟨x8, hx8⟩ : ∃ b, (fillRow X bn 255 q)[bn * 4 + q]? = some b := ⟨_, List.getElem?_eq_getElem (by rw [fillRow_length, HK.out.hl]; have := HBN.out; omega)⟩
                          have c7 := HSR.out.cell7 hb7
                          have f7 := HSR.out.fr7 (bn * 4 + q)
                          have c8 := (HSR.out.set7 (bn * 4 + q) (er == 0)).cell8 hx8
                          have f8 := (HSR.out.set7 (bn * 4 + q) (er == 0)).fr8 (bn * 4 + q)
                          clear hb7 hx8
                          go_upto_region 34 with fail
                          go_region
                          have hs8 := ((HSR.out.set7 (bn * 4 + q) (er == 0)).set8 (bn * 4 + q) 255).later ((Below.refl _ _).drew)
                          have hx8 := (Bx.set8 (HSR.out.set7 (bn * 4 + q) (er == 0)) (Bx.set7 HSR.out HXR.out (bn * 4 + q) (.bool (er == 0))) (bn * 4 + q) (.int .u8 255)).later ((Below.refl _ _).drew)
                          have hd8 := (Bx.set8 (HSR.out.set7 (bn * 4 + q) (er == 0)) (Bx.set7 HSR.out HDR.out (bn * 4 + q) (.bool (er == 0))) (bn * 4 + q) (.int .u8 255)).later ((Below.refl _ _).drew)
                          have hs9 : St w B5 B7 (B7 + 1) c (fillRow S bn (er == 0) (q + 1)) (fillRow X bn 255 (q + 1)) ((wo.setCell ⟨B7, bn * 4 + q, none⟩ (.bool (er == 0))).setCell ⟨B7 + 1, bn * 4 + q, none⟩ (.int .u8 255)).drew := hs8
                          obtain ⟨W8, hW8⟩ : ∃ W8, W8 = ((wo.setCell ⟨B7, bn * 4 + q, none⟩ (.bool (er == 0))).setCell ⟨B7 + 1, bn * 4 + q, none⟩ (.int .u8 255)).drew := ⟨_, rfl⟩
                          rw [← hW8] at hs9 hx8 hd8 ⊢
                          have HS9 := Lib.hid hs9
                          have HX8 := Lib.hid hx8
                          have HD8 := Lib.hid hd8
                          clear hs8 hx8 hd8 hs9 hW8 c7 f7 c8 f8
                          go_wp2
                          go_roundg (4 - (q + 1))
                          case rel => exact ⟨q + 1, by go_num, by omega, HS9, HX8, HD8⟩
                          case measure => omega
                        · obtain rfl : q = 4 := by omega
                          as_aux_lemma =>
                            go_upto_region 35 with fail
                            obtain ⟨b1, o1, k1, e2, -, e4⟩ := HDR.out.blk (i := bn) (by rw [HKP.out.three]; exact HBN.out)
                            obtain ⟨b2, o2, k2, g2, -, g4⟩ := HXR.out.blk (i := bn) (by rw [HK.out.three]; exact HBN.out)
                            obtain ⟨wn, hwn⟩ : ∃ wn, wn = (blkAt c bn).worn := ⟨_, rfl⟩
                            have hwb : 0 ≤ wn ∧ wn ≤ 1000 := by have := (HK.out.fit HBN.out).2.2.2.1; omega
                            obtain ⟨hw0, hw1⟩ := hwb
                            rw [HWO.out, ← hwn] at e4
                            rw [← hwn] at g4
                            rw [HKP.out.three] at e2
                            rw [HK.out.three] at g2
                            clear hwn
                            have e2 := fun (d : Nat) (os : Array Obj) => cell_regrown e2 d os
                            have e4 := fun (d : Nat) (os : Array Obj) => cell_regrown e4 d os
                            have g2 := fun (d : Nat) (os : Array Obj) => cell_regrown g2 d os
                            have g4 := fun (d : Nat) (os : Array Obj) => cell_regrown g4 d os
                            refine wp_region_quiet_below (by kernel_rfl) (by kernel_rfl) ?_
                            repeat (go_big_quiet_step (fail))
                            refine wpQuiet_nil fun wz hwz => ?_
                            have hbz : Below wo.heap.size wo wz := by
                              obtain ⟨p, rfl⟩ := hwz
                              exact below_regrown wo p.d p.os
                            have hsz := HSR.out.later hbz
                            have hxz := HXR.out.later hbz
                            have hdz := HDR.out.later hbz
                            obtain ⟨A7, -, -, hrn7, -, hld7, -, -, -⟩ := hdz.cells
                            have ld7 := hld7 wz (Below.refl _ _)
                            obtain ⟨A8, W7, hv8, st7, hs7, hk7, -⟩ := hsz.put hrn7
                            simp only [Value.agg.injEq] at hv8
                            subst hv8
                            have HS7 := Lib.hid hs7
                            have HX7 := Lib.hid (hk7 B11 c HNE.out hxz)
                            clear hsz hxz hdz hbz hwz hrn7 hld7 hs7 hk7 e2 e4 g2 g4
                            go_wp2_with fail
                            go_meet
                            exact ⟨D, _, _, HKP, HS7, HX7, fun h => absurd (h.symm.trans HOF.out) (by decide), by rw [HOP.out]; omega, by rw [HOP.out]; omega⟩
            · as_aux_lemma =>
                have h3 : (kd : Int) % 4 = 3 := by omega
                have ld := LD1.out W1 (Below.refl _ _)
                clear h01 h2
                go_wp2_with fail
                refine (HON.out c (i + 1) S X HK.out (by omega) W1 _ HS1.out.bel RD1.out).mono ?_
                rintro e w6 ⟨v6, er, rfl, hr6, hb6⟩
                obtain ⟨A8, W7, hv8, st7, hs7, hk7, -⟩ := (HS1.out.later hb6).put hr6
                subst hv8
                have HS7 := Lib.hid hs7
                have HX7 := Lib.hid (hk7 B11 c HNE.out (X1.out.later hb6))
                have HO := Lib.hid (HK.out.on (fs := fs) (by omega) (by rw [← HM.out]; omega))
                clear hr6 hb6 hs7 hk7 ld
                go_wp2_with fail
                go_meet
                exact ⟨onC c fs, S, X, HO.out.2.2, HS7, HX7, fun _ h => absurd h3 h, by rw [HO.out.1]; omega, by rw [HO.out.1]; omega⟩
        case rest =>
          as_aux_lemma =>
            obtain ⟨c', S', X', HK', HS', HW', HX'⟩ := hcut
            obtain ⟨Wp, hWp⟩ : ∃ Wp, Wp = wc := ⟨_, rfl⟩
            subst hWp
            go_upto_region 38 with fail
            obtain ⟨A', vb', hrd', -, -, hld', -, o3', o4'⟩ := HS'.out.box.cells
            obtain ⟨A0, vb0, hrd0, -, -, hld0, -, o3, o4⟩ := HW'.out.cells
            have R' := Lib.hid hrd'
            have R0 := Lib.hid hrd0
            have L' := Lib.hid hld'
            have L0 := Lib.hid hld0
            have O' := Lib.hid o4'
            clear hrd' hrd0 hld' hld0
            go_cut [220] from 46 to 272 (fun t wx => t = .bool false ∧ Hid (Below Wp.heap.size Wp wx))
            case first =>
              as_aux_lemma =>
                clear o4'
                obtain ⟨o, ho⟩ : ∃ o, o = c.ops := ⟨_, rfl⟩
                obtain ⟨o', ho'⟩ : ∃ o', o' = c'.ops := ⟨_, rfl⟩
                rw [← ho] at o3
                rw [← ho'] at o3'
                have hb1 : o ≤ o' := by rw [ho, ho']; exact HX'.out.2.1
                have hb2 : o' ≤ o + 1 := by rw [ho, ho']; exact HX'.out.2.2
                have hb3 : 0 ≤ o := by rw [ho]; exact HK.out.ops0
                have hb4 : o ≤ 200 := by rw [ho]; have := HK.out.opsi; omega
                have j0 := (HDC.out Wp HS'.out.bel).1
                have HO := Lib.hid ho
                have HO' := Lib.hid ho'
                clear ho ho'
                cases hoff : c.off with
                | false =>
                  rw [hoff] at o4
                  clear hoff
                  go_wp2
                  go_meet
                  exact ⟨by rw [decide_eq_false (by omega), decide_eq_false (by omega)]; rfl, Below.refl _ _⟩
                | true =>
                  by_cases hk3 : (kd : Int) % 4 = 3
                  · rw [hoff] at o4
                    clear hoff
                    go_wp2
                    go_meet
                    exact ⟨by rw [decide_eq_false (by omega), decide_eq_false (by omega)]; rfl, Below.refl _ _⟩
                  · have HCC : Hid (c' = c) := HX'.out.1 hoff hk3
                    have hq : ((kd : Int) % 4 != 3) = true := by simpa using hk3
                    rw [hoff] at o4
                    have ld1 := L'.out Wp (Below.refl _ _)
                    have ld0 := L0.out Wp (Below.refl _ _)
                    clear hoff hk3
                    go_wp2_with fail
                    refine (same_yes c HK.out.small _ _ Wp (by have := R'.out; rw [HCC.out] at this; exact this) R0.out).mono ?_
                    rintro e w9 ⟨rfl, hb9⟩
                    have HB9 := Lib.hid hb9
                    have p3 := keep_cell o3 hb9
                    have p3' := keep_cell o3' hb9
                    clear hb9 o3 o3' ld1 ld0 j0
                    go_wp2
                    go_meet
                    exact ⟨by rw [decide_eq_false (by omega), decide_eq_false (by omega)]; rfl, HB9⟩
            case rest =>
              as_aux_lemma =>
                obtain ⟨rfl, HB9⟩ := hcut
                clear o3 o3' o4 o4' R0 L0
                obtain ⟨Wq, hWq⟩ : ∃ Wq, Wq = wc := ⟨_, rfl⟩
                subst hWq
                go_wp2
                go_loopg [21] 4 (fun k t wr => ∃ q : Nat, t = .int .i64 q ∧ q + k = 4 ∧ Hid (Below Wp.heap.size Wp wr))
                case atStart => exact ⟨0, rfl, rfl, HB9⟩
                case round =>
                  as_aux_lemma =>
                    obtain ⟨q, rfl, hq4, HBR⟩ := hrel
                    obtain ⟨wo, hwo⟩ : ∃ wo, wo = wr := ⟨_, rfl⟩
                    subst hwo
                    have HSO := Lib.hid (HS'.out.later HBR.out)
                    have o4 := keep_cell O'.out HBR.out
                    cases hoff : c'.off with
                    | true =>
                      as_aux_lemma =>
                        rw [hoff] at o4
                        clear hoff
                        by_cases hq : q < 4
                        · have hqI : (q : Int) < 4 := by omega
                          go_wp2
                          go_roundg (n - (i + 1))
                          case rel => exact ⟨i + 1, c', S', X', by go_num, by omega, by omega, HK', HSO⟩
                          case measure => omega
                        · have hqI : ¬ (q : Int) < 4 := by omega
                          go_wp2
                          go_roundg (n - (i + 1))
                          case rel => exact ⟨i + 1, c', S', X', by go_num, by omega, by omega, HK', HSO⟩
                          case measure => omega
                    | false =>
                      by_cases hq : q < 4
                      · have HOF := Lib.hid hoff
                        rw [hoff] at o4
                        have hqI : (q : Int) < 4 := by omega
                        have hq0 : (0 : Int) ≤ q := by omega
                        have ld1 := L'.out wo HBR.out
                        clear hoff
                        go_wp2_with fail
                        refine (HRD.out c' _ _ _ HK'.out (by omega) HOF.out bn q HBN.out hq wo _ (R'.out.later HBR.out)).mono ?_
                        rintro e w9 ⟨v9, rfl, hr9, hb9⟩
                        as_aux_lemma =>
                          clear ld1 o4
                          obtain ⟨-, -, hl5⟩ := HK'.out.read (k := q) (by omega) HBN.out hq HOF.out
                          obtain ⟨g, cap, rfl, hcg⟩ := own5 hr9 hl5
                          obtain ⟨y0, hy0⟩ : ∃ y, (pageAt (blkAt c' bn) q)[0]? = some y := ⟨_, List.getElem?_eq_getElem (by omega)⟩
                          obtain ⟨y4, hy4⟩ : ∃ y, (pageAt (blkAt c' bn) q)[4]? = some y := ⟨_, List.getElem?_eq_getElem (by omega)⟩
                          obtain ⟨b, hb⟩ : ∃ b, S'[bn * 4 + q]? = some b := ⟨_, List.getElem?_eq_getElem (by rw [HK'.out.sl]; have := HBN.out; omega)⟩
                          obtain ⟨x, hx⟩ : ∃ x, X'[bn * 4 + q]? = some x := ⟨_, List.getElem?_eq_getElem (by rw [HK'.out.hl]; have := HBN.out; omega)⟩
                          have HS9 := HSO.out.later hb9
                          have k7 := fun (d : Nat) (os : Array Obj) => cell_regrown (HS9.cell7 hb) d os
                          have k8 := fun (d : Nat) (os : Array Obj) => cell_regrown (HS9.cell8 hx) d os
                          have g0 := fun (d : Nat) (os : Array Obj) => cell_regrown (hcg 0 y0 hy0) d os
                          have g4 := fun (d : Nat) (os : Array Obj) => cell_regrown (hcg 4 y4 hy4) d os
                          have HB9' := Lib.hid hb9
                          have HSB := Lib.hid hb
                          have HSX := Lib.hid hx
                          have HY0 := Lib.hid hy0
                          have HY4 := Lib.hid hy4
                          clear hr9 hb9 hcg hb hx hy0 hy4 HS9 hl5
                          have hr : b = true → y0 = x ∧ y4 = x := fun h => by
                            obtain ⟨x', h1, h2⟩ := HK'.out.sure bn q HBN.out hq (by rw [HSB.out, h])
                            rw [HSX.out] at h1
                            cases h1
                            have e0 := HY0.out
                            have e4 := HY4.out
                            rw [h2] at e0 e4
                            simp at e0 e4
                            exact ⟨e0.symm, e4.symm⟩
                          cases b with
                          | false =>
                            as_aux_lemma =>
                              clear hr
                              go_wp2
                              refine wp_region_quiet_below (by kernel_rfl) (by kernel_rfl) ?_
                              repeat (go_big_quiet_step (fail))
                              refine wpQuiet_nil fun wz hwz => ?_
                              have HBZ : Hid (Below w9.heap.size w9 wz) := by
                                obtain ⟨p, rfl⟩ := hwz
                                exact below_regrown w9 p.d p.os
                              have HBN2 : Hid (Below Wp.heap.size Wp wz) := HBR.out.trans ((HB9'.out.trans (HBZ.out.mono HB9'.out.size)).mono HBR.out.size)
                              clear hwz k7 k8 g0 g4
                              go_wp2
                              go_roundg (4 - (q + 1))
                              case rel => exact ⟨q + 1, by go_num, by omega, HBN2⟩
                              case measure => omega
                          | true =>
                            as_aux_lemma =>
                              obtain ⟨rfl, rfl⟩ := hr rfl
                              go_wp2
                              refine wp_region_quiet_below (by kernel_rfl) (by kernel_rfl) ?_
                              repeat (go_big_quiet_step (fail))
                              refine wpQuiet_nil fun wz hwz => ?_
                              have HBZ : Hid (Below w9.heap.size w9 wz) := by
                                obtain ⟨p, rfl⟩ := hwz
                                exact below_regrown w9 p.d p.os
                              have HBN2 : Hid (Below Wp.heap.size Wp wz) := HBR.out.trans ((HB9'.out.trans (HBZ.out.mono HB9'.out.size)).mono HBR.out.size)
                              clear hwz k7 k8 g0 g4
                              go_wp2
                              go_roundg (4 - (q + 1))
                              case rel => exact ⟨q + 1, by go_num, by omega, HBN2⟩
                              case measure => omega
                      · have hqI : ¬ (q : Int) < 4 := by omega
                        rw [hoff] at o4
                        clear hoff
                        go_wp2
                        go_roundg (n - (i + 1))
                        case rel => exact ⟨i + 1, c', S', X', by go_num, by omega, by omega, HK', HSO⟩
                        case measure => omega
      · have go : Hid (∀ wz, Below W.heap.size W wz → Below w.heap.size w wz) := fun wz hb => HS.out.bel.trans (hb.mono HS.out.bel.size)
        by_cases hltn : i < n
        · have hltI : (i : Int) < n := by omega
          have hlt1I : ¬ (i : Int) < 100 := by omega
          clear hlt hltn
          go_wp2_with fail
          refine (HRT.out c (i + 1) S X HK.out (by omega) W _ RD.out).mono ?_
          rintro e w9 ⟨rfl, hb9⟩
          have HB9 := Lib.hid hb9
          clear hb9 ld
          go_wp2
          go_ret
          exact ⟨rfl, go.out _ HB9.out⟩
        · have hltI : ¬ (i : Int) < n := by omega
          clear hlt hltn
          go_wp2_with fail
          refine (HRT.out c (i + 1) S X HK.out (by omega) W _ RD.out).mono ?_
          rintro e w9 ⟨rfl, hb9⟩
          have HB9 := Lib.hid hb9
          clear hb9 ld
          go_wp2
          go_ret
          exact ⟨rfl, go.out _ HB9.out⟩
  · have h60I : (60 : Int) < m := by omega
    clear h60
    go_enter Try.func3, Try.ntmps3
    go_wp2_with fail
    refine (HAW.out w).mono ?_
    rintro e w1 ⟨rfl, hb1⟩
    have H1 := Lib.hid hb1
    clear hb1
    go_wp2_with fail
    refine (HNEW.out w1).mono ?_
    rintro e w2 ⟨v2, rfl, hr2, hb2⟩
    obtain ⟨A2, W2, hv2, st2, -, -, ha2, -⟩ := box_make hr2
    subst hv2
    have hb2w : Below w.heap.size w w2 := H1.out.trans (hb2.mono H1.out.size)
    have H2 : Hid (Below w.heap.size w W2) := hb2w.trans (ha2.mono hb2w.size)
    unfold zc at st2
    clear hr2 hb2 ha2 hb2w
    go_wp2
    go_ret
    exact ⟨rfl, H2.out⟩
end Go.Proofs.Ytilgppijmkcomaa.chipKeeps
