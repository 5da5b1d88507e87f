/- The statement ChipStill, walked: every call of it hands back true. -/
import Derived.Test.YtilgppijmkcomaaChipAwake
import Derived.Test.YtilgppijmkcomaaCStillP
import Derived.Deep.CutRange
namespace Go.Proofs.Ytilgppijmkcomaa.chipStill
open Go.RowKit Go.Sort Go.Shelf Go.Proofs.Ytilgppijmkcomaa.Chip
attribute [local go_sem ↓] loadVar_chip storeVar_chip loadVar_blk text_bytes ne_text

/-- A block of a chip in a box: where it is, in every later world. -/
theorem box_blk {W : World} {B : Nat} {A : Array Value} {c : Chp} (hX : Box W B A) (hN : RdC W (.agg A) c) {i : Nat} {b : Blk} (hi : c.blocks[i]? = some b) : ∃ bb bo cb x, RdP W x b.pages ∧ ∀ V, Below W.heap.size W V → V.cell? ⟨B, 2, none⟩ = some (.slice (some ⟨bb, bo, none⟩) c.blocks.length cb) ∧ V.cell? ⟨B, 3, none⟩ = some (.int .i64 c.ops) ∧ (blkLoad ⟨bb, bo + i * 4, none⟩).run Try.prog V = .ok (blkV x b) V ∧
    V.cell? ⟨bb, bo + i * 4, none⟩ = some x ∧ V.cell? ⟨bb, bo + i * 4 + 1, none⟩ = some (.int .i64 b.used) ∧ V.cell? ⟨bb, bo + i * 4 + 2, none⟩ = some (.int .i64 b.worn) ∧ V.cell? ⟨bb, bo + i * 4 + 3, none⟩ = some (.bool b.bad) := by
  obtain ⟨vb, vf, hA, hK, -⟩ := hN
  simp only [chipV_cells, Value.agg.injEq] at hA
  obtain ⟨bb, bo, cb, x, hv, hx, -, c0, c1, c2, c3⟩ := at_blk hK hi
  subst hv
  refine ⟨bb, bo, cb, x, hx, fun V hV => ⟨?_, ?_, blk_keep hK hi c0 hV, keep_cell c0 hV, keep_cell c1 hV, keep_cell c2 hV, keep_cell c3 hV⟩⟩
  · rw [(hX.later hV).cell, hA]; rfl
  · rw [(hX.later hV).cell, hA]; rfl

set_option maxHeartbeats 8000000 in
set_option maxRecDepth 100000 in
theorem walk (c : Chp) (v u : Value) (block page : Int) (p : List UInt8) (w : World) (hR : RdC w v c) (hU : RdB w u p) :
    Calls Try.prog 4 #[v, .int .i64 block, .int .i64 page, u] w fun e w' => e = .returned (.bool true) ∧ Below w.heap.size w w' := by
  obtain ⟨va, vf, rfl, hK, hF⟩ := id hR
  obtain ⟨au, cu, hu, hul, hum⟩ := hU.len
  obtain ⟨aa, ca, hva, hal, ham⟩ := hK.len
  have hb0 : Below w.heap.size w (w.alloc (.cells (chipCells c va vf) 27)) := (Below.refl _ _).alloc (Nat.le_refl _) _
  have hx0 := Box.new w (chipCells c va vf)
  obtain ⟨W0, hW0⟩ : ∃ W0, W0 = w.alloc (.cells (chipCells c va vf) 27) := ⟨_, rfl⟩
  have HW0 := Lib.hid hW0
  rw [← hW0] at hb0 hx0
  have HB0 := Lib.hid hb0
  have HX0 := Lib.hid hx0
  have HR : Hid (RdC W0 (chipV c va vf) c) := hR.later hb0
  have HU : Hid (RdB W0 u p) := hU.later hb0
  have HAW := Lib.hid awake_any
  have hz0 : w.heap.size < W0.heap.size := hx0.lt
  have HZ0 := Lib.hid hz0
  have HSH : Hid (∀ V, Below W0.heap.size W0 V → Calls Try.prog 13 #[chipV c va vf] V fun e w' => e = .returned (.bool (shortB c)) ∧ Below V.heap.size V w') := fun V h => short_any c _ V (HR.out.later h)
  have HRT : Hid (∀ V, Below W0.heap.size W0 V → Calls Try.prog 12 #[chipV c va vf] V fun e w' => e = .returned (.bool (rightB c)) ∧ Below V.heap.size V w') := fun V h => right_any c _ V (HR.out.later h)
  obtain ⟨n, hn⟩ : ∃ n, n = c.blocks.length := ⟨_, rfl⟩
  obtain ⟨np, hnp⟩ : ∃ np, np = p.length := ⟨_, rfl⟩
  have HN := Lib.hid hn
  have HNP := Lib.hid hnp
  rw [← hn] at hva
  rw [← hnp] at hu
  unfold maxLen at hum ham
  have hn63 : (n : Int) ≤ 9223372036854775807 := by omega
  have hp63 : (np : Int) ≤ 9223372036854775807 := by omega
  have LD : Hid (∀ V, Below W0.heap.size W0 V → (chipLoad ⟨w.heap.size, 0, none⟩).run Try.prog V = .ok (chipV c va vf) V ∧ V.cell? ⟨w.heap.size, 2, none⟩ = some va ∧ V.cell? ⟨w.heap.size, 3, none⟩ = some (.int .i64 c.ops) ∧ V.cell? ⟨w.heap.size, 0, none⟩ = some (.int .i64 c.pages)) := fun V h =>
    ⟨(HX0.out.later h).load rfl, by rw [(HX0.out.later h).cell]; rfl, by rw [(HX0.out.later h).cell]; rfl, by rw [(HX0.out.later h).cell]; rfl⟩
  unfold chipCells at HW0
  unfold chipV at HSH HRT LD ⊢
  subst hu
  subst hva
  clear hK hF hR hU hW0 hb0 hx0 hn hnp hum ham hz0 hul hal
  cases hsh : shortB c with
  | false =>
    rw [hsh] at HSH
    clear hsh
    go_enter Try.func4, Try.ntmps4
    go_wp2_with fail
    rw [← HW0.out]
    refine (HAW.out W0).mono ?_
    rintro e w1 ⟨rfl, hb1⟩
    have ld := (LD.out w1 hb1).1
    have H1 := Lib.hid hb1
    clear hb1
    go_wp2_with fail
    refine (HSH.out w1 H1.out).mono ?_
    rintro e w2 ⟨rfl, hb2⟩
    have H2 : Hid (Below w.heap.size w w2) := HB0.out.trans ((H1.out.trans (hb2.mono H1.out.size)).mono (by have := HZ0.out; omega))
    clear hb2 ld
    go_wp2
    go_ret
    exact ⟨rfl, H2.out⟩
  | true =>
    have HSM : Hid (Small c) := short_small hsh
    rw [hsh] at HSH
    clear hsh
    by_cases h300 : np ≤ 300
    · have h300I : (np : Int) ≤ 300 := by omega
      cases hr : rightB c with
      | false =>
        rw [hr] at HRT
        clear hr
        go_enter Try.func4, Try.ntmps4
        go_wp2_with fail
        rw [← HW0.out]
        refine (HAW.out W0).mono ?_
        rintro e w1 ⟨rfl, hb1⟩
        have ld := (LD.out w1 hb1).1
        have H1 := Lib.hid hb1
        clear hb1
        go_wp2_with fail
        refine (HSH.out w1 H1.out).mono ?_
        rintro e w2 ⟨rfl, hb2⟩
        have H2 : Hid (Below W0.heap.size W0 w2) := H1.out.trans (hb2.mono H1.out.size)
        clear hb2 ld
        have ld := (LD.out w2 H2.out).1
        go_wp2_with fail
        refine (HRT.out w2 H2.out).mono ?_
        rintro e w3 ⟨rfl, hb3⟩
        have H3 : Hid (Below w.heap.size w w3) := HB0.out.trans ((H2.out.trans (hb3.mono H2.out.size)).mono (by have := HZ0.out; omega))
        clear hb3 ld
        go_wp2
        go_ret
        exact ⟨rfl, H3.out⟩
      | true =>
        have HRI := Lib.hid hr
        rw [hr] at HRT
        clear hr
        by_cases hbl : 0 ≤ block ∧ block < n
        · obtain ⟨i, rfl, hil, -⟩ := nat_of hbl.1 hbl.2
          have hilI : (i : Int) < n := by omega
          have hi0 : (0 : Int) ≤ i := by omega
          have HIL : Hid (i < c.blocks.length) := by have := HN.out; show i < _; omega
          obtain ⟨b, hbe⟩ : ∃ b, b = blkAt c i := ⟨_, rfl⟩
          have HBI : Hid (c.blocks[i]? = some b) := by show _ = _; rw [hbe]; exact blkAt_get HIL.out
          have HBE : Hid (blkAt c i = b) := hbe.symm
          obtain ⟨D, hD⟩ : ∃ D, D = progC c i page p := ⟨_, rfl⟩
          obtain ⟨G, hG⟩ : ∃ G, G = eraseC c i := ⟨_, rfl⟩
          obtain ⟨M, hM⟩ : ∃ M, M = markC c i := ⟨_, rfl⟩
          obtain ⟨ed, hed⟩ : ∃ ed, ed = progE c i page p := ⟨_, rfl⟩
          obtain ⟨eg, heg⟩ : ∃ eg, eg = eraseE c i := ⟨_, rfl⟩
          obtain ⟨em, hem⟩ : ∃ em, em = markE c i := ⟨_, rfl⟩
          have HPD : Hid (∀ V, Below W0.heap.size W0 V → Calls Try.prog 8 #[.agg #[.int .i64 c.pages, .int .i64 c.size, .slice aa n ca, .int .i64 c.ops, .bool c.off, vf], .int .i64 (i : Int), .int .i64 page, .slice au np cu] V (ChipPost V D ed)) := fun V h => by
            rw [hD, hed]; exact program_any c HSM.out p _ _ i page V (HR.out.later h) (HU.out.later h)
          have HPG : Hid (∀ V, Below W0.heap.size W0 V → Calls Try.prog 9 #[.agg #[.int .i64 c.pages, .int .i64 c.size, .slice aa n ca, .int .i64 c.ops, .bool c.off, vf], .int .i64 (i : Int)] V (ChipPost V G eg)) := fun V h => by
            rw [hG, heg]; exact erase_any c HSM.out _ i V (HR.out.later h)
          have HPM : Hid (∀ V, Below W0.heap.size W0 V → Calls Try.prog 14 #[.agg #[.int .i64 c.pages, .int .i64 c.size, .slice aa n ca, .int .i64 c.ops, .bool c.off, vf], .int .i64 (i : Int)] V (ChipPost V M em)) := fun V h => by
            rw [hM, hem]; exact mark_any c HSM.out _ i V (HR.out.later h)
          have FBAD : Hid (b.bad = true → D = c ∧ G = c) := fun h => by rw [hbe] at h; exact ⟨hD.trans (prog_bad h), hG.trans (erase_bad h)⟩
          have FOTH : Hid (∀ j, j ≠ i → D.blocks[j]? = c.blocks[j]? ∧ G.blocks[j]? = c.blocks[j]?) := fun j hj => by rw [hD, hG]; exact ⟨prog_other j hj, erase_other j hj⟩
          have FLEN : Hid (D.blocks.length = n ∧ G.blocks.length = n ∧ M.blocks.length = n) := by rw [hD, hG, hM, HN.out]; exact ⟨prog_len, erase_len, mark_len⟩
          have FPROG : Hid (ed = 0 → ∃ (k : Nat) (bD : Blk), page = (k : Int) ∧ (k : Int) < 16 ∧ D.blocks[i]? = some bD ∧ bD.pages[k]? = some p ∧ bD.used = (k : Int) + 1 ∧ D.ops = c.ops + 1 ∧ 0 ≤ c.ops ∧ c.ops < top) := fun h => by rw [hD]; exact prog_ok HIL.out (hed.symm.trans h)
          have FERASE : Hid (eg = 0 → ∃ bG, G.blocks[i]? = some bG ∧ bG.used = 0 ∧ bG.worn = b.worn + 1 ∧ 0 ≤ b.worn ∧ b.worn < top) := fun h => by rw [hG, hbe]; exact erase_ok HIL.out (heg.symm.trans h)
          have FPAGES : Hid (∃ bD, D.blocks[i]? = some bD ∧ bD.pages.length = b.pages.length ∧ ∀ q : Nat, (q : Int) ≠ page → bD.pages[q]? = b.pages[q]?) := by rw [hD]; exact prog_pages HBI.out
          have FMARK : Hid (em = 0 → ∃ bM, M.blocks[i]? = some bM ∧ bM.bad = true ∧ M.ops = c.ops) := fun h => by rw [hM]; exact mark_ok HIL.out (hem.symm.trans h)
          unfold ChipPost at HPD HPG HPM
          clear hbe hD hG hM hed heg hem hbl hil
          go_enter Try.func4, Try.ntmps4
          go_wp2_with fail
          rw [← HW0.out]
          refine (HAW.out W0).mono ?_
          rintro e w1 ⟨rfl, hb1⟩
          have ld := (LD.out w1 hb1).1
          have H1 := Lib.hid hb1
          clear hb1
          go_wp2_with fail
          refine (HSH.out w1 H1.out).mono ?_
          rintro e w2 ⟨rfl, hb2⟩
          have H2 : Hid (Below W0.heap.size W0 w2) := H1.out.trans (hb2.mono H1.out.size)
          clear hb2 ld
          have ld := (LD.out w2 H2.out).1
          go_wp2_with fail
          refine (HRT.out w2 H2.out).mono ?_
          rintro e w3 ⟨rfl, hb3⟩
          have H3 : Hid (Below W0.heap.size W0 w3) := H2.out.trans (hb3.mono H2.out.size)
          clear hb3 ld
          obtain ⟨ld, ld2, -⟩ := LD.out w3 H3.out
          go_wp2_with fail
          clear ld ld2
          refine (HPD.out w3 H3.out).mono ?_
          rintro e w4 ⟨v4, rfl, hr4, hb4⟩
          obtain ⟨Ad, W4, hv4, st4, hx4, hn4, ha4, hs4⟩ := box_make hr4
          subst hv4
          have hb4w := hb4.trans (ha4.mono hb4.size)
          have H4 : Hid (Below W0.heap.size W0 W4) := H3.out.trans (hb4w.mono H3.out.size)
          have X4 := Lib.hid hx4
          have N4 := Lib.hid hn4
          have S4 := Lib.hid hs4
          have ld := (LD.out W4 H4.out).1
          unfold zc at st4
          clear hr4 hb4 hx4 hn4 ha4 hs4 hb4w
          go_wp2_with fail
          clear ld st4
          refine (HPG.out W4 H4.out).mono ?_
          rintro e w5 ⟨v5, rfl, hr5, hb5⟩
          obtain ⟨Ag, W5, hv5, st5, hx5, hn5, ha5, hs5⟩ := box_make hr5
          subst hv5
          have hb5w := hb5.trans (ha5.mono hb5.size)
          have H5 : Hid (Below W0.heap.size W0 W5) := H4.out.trans (hb5w.mono H4.out.size)
          have X5 := Lib.hid hx5
          have N5 := Lib.hid hn5
          have S5 := Lib.hid hs5
          have Y5 := Lib.hid (X4.out.later hb5w)
          have K5 := Lib.hid (N4.out.oth (Oth.below hb5w))
          have ld := (LD.out W5 H5.out).1
          unfold zc at st5
          clear hr5 hb5 hx5 hn5 ha5 hs5 hb5w
          go_wp2_with fail
          clear ld st5
          refine (HPM.out W5 H5.out).mono ?_
          rintro e w6 ⟨v6, rfl, hr6, hb6⟩
          obtain ⟨Am, W6, hv6, st6, hx6, hn6, ha6, hs6⟩ := box_make hr6
          subst hv6
          have hb6w := hb6.trans (ha6.mono hb6.size)
          have H6 : Hid (Below W0.heap.size W0 W6) := H5.out.trans (hb6w.mono H5.out.size)
          have XM := Lib.hid hx6
          have NM := Lib.hid hn6.rd
          have SM := Lib.hid hs6
          have XG := Lib.hid (X5.out.later hb6w)
          have NG := Lib.hid (N5.out.oth (Oth.below hb6w)).rd
          have XD := Lib.hid (Y5.out.later hb6w)
          have ND := Lib.hid (K5.out.oth (Oth.below hb6w)).rd
          unfold zc at st6
          clear hr6 hb6 hx6 hn6 ha6 hs6 hb6w X4 N4 X5 N5 Y5 K5 H1 H2 H3 H4 H5
          obtain ⟨Bd, hBd⟩ : ∃ Bd, Bd = w4.heap.size := ⟨_, rfl⟩
          obtain ⟨Bg, hBg⟩ : ∃ Bg, Bg = w5.heap.size := ⟨_, rfl⟩
          obtain ⟨Bm, hBm⟩ : ∃ Bm, Bm = w6.heap.size := ⟨_, rfl⟩
          rw [← hBd] at XD ⊢
          rw [← hBg] at XG ⊢
          rw [← hBm] at XM
          have HBm := Lib.hid hBm
          clear hBd hBg hBm
          have HSA : Hid (∀ V x y, RdC V x c → RdC V y c → Calls Try.prog 10 #[x, y] V fun e w' => e = .returned (.bool true) ∧ Below V.heap.size V w') := fun V x y h1 h2 => same_yes c HSM.out x y V h1 h2
          go_upto_region 8 with (fail)
          rw [← HBm.out]
          have RA6 : Hid (RdC W6 (chipV c (.slice aa n ca) vf) c) := HR.out.later H6.out
          have XA := Lib.hid (HX0.out.later H6.out)
          obtain ⟨ba, oa, cba, xa, hxa, hca⟩ := box_blk XA.out RA6.out HBI.out
          obtain ⟨bD, hbD, hDl, hDp⟩ := FPAGES.out
          rw [← HN.out] at hca
          have HCA := Lib.hid hca
          have HXA := Lib.hid hxa
          have HMK : Hid (em = 0 → ∃ bm om cm, ∀ V, Below W6.heap.size W6 V → V.cell? ⟨Bm, 2, none⟩ = some (.slice (some ⟨bm, om, none⟩) n cm) ∧ V.cell? ⟨Bm, 3, none⟩ = some (.int .i64 c.ops) ∧ V.cell? ⟨bm, om + i * 4 + 3, none⟩ = some (.bool true)) := fun h => by
            obtain ⟨bM, h1, h2, h3⟩ := FMARK.out h
            obtain ⟨bm, om, cm, x, -, hc⟩ := box_blk XM.out NM.out h1
            refine ⟨bm, om, cm, fun V hV => ?_⟩
            obtain ⟨k1, k2, -, -, -, -, k3⟩ := hc V hV
            rw [FLEN.out.2.2] at k1
            rw [h3] at k2
            rw [h2] at k3
            exact ⟨k1, k2, k3⟩
          clear hca hxa hbD hDl hDp
          go_cut [100] from 63 to 100 (fun t wx => t = .bool false ∧ Hid (Below W6.heap.size W6 wx))
          case first =>
            have R0 : Hid (Below W6.heap.size W6 W6) := Below.refl _ _
            cases hbad : b.bad with
            | true =>
              obtain ⟨hD, hG⟩ := FBAD.out hbad
              have nd := ND.out
              have ng := NG.out
              rw [hD] at nd
              rw [hG] at ng
              have ND' := Lib.hid nd
              have NG' := Lib.hid ng
              obtain ⟨k2, k3, -, -, -, -, kb⟩ := HCA.out W6 R0.out
              rw [hbad] at kb
              have l1 := XD.out.load S4.out
              have l0 : (chipLoad ⟨w.heap.size, 0, none⟩).run Try.prog W6 = .ok (.agg #[.int .i64 c.pages, .int .i64 c.size, .slice aa n ca, .int .i64 c.ops, .bool c.off, vf]) W6 := XA.out.load rfl
              clear nd ng hD hG hbad
              go_wp2_with fail
              clear l1 l0 k2 k3 kb
              refine (HSA.out _ _ _ ND'.out RA6.out).mono ?_
              rintro e wA ⟨rfl, hbA⟩
              have RA' := Lib.hid hbA
              have l1 := (XG.out.later hbA).load S5.out
              have l0 : (chipLoad ⟨w.heap.size, 0, none⟩).run Try.prog wA = .ok (.agg #[.int .i64 c.pages, .int .i64 c.size, .slice aa n ca, .int .i64 c.ops, .bool c.off, vf]) wA := (XA.out.later hbA).load rfl
              clear hbA
              go_wp2_with fail
              clear l1 l0
              refine (HSA.out _ _ _ (NG'.out.later RA'.out) (RA6.out.later RA'.out)).mono ?_
              rintro e wB ⟨rfl, hbB⟩
              have RB : Hid (Below W6.heap.size W6 wB) := RA'.out.trans (hbB.mono RA'.out.size)
              clear hbB
              by_cases hem : em = 0
              · obtain ⟨bm, om, cm, hm⟩ := HMK.out hem
                obtain ⟨m2, m3, m4⟩ := hm wB RB.out
                obtain ⟨k2, k3, -⟩ := HCA.out wB RB.out
                have hq : (em == 0) = true := by simpa using hem
                clear hm hem
                go_wp2
                go_meet
                exact ⟨rfl, RB⟩
              · have hq : (em == 0) = false := by simpa using hem
                clear hem
                go_wp2
                go_meet
                exact ⟨rfl, RB⟩
            | false =>
              obtain ⟨k2, k3, -, -, -, -, kb⟩ := HCA.out W6 R0.out
              rw [hbad] at kb
              clear hbad
              by_cases hem : em = 0
              · obtain ⟨bm, om, cm, hm⟩ := HMK.out hem
                obtain ⟨m2, m3, m4⟩ := hm W6 R0.out
                have hq : (em == 0) = true := by simpa using hem
                clear hm hem
                go_wp2
                go_meet
                exact ⟨rfl, R0⟩
              · have hq : (em == 0) = false := by simpa using hem
                clear hem
                go_wp2
                go_meet
                exact ⟨rfl, R0⟩
          case rest =>
            obtain ⟨rfl, HC8⟩ := hcut
            go_wp2
            go_loopw [15] (fun t wr => ∃ j : Nat, j ≤ n ∧ t = .int .i64 j ∧ Hid (Below W6.heap.size W6 wr)) (fun t _ => n - (intOf t).toNat)
            case atStart => exact ⟨0, Nat.zero_le _, rfl, HC8⟩
            case round =>
              obtain ⟨j, hj, rfl, HBR⟩ := hrel
              obtain ⟨wo, hwo⟩ : ∃ wo, wo = wr := ⟨_, rfl⟩
              subst hwo
              obtain ⟨kA, -⟩ := HCA.out wo HBR.out
              by_cases hlt : j < n
              · have hltI : (j : Int) < n := by omega
                have hj0 : (0 : Int) ≤ j := by omega
                by_cases hji : j = i
                · have hq : ((j : Int) != (i : Int)) = false := by rw [hji]; simp
                  clear hji
                  go_wp2
                  refine wp_region_quiet_below (by kernel_rfl) (by kernel_rfl) ?_
                  repeat (go_big_quiet_step (fail))
                  refine wpQuiet_nil fun w9 hw9 => ?_
                  have hb9 : Below wo.heap.size wo w9 := by
                    obtain ⟨p, rfl⟩ := hw9
                    exact below_regrown wo p.d p.os
                  have HB9 : Hid (Below W6.heap.size W6 w9) := HBR.out.trans (hb9.mono HBR.out.size)
                  clear hw9 hb9
                  clear kA hq
                  go_wp2
                  go_roundw
                  case rel => exact ⟨j + 1, by omega, by go_num, HB9⟩
                  case measure => simp [intOf]; omega
                · have hq : ((j : Int) != (i : Int)) = true := by simp; omega
                  obtain ⟨bj, hbj⟩ : ∃ bj, c.blocks[j]? = some bj := ⟨c.blocks[j]'(by rw [← HN.out]; exact hlt), List.getElem?_eq_getElem _⟩
                  obtain ⟨f1, f2⟩ := FOTH.out j hji
                  obtain ⟨bd, od, cd, xd, hxd, hcd⟩ := box_blk XD.out ND.out (f1.trans hbj)
                  obtain ⟨bg, og, cg, xg, hxg, hcg⟩ := box_blk XG.out NG.out (f2.trans hbj)
                  obtain ⟨bz, oz, cz, xz, hxz, hcz⟩ := box_blk XA.out RA6.out hbj
                  rw [FLEN.out.1] at hcd
                  rw [FLEN.out.2.1] at hcg
                  rw [← HN.out] at hcz
                  have hbl := (HSM.out.2.2 bj (List.mem_of_getElem? hbj)).1
                  have hV : ∀ (d : Nat) (os : Array Obj), Below W6.heap.size W6 (grow (redrawn wo d) os) := fun d os => HBR.out.trans ((below_regrown wo d os).mono HBR.out.size)
                  have k1 := fun (d : Nat) (os : Array Obj) => (hcd _ (hV d os)).1
                  have k2 := fun (d : Nat) (os : Array Obj) => (hcg _ (hV d os)).1
                  have k3 := fun (d : Nat) (os : Array Obj) => (hcz _ (hV d os)).1
                  have l1 := fun (d : Nat) (os : Array Obj) => (hcd _ (hV d os)).2.2.1
                  have l2 := fun (d : Nat) (os : Array Obj) => (hcg _ (hV d os)).2.2.1
                  have l3 := fun (d : Nat) (os : Array Obj) => (hcz _ (hV d os)).2.2.1
                  have C1 := fun (d : Nat) (os : Array Obj) => Calls.regrown_of (blocks_yes bj xd xz (grow (redrawn wo d) os) (hxd.later (hV d os)) (hxz.later (hV d os)) hbl)
                  have C2 := fun (d : Nat) (os : Array Obj) => Calls.regrown_of (blocks_yes bj xg xz (grow (redrawn wo d) os) (hxg.later (hV d os)) (hxz.later (hV d os)) hbl)
                  unfold blkV at l1 l2 l3 C1 C2
                  clear hji hbj f1 f2 hcd hcg hcz hxd hxg hxz hbl hV
                  go_wp2
                  refine wp_region_quiet_below (by kernel_rfl) (by kernel_rfl) ?_
                  repeat (go_big_quiet_step (first | (with_reducible exact C1 _ _) | (with_reducible exact C2 _ _)))
                  refine wpQuiet_nil fun w9 hw9 => ?_
                  have hb9 : Below wo.heap.size wo w9 := by
                    obtain ⟨p, rfl⟩ := hw9
                    exact below_regrown wo p.d p.os
                  have HB9 : Hid (Below W6.heap.size W6 w9) := HBR.out.trans (hb9.mono HBR.out.size)
                  clear hw9 hb9
                  clear kA hq k1 k2 k3 l1 l2 l3 C1 C2
                  go_wp2
                  go_roundw
                  case rel => exact ⟨j + 1, by omega, by go_num, HB9⟩
                  case measure => simp [intOf]; omega
              · obtain rfl : j = n := by omega
                go_upto_region 15 with (fail)
                clear kA
                go_cut [174] from 139 to 174 (fun t wx => t = .bool false ∧ Hid (Below W6.heap.size W6 wx))
                case first =>
                  by_cases hed : ed = 0
                  · obtain ⟨k, bD, hpk, hk16, hDi, hDk, hDu, hDo, ho0, hoT⟩ := FPROG.out hed
                    have hq : (ed == 0) = true := by simpa using hed
                    have hkl := (List.getElem?_eq_some_iff.1 hDk).1
                    obtain ⟨bd, od, cd, xd, hxd, hcd⟩ := box_blk XD.out ND.out hDi
                    rw [FLEN.out.1] at hcd
                    obtain ⟨bp, po, cp, y, hxv, cy, hy⟩ := at_pg hxd hDk
                    obtain ⟨m, hm⟩ : ∃ m, m = bD.pages.length := ⟨_, rfl⟩
                    rw [← hm] at hxv hkl
                    rw [hDu, hDo] at hcd
                    have hkI : (k : Int) < m := by omega
                    have hk0 : (0 : Int) ≤ k := by omega
                    have hw1 : IntKind.i64.wrap ((k : Int) + 1) = (k : Int) + 1 := by rw [IntKind.wrap_i64]; omega
                    unfold top at hoT
                    have hw2 : IntKind.i64.wrap (c.ops + 1) = c.ops + 1 := by rw [IntKind.wrap_i64]; omega
                    have hV : ∀ (d : Nat) (os : Array Obj), Below W6.heap.size W6 (grow (redrawn wo d) os) := fun d os => HBR.out.trans ((below_regrown wo d os).mono HBR.out.size)
                    have k1 := fun (d : Nat) (os : Array Obj) => (hcd _ (hV d os)).1
                    have k2 := fun (d : Nat) (os : Array Obj) => (hcd _ (hV d os)).2.1
                    have k3 := fun (d : Nat) (os : Array Obj) => (hcd _ (hV d os)).2.2.2.1
                    have k4 := fun (d : Nat) (os : Array Obj) => (hcd _ (hV d os)).2.2.2.2.1
                    have k5 := fun (d : Nat) (os : Array Obj) => keep_cell cy (hV d os)
                    have k6 := fun (d : Nat) (os : Array Obj) => (HCA.out _ (hV d os)).2.1
                    have t1 := fun (d : Nat) (os : Array Obj) => run_text (hy.later (hV d os))
                    have t2 := fun (d : Nat) (os : Array Obj) => run_text (HU.out.later (H6.out.trans ((hV d os).mono H6.out.size)))
                    have t3 : ∀ V : World, (textNe (.string (bs p)) (.string (bs p))).run Try.prog V = .ok (.bool false) V := fun V => by
                      have := run_textNe p p V
                      rw [decide_eq_true rfl] at this; exact this
                    subst hxv
                    subst hpk
                    clear hed hDi hDk hDu hDo hxd hcd cy hy hm hV
                    refine wp_region_quiet_below (by kernel_rfl) (by kernel_rfl) ?_
                    repeat (go_big_quiet_step (fail))
                    refine wpQuiet_nil fun w9 hw9 => ?_
                    have hb9 : Below wo.heap.size wo w9 := by
                      obtain ⟨p, rfl⟩ := hw9
                      exact below_regrown wo p.d p.os
                    have HB9 : Hid (Below W6.heap.size W6 w9) := HBR.out.trans (hb9.mono HBR.out.size)
                    clear hw9 hb9
                    clear k1 k2 k3 k4 k5 k6 t1 t2 t3 hq hw1 hw2
                    go_wp2
                    go_meet
                    exact ⟨rfl, HB9⟩
                  · have hq : (ed == 0) = false := by simpa using hed
                    clear hed
                    refine wp_region_quiet_below (by kernel_rfl) (by kernel_rfl) ?_
                    repeat (go_big_quiet_step (fail))
                    refine wpQuiet_nil fun w9 hw9 => ?_
                    have hb9 : Below wo.heap.size wo w9 := by
                      obtain ⟨p, rfl⟩ := hw9
                      exact below_regrown wo p.d p.os
                    have HB9 : Hid (Below W6.heap.size W6 w9) := HBR.out.trans (hb9.mono HBR.out.size)
                    clear hw9 hb9
                    clear hq
                    go_wp2
                    go_meet
                    exact ⟨rfl, HB9⟩
                case rest =>
                  obtain ⟨rfl, HC15⟩ := hcut
                  obtain ⟨w15, hw15⟩ : ∃ w15, w15 = wc := ⟨_, rfl⟩
                  subst hw15
                  go_upto_region 17 with (fail)
                  go_cut [201] from 175 to 201 (fun t wx => t = .bool false ∧ Hid (Below W6.heap.size W6 wx))
                  case first =>
                    by_cases heg : eg = 0
                    · obtain ⟨bG, hGi, hGu, hGw, hw0, hwT⟩ := FERASE.out heg
                      have hq : (eg == 0) = true := by simpa using heg
                      obtain ⟨bg, og, cg, xg, hxg, hcg⟩ := box_blk XG.out NG.out hGi
                      rw [FLEN.out.2.1] at hcg
                      rw [hGu, hGw] at hcg
                      unfold top at hwT
                      have hw2 : IntKind.i64.wrap (b.worn + 1) = b.worn + 1 := by rw [IntKind.wrap_i64]; omega
                      have hV : ∀ (d : Nat) (os : Array Obj), Below W6.heap.size W6 (grow (redrawn w15 d) os) := fun d os => HC15.out.trans ((below_regrown w15 d os).mono HC15.out.size)
                      have k1 := fun (d : Nat) (os : Array Obj) => (hcg _ (hV d os)).1
                      have k3 := fun (d : Nat) (os : Array Obj) => (hcg _ (hV d os)).2.2.2.2.1
                      have k4 := fun (d : Nat) (os : Array Obj) => (hcg _ (hV d os)).2.2.2.2.2.1
                      have k5 := fun (d : Nat) (os : Array Obj) => (HCA.out _ (hV d os)).1
                      have k6 := fun (d : Nat) (os : Array Obj) => (HCA.out _ (hV d os)).2.2.2.2.2.1
                      clear heg hGi hGu hGw hxg hcg hV
                      refine wp_region_quiet_below (by kernel_rfl) (by kernel_rfl) ?_
                      repeat (go_big_quiet_step (fail))
                      refine wpQuiet_nil fun w9 hw9 => ?_
                      have hb9 : Below w15.heap.size w15 w9 := by
                        obtain ⟨p, rfl⟩ := hw9
                        exact below_regrown w15 p.d p.os
                      have HB9 : Hid (Below W6.heap.size W6 w9) := HC15.out.trans (hb9.mono HC15.out.size)
                      clear hw9 hb9
                      clear k1 k3 k4 k5 k6 hq hw2
                      go_wp2
                      go_meet
                      exact ⟨rfl, HB9⟩
                    · have hq : (eg == 0) = false := by simpa using heg
                      clear heg
                      refine wp_region_quiet_below (by kernel_rfl) (by kernel_rfl) ?_
                      repeat (go_big_quiet_step (fail))
                      refine wpQuiet_nil fun w9 hw9 => ?_
                      have hb9 : Below w15.heap.size w15 w9 := by
                        obtain ⟨p, rfl⟩ := hw9
                        exact below_regrown w15 p.d p.os
                      have HB9 : Hid (Below W6.heap.size W6 w9) := HC15.out.trans (hb9.mono HC15.out.size)
                      clear hw9 hb9
                      clear hq
                      go_wp2
                      go_meet
                      exact ⟨rfl, HB9⟩
                  case rest =>
                    obtain ⟨rfl, HC17⟩ := hcut
                    obtain ⟨w17, hw17⟩ : ∃ w17, w17 = wc := ⟨_, rfl⟩
                    subst hw17
                    obtain ⟨bD, hDi, hDl, hDp⟩ := FPAGES.out
                    have hfit := fitsB_iff.1 ((rightB_iff.1 HRI.out).2.2.2.2.2 b (List.mem_of_getElem? HBI.out))
                    have hpg := (rightB_iff.1 HRI.out).2.1
                    obtain ⟨m, hm⟩ : ∃ m, m = b.pages.length := ⟨_, rfl⟩
                    have HM := Lib.hid hm
                    have HPGS : Hid (c.pages = (m : Int)) := by show _ = _; rw [hm]; exact hfit.1.symm
                    have hm16 : (m : Int) ≤ 16 := by have := HPGS.out; omega
                    have HDI := Lib.hid hDi
                    have HDL := Lib.hid hDl
                    have HDP := Lib.hid hDp
                    have HLD : Hid (∀ V, Below W6.heap.size W6 V → V.cell? ⟨w.heap.size, 0, none⟩ = some (.int .i64 (m : Int))) := fun V h => by
                      rw [(XA.out.later h).cell]; show some (Value.int .i64 c.pages) = _; rw [HPGS.out]
                    clear hDi hDl hDp hfit hpg hm
                    go_wp2
                    go_loopw [16] (fun t wr => ∃ q : Nat, q ≤ m ∧ t = .int .i64 q ∧ Hid (Below W6.heap.size W6 wr)) (fun t _ => m - (intOf t).toNat)
                    case atStart => exact ⟨0, Nat.zero_le _, rfl, HC17⟩
                    case round =>
                      obtain ⟨q, hq, rfl, HBQ⟩ := hrel
                      obtain ⟨wi, hwi⟩ : ∃ wi, wi = wr := ⟨_, rfl⟩
                      subst hwi
                      have kP := HLD.out wi HBQ.out
                      by_cases hlt2 : q < m
                      · have hlt2I : (q : Int) < m := by omega
                        have hq0 : (0 : Int) ≤ q := by omega
                        by_cases hqp : (q : Int) = page
                        · have hqq : ((q : Int) != page) = false := by rw [hqp]; simp
                          clear hqp
                          go_wp2
                          refine wp_region_quiet_below (by kernel_rfl) (by kernel_rfl) ?_
                          repeat (go_big_quiet_step (fail))
                          refine wpQuiet_nil fun w9 hw9 => ?_
                          have hb9 : Below wi.heap.size wi w9 := by
                            obtain ⟨p, rfl⟩ := hw9
                            exact below_regrown wi p.d p.os
                          have HB9 : Hid (Below W6.heap.size W6 w9) := HBQ.out.trans (hb9.mono HBQ.out.size)
                          clear hw9 hb9
                          clear kP hqq
                          go_wp2
                          go_roundw
                          case rel => exact ⟨q + 1, by omega, by go_num, HB9⟩
                          case measure => simp [intOf]; omega
                        · have hqq : ((q : Int) != page) = true := by simpa using hqp
                          obtain ⟨l, hl⟩ : ∃ l, b.pages[q]? = some l := ⟨b.pages[q]'(by rw [← HM.out]; exact hlt2), List.getElem?_eq_getElem _⟩
                          obtain ⟨bd, od, cd, xd, hxd, hcd⟩ := box_blk XD.out ND.out HDI.out
                          rw [FLEN.out.1] at hcd
                          obtain ⟨bp, po, cp, y, hxv, cy, hy⟩ := at_pg hxd ((HDP.out q hqp).trans hl)
                          obtain ⟨bz, oz, cz, z, hzv, cz2, hz⟩ := at_pg HXA.out hl
                          rw [HDL.out, ← HM.out] at hxv
                          rw [← HM.out] at hzv
                          have hV : ∀ (d : Nat) (os : Array Obj), Below W6.heap.size W6 (grow (redrawn wi d) os) := fun d os => HBQ.out.trans ((below_regrown wi d os).mono HBQ.out.size)
                          have k1 := fun (d : Nat) (os : Array Obj) => (hcd _ (hV d os)).1
                          have k2 := fun (d : Nat) (os : Array Obj) => (HCA.out _ (hV d os)).1
                          have k3 := fun (d : Nat) (os : Array Obj) => (hcd _ (hV d os)).2.2.2.1
                          have k4 := fun (d : Nat) (os : Array Obj) => (HCA.out _ (hV d os)).2.2.2.1
                          have k5 := fun (d : Nat) (os : Array Obj) => keep_cell cy (hV d os)
                          have k6 := fun (d : Nat) (os : Array Obj) => keep_cell cz2 (hV d os)
                          have t1 := fun (d : Nat) (os : Array Obj) => run_text (hy.later (hV d os))
                          have t2 := fun (d : Nat) (os : Array Obj) => run_text (hz.later (hV d os))
                          have t3 : ∀ V : World, (textNe (.string (bs l)) (.string (bs l))).run Try.prog V = .ok (.bool false) V := fun V => by
                            have := run_textNe l l V
                            rw [decide_eq_true rfl] at this; exact this
                          subst hxv
                          rw [hzv] at k4
                          clear hqp hl hxd hcd cy hy cz2 hz hV hzv
                          go_wp2
                          refine wp_region_quiet_below (by kernel_rfl) (by kernel_rfl) ?_
                          repeat (go_big_quiet_step (fail))
                          refine wpQuiet_nil fun w9 hw9 => ?_
                          have hb9 : Below wi.heap.size wi w9 := by
                            obtain ⟨p, rfl⟩ := hw9
                            exact below_regrown wi p.d p.os
                          have HB9 : Hid (Below W6.heap.size W6 w9) := HBQ.out.trans (hb9.mono HBQ.out.size)
                          clear hw9 hb9
                          clear kP hqq k1 k2 k3 k4 k5 k6 t1 t2 t3
                          go_wp2
                          go_roundw
                          case rel => exact ⟨q + 1, by omega, by go_num, HB9⟩
                          case measure => simp [intOf]; omega
                      · obtain rfl : q = m := by omega
                        go_wp2
                        go_ret
                        exact ⟨rfl, HB0.out.trans ((H6.out.trans (HBQ.out.mono H6.out.size)).mono (by have := HZ0.out; omega))⟩
        · go_enter Try.func4, Try.ntmps4
          go_wp2_with fail
          rw [← HW0.out]
          refine (HAW.out W0).mono ?_
          rintro e w1 ⟨rfl, hb1⟩
          have ld := (LD.out w1 hb1).1
          have H1 := Lib.hid hb1
          clear hb1
          go_wp2_with fail
          refine (HSH.out w1 H1.out).mono ?_
          rintro e w2 ⟨rfl, hb2⟩
          have H2 : Hid (Below W0.heap.size W0 w2) := H1.out.trans (hb2.mono H1.out.size)
          clear hb2 ld
          have ld := (LD.out w2 H2.out).1
          go_wp2_with fail
          refine (HRT.out w2 H2.out).mono ?_
          rintro e w3 ⟨rfl, hb3⟩
          have H3 : Hid (Below W0.heap.size W0 w3) := H2.out.trans (hb3.mono H2.out.size)
          have H4 : Hid (Below w.heap.size w w3) := HB0.out.trans (H3.out.mono (by have := HZ0.out; omega))
          clear hb3 ld
          have ld := (LD.out w3 H3.out).2.1
          by_cases hneg : block < 0
          · go_wp2
            go_ret
            exact ⟨rfl, H4.out⟩
          · have hge : (n : Int) ≤ block := by omega
            have hneg0 : 0 ≤ block := by omega
            clear hbl
            go_wp2
            go_ret
            exact ⟨rfl, H4.out⟩
    · have h300I : (300 : Int) < np := by omega
      go_enter Try.func4, Try.ntmps4
      go_wp2_with fail
      rw [← HW0.out]
      refine (HAW.out W0).mono ?_
      rintro e w1 ⟨rfl, hb1⟩
      have ld := (LD.out w1 hb1).1
      have H1 := Lib.hid hb1
      clear hb1
      go_wp2_with fail
      refine (HSH.out w1 H1.out).mono ?_
      rintro e w2 ⟨rfl, hb2⟩
      have H2 : Hid (Below w.heap.size w w2) := HB0.out.trans ((H1.out.trans (hb2.mono H1.out.size)).mono (by have := HZ0.out; omega))
      clear hb2 ld
      go_wp2
      go_ret
      exact ⟨rfl, H2.out⟩
end Go.Proofs.Ytilgppijmkcomaa.chipStill
