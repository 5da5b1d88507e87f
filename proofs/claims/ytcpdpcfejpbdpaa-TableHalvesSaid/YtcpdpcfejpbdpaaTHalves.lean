/- The statement TableHalves, walked: every call of it hands back true. -/
import Derived.Test.YtcpdpcfejpbdpaaTabAwakeW
import Derived.Test.YtcpdpcfejpbdpaaTabHalvP
import Derived.Test.YtcpdpcfejpbdpaaTabSame
namespace Go.Proofs.Ytcpdpcfejpbdpaa.tableHalves
open Go.RowKit Go.Sort Go.Shelf
attribute [local go_sem ↓] loadVar_key loadVar_pre loadVar_route storeVar_pre storeVar_route build_pre build_route build_key build_change buildSlice_rows buildSlice_chs binOp_rtEql

def OneRt (w : World) (b : Nat) (r : Rt) : Prop := w.heap[b]? = some (.cells (rc r) 34 (0, 0))
theorem OneRt.cells {W : World} {b : Nat} {r : Rt} (h : OneRt W b r) : CellsAt W ⟨b, 0, none⟩ (rl r) := fun j u hu => by
  have hadd : (⟨b, 0, none⟩ : Addr).add j = ⟨b, j, none⟩ := by unfold Addr.add; split <;> simp_all
  rw [hadd, cell_of (show W.heap[b]? = _ from h)]; simpa [rc] using hu

set_option maxHeartbeats 4000000 in
set_option maxRecDepth 100000 in
theorem walk (l : List Rt) (ca cb : List Ch) (r : Rt) (v va vb : Value) (w : World) (hR : Rd w v l) (hA : RdC w va ca) (hB : RdC w vb cb) (hl : l.length ≤ 200) (ha : ca.length ≤ 20) (hb : cb.length ≤ 20) (hg : Good l) :
    Calls Try.prog 6 #[v, va, vb, .agg (rc r)] w fun e w' => e = .returned (.bool true) ∧ Below w.heap.size w w' := by
  have hb0 : Below w.heap.size w (w.alloc (.cells (rc r) 34)) := (Below.refl _ _).alloc (Nat.le_refl _) _
  have hz0 : (w.alloc (.cells (rc r) 34)).heap.size = w.heap.size + 1 := by simp
  have hr0 : OneRt (w.alloc (.cells (rc r) 34)) w.heap.size r := Go.heap_alloc_new w _
  have T : ∀ W, Below (w.alloc (.cells (rc r) 34)).heap.size (w.alloc (.cells (rc r) 34)) W → (routeLoad ⟨w.heap.size, 0, none⟩).run Try.prog W = .ok (.agg (rc r)) W ∧ (preLoad ⟨w.heap.size, 0, none⟩).run Try.prog W = .ok (.agg (pc r.pre)) W ∧ Rd W v l ∧ RdC W va ca ∧ RdC W vb cb ∧ Below w.heap.size w W := fun W h => by
    have h1 : OneRt W w.heap.size r := (h.block _ (by rw [hz0]; omega)).trans hr0
    have h2 := hb0.trans (h.mono (by rw [hz0]; omega))
    exact ⟨run_routeLoad h1.cells, run_preLoadA h1.cells.pre, hR.later h2, hA.later h2, hB.later h2, h2⟩
  have HT := Lib.hid T
  have H1 := Lib.hid (awake_any (w.alloc (.cells (rc r) 34)))
  have H2 : Hid (∀ W, Rd W v l → Calls Try.prog 14 #[v] W fun e w' => e = .returned (.bool true) ∧ Below W.heap.size W w') := fun W h => by
    have := right_any l v W h
    rw [(right_iff l).2 ⟨by omega, hg⟩] at this; exact this
  have hgu := apply_good hg (by omega) ca
  obtain ⟨hboth, hfirst⟩ := halves_are hg (by omega) ca cb
  obtain ⟨u, e, hu⟩ : ∃ u e, applyL l ca = (u, e) := ⟨_, _, rfl⟩
  rw [hu] at hgu hboth hfirst
  simp only at hgu hboth hfirst
  obtain ⟨x, f, hx⟩ : ∃ x f, applyL u cb = (x, f) := ⟨_, _, rfl⟩
  rw [hx] at hboth
  obtain ⟨y, g, hy⟩ : ∃ y g, applyL l (ca ++ cb) = (y, g) := ⟨_, _, rfl⟩
  rw [hy] at hboth hfirst
  simp only at hboth hfirst
  have hyl := (apply_good hg (by omega) (ca ++ cb)).2
  rw [hy] at hyl
  have HA : Hid (∀ W p q t cs out, Rd W p t → RdC W q cs → t.length ≤ 65536 → cs.length ≤ 65536 → applyL t cs = out → Calls Try.prog 11 #[p, q] W (ApplyPost W out)) := fun W p q t cs out h1 h2 h3 h4 h5 => by
    rw [← h5]; exact apply_any t cs p q W h1 h2 h3 h4
  obtain ⟨gx, gh, hget⟩ : ∃ gx gh, getL l r.pre = (gx, gh) := ⟨_, _, rfl⟩
  have HG1 : Hid (∀ W, Rd W v l → Calls Try.prog 9 #[v, .agg (pc r.pre)] W (GetPost W (gx, gh))) := fun W h => by
    have := get_any l r.pre r.hk v W h
    rw [hget] at this; exact this
  obtain ⟨z, i, hzi⟩ : ∃ z i, applyL l [⟨r, false⟩, ⟨r, true⟩] = (z, i) := ⟨_, _, rfl⟩
  have HP : Hid (gh = 6 → i = 0 ∧ z = l) := fun h6 => by
    have := put_gone hg (by omega) r (by rw [hget]; exact h6)
    rw [hzi] at this
    simp only [Prod.mk.injEq] at this
    exact ⟨this.2, this.1⟩
  have HS : Hid (∀ W p q m, Rd W p m → Rd W q m → m.length ≤ 65536 → Calls Try.prog 15 #[p, q] W fun e w' => e = .returned (.bool true) ∧ Below W.heap.size W w') := fun W p q m h1 h2 h3 => same_yes m p q W h1 h2 h3
  obtain ⟨ad, cap, hv, -⟩ := rd_len hR
  obtain ⟨ada, capa, hva, -⟩ := rdC_len hA
  obtain ⟨adb, capb, hvb, -⟩ := rdC_len hB
  obtain ⟨n, hn⟩ : ∃ n, n = l.length := ⟨_, rfl⟩
  obtain ⟨na, hna⟩ : ∃ n, n = ca.length := ⟨_, rfl⟩
  obtain ⟨nb, hnb⟩ : ∃ n, n = cb.length := ⟨_, rfl⟩
  rw [← hn] at hv hl
  rw [← hna] at hva ha
  rw [← hnb] at hvb hb
  have HN := Lib.hid hn
  have HNA := Lib.hid hna
  have HNB := Lib.hid hnb
  have HGU := Lib.hid hgu
  have HU := Lib.hid hu
  have HX := Lib.hid hx
  have HY := Lib.hid hy
  have HZ := Lib.hid hzi
  have HBO := Lib.hid hboth
  have HFI := Lib.hid hfirst
  have HYL := Lib.hid hyl
  have hlI : (n : Int) ≤ 200 := by omega
  have haI : (na : Int) ≤ 20 := by omega
  have hbI : (nb : Int) ≤ 20 := by omega
  have HL : Hid (n ≤ 200) := hl
  have HLA : Hid (na ≤ 20) := ha
  have HLB : Hid (nb ≤ 20) := hb
  subst hv
  subst hva
  subst hvb
  have b0 := run_chs0
  have b1 := run_changeBuild r
  have b2 := run_changeBuildG r
  have b3 := run_chs2 ⟨r, false⟩ ⟨r, true⟩
  clear T hR hA hB hb0 hz0 hr0 hgu hboth hfirst hu hx hy hyl hget hzi hn hna hnb hl ha hb hg
  go_enter Try.func6, Try.ntmps6
  go_wp2_with fail
  refine H1.out.mono ?_
  rintro e1 w1 ⟨rfl, h1⟩
  have B1 := Lib.hid h1
  clear h1
  go_wp2_with fail
  refine (H2.out _ (HT.out w1 B1.out).2.2.1).mono ?_
  rintro e2 w2 ⟨rfl, h2⟩
  have B2 := Lib.hid (B1.out.trans (h2.mono B1.out.size))
  clear h2
  go_wp2_with fail
  refine (HA.out w2 _ _ l ca _ (HT.out w2 B2.out).2.2.1 (HT.out w2 B2.out).2.2.2.1 (by rw [← HN.out]; have := HL.out; omega) (by rw [← HNA.out]; have := HLA.out; omega) HU.out).mono ?_
  rintro e3 w3 ⟨vu, rfl, ou, h3⟩
  have B3 := Lib.hid (B2.out.trans (h3.mono B2.out.size))
  have RU := Lib.hid ou.rd
  clear h3 ou
  go_wp2_with fail
  refine (HA.out w3 _ _ u cb _ RU.out (HT.out w3 B3.out).2.2.2.2.1 (by have := HGU.out.2; omega) (by rw [← HNB.out]; have := HLB.out; omega) HX.out).mono ?_
  rintro e4 w4 ⟨vx, rfl, ox, h4⟩
  have B4 := Lib.hid (B3.out.trans (h4.mono B3.out.size))
  have RX := Lib.hid ox.rd
  clear h4 ox
  have oc := ownC_made0 w4
  have hal : Below w4.heap.size w4 (w4.alloc (.cells #[] 52)) := (Below.refl _ _).alloc (Nat.le_refl _) _
  have RA := Lib.hid ((HT.out w4 B4.out).2.2.2.1.later hal)
  have RB := Lib.hid ((HT.out w4 B4.out).2.2.2.2.1)
  have HAL := Lib.hid hal
  have OC := Lib.hid oc
  clear hal oc
  go_wp2_with (at_builtin; refine append_chs rfl _ _ rfl w4.heap.size _ 0 [] rfl OC.out _ ca rfl RA.out (by rw [← HNA.out]; have := HLA.out; omega) (by simp) ?_)
  intro v5 w5 o5 g5
  have B5 : Hid (Below w4.heap.size w4 w5) := HAL.out.grown g5 HAL.out.size (fun k hk => by simp [Value.ownBlock] at hk; omega)
  have O5 : Hid (w5.ownsRow w4.heap.size 52 20 v5 ca.length (fc ca)) := by
    first | exact o5 | simpa using o5
  clear o5 g5
  go_wp2_with (at_builtin; refine append_chs rfl _ _ rfl w4.heap.size _ ca.length (fc ca) rfl O5.out _ cb rfl (RB.out.later B5.out) (by rw [← HNA.out, ← HNB.out]; have := HLA.out; have := HLB.out; omega) B5.out.size ?_)
  intro v6 w6 o6 g6
  have B6 : Hid (Below w4.heap.size w4 w6) := B5.out.grown g6 B5.out.size (fun k hk => by
    rcases O5.out.2 with ⟨h, -⟩ | ⟨g, c, cu, h, h', -⟩
    · rw [h] at hk; simp [Value.ownBlock] at hk
    · rw [h] at hk; simp [Value.ownBlock] at hk; omega)
  have R6 : Hid (RdC w6 v6 (ca ++ cb)) := rdC_own (by rw [List.length_append, fc_append]; exact o6)
  clear o6 g6
  have B6w : Hid (Below (w.alloc (.cells (rc r) 34)).heap.size (w.alloc (.cells (rc r) 34)) w6) := B4.out.trans (B6.out.mono B4.out.size)
  go_wp2_with fail
  refine (HA.out w6 _ _ l (ca ++ cb) _ (HT.out w6 B6w.out).2.2.1 R6.out (by rw [← HN.out]; have := HL.out; omega) (by rw [List.length_append, ← HNA.out, ← HNB.out]; have := HLA.out; have := HLB.out; omega) HY.out).mono ?_
  rintro e7 w7 ⟨vy, rfl, oy, h7⟩
  have B7 := Lib.hid (B6w.out.trans (h7.mono B6w.out.size))
  have RY := Lib.hid oy.rd
  have RX7 := Lib.hid (RX.out.later (B6.out.trans (h7.mono B6.out.size)))
  clear h7 oy RX RA RB R6 HAL OC O5
  by_cases he : e = 0
  · subst he
    by_cases hf : f = 0
    · subst hf
      obtain ⟨g0, hxy⟩ := HBO.out rfl rfl
      subst g0
      subst hxy
      go_wp2_with fail
      refine (HS.out w7 _ _ x RX7.out RY.out (by have := HYL.out; omega)).mono ?_
      rintro e10 wk ⟨rfl, hk⟩
      have BK := Lib.hid (B7.out.trans (hk.mono B7.out.size))
      clear hk
      obtain ⟨lr, lp, rd, -, -, -⟩ := HT.out wk BK.out
      have RD := Lib.hid rd
      clear rd
      go_wp2_with fail
      refine (HG1.out _ RD.out).mono ?_
      rintro e8 w8 ⟨rfl, h8⟩
      have B8 := Lib.hid (BK.out.trans (h8.mono BK.out.size))
      clear h8 lr lp RD
      obtain ⟨lr, -, rd, -, -, -⟩ := HT.out w8 B8.out
      have hal8 : Below w8.heap.size w8 (w8.alloc (.cells (fc [⟨r, false⟩, ⟨r, true⟩]).toArray 52)) := (Below.refl _ _).alloc (Nat.le_refl _) _
      have RD := Lib.hid (rd.later hal8)
      have RC := Lib.hid (rdC_new w8 [⟨r, false⟩, ⟨r, true⟩] (by simp))
      have HAL := Lib.hid hal8
      clear rd hal8
      go_wp2_with fail
      refine (HA.out _ _ _ l [⟨r, false⟩, ⟨r, true⟩] _ RD.out RC.out (by rw [← HN.out]; have := HL.out; omega) (by simp) HZ.out).mono ?_
      rintro e9 w9 ⟨vz, rfl, oz, h9⟩
      have B9 := Lib.hid (B8.out.trans ((HAL.out.trans (h9.mono HAL.out.size)).mono B8.out.size))
      have RZ := Lib.hid oz.rd
      clear lr RD RC HAL h9 oz
      by_cases h6 : gh = 6
      · obtain ⟨i0, z0⟩ := HP.out h6
        subst h6
        subst i0
        subst z0
        go_wp2_with fail
        refine (HS.out w9 _ _ z RZ.out (HT.out w9 B9.out).2.2.1 (by rw [← HN.out]; have := HL.out; omega)).mono ?_
        rintro e10 w10 ⟨rfl, h10⟩
        have FIN := Lib.hid (HT.out w10 (B9.out.trans (h10.mono B9.out.size))).2.2.2.2.2
        clear h10
        go_wp2
        go_ret
        exact ⟨rfl, FIN.out⟩
      · have hd6 : ((gh : Int) != 6) = true := by rw [bne_iff_ne]; exact h6
        have FIN := Lib.hid (HT.out w9 B9.out).2.2.2.2.2
        clear h6
        go_wp2
        go_ret
        exact ⟨rfl, FIN.out⟩
    · have hdf : ((f : Int) == 0) = false := by rw [beq_eq_false_iff_ne]; exact hf
      clear hf
      obtain ⟨lr, lp, rd, -, -, -⟩ := HT.out w7 B7.out
      have RD := Lib.hid rd
      clear rd
      go_wp2_with fail
      refine (HG1.out _ RD.out).mono ?_
      rintro e8 w8 ⟨rfl, h8⟩
      have B8 := Lib.hid (B7.out.trans (h8.mono B7.out.size))
      clear h8 lr lp RD
      obtain ⟨lr, -, rd, -, -, -⟩ := HT.out w8 B8.out
      have hal8 : Below w8.heap.size w8 (w8.alloc (.cells (fc [⟨r, false⟩, ⟨r, true⟩]).toArray 52)) := (Below.refl _ _).alloc (Nat.le_refl _) _
      have RD := Lib.hid (rd.later hal8)
      have RC := Lib.hid (rdC_new w8 [⟨r, false⟩, ⟨r, true⟩] (by simp))
      have HAL := Lib.hid hal8
      clear rd hal8
      go_wp2_with fail
      refine (HA.out _ _ _ l [⟨r, false⟩, ⟨r, true⟩] _ RD.out RC.out (by rw [← HN.out]; have := HL.out; omega) (by simp) HZ.out).mono ?_
      rintro e9 w9 ⟨vz, rfl, oz, h9⟩
      have B9 := Lib.hid (B8.out.trans ((HAL.out.trans (h9.mono HAL.out.size)).mono B8.out.size))
      have RZ := Lib.hid oz.rd
      clear lr RD RC HAL h9 oz
      by_cases h6 : gh = 6
      · obtain ⟨i0, z0⟩ := HP.out h6
        subst h6
        subst i0
        subst z0
        go_wp2_with fail
        refine (HS.out w9 _ _ z RZ.out (HT.out w9 B9.out).2.2.1 (by rw [← HN.out]; have := HL.out; omega)).mono ?_
        rintro e10 w10 ⟨rfl, h10⟩
        have FIN := Lib.hid (HT.out w10 (B9.out.trans (h10.mono B9.out.size))).2.2.2.2.2
        clear h10
        go_wp2
        go_ret
        exact ⟨rfl, FIN.out⟩
      · have hd6 : ((gh : Int) != 6) = true := by rw [bne_iff_ne]; exact h6
        have FIN := Lib.hid (HT.out w9 B9.out).2.2.2.2.2
        clear h6
        go_wp2
        go_ret
        exact ⟨rfl, FIN.out⟩
  · obtain ⟨g0, hyl2⟩ := HFI.out he
    have hyl3 := hyl2.symm
    clear hyl2
    subst g0
    subst hyl3
    have hde : ((g : Int) == 0) = false := by rw [beq_eq_false_iff_ne]; exact he
    have hde2 : ((g : Int) != 0) = true := by rw [bne_iff_ne]; exact he
    clear he
    go_wp2_with fail
    refine (HS.out w7 _ _ l RY.out (HT.out w7 B7.out).2.2.1 (by rw [← HN.out]; have := HL.out; omega)).mono ?_
    rintro e10 wk ⟨rfl, hk⟩
    have BK := Lib.hid (B7.out.trans (hk.mono B7.out.size))
    clear hk
    obtain ⟨lr, lp, rd, -, -, -⟩ := HT.out wk BK.out
    have RD := Lib.hid rd
    clear rd
    go_wp2_with fail
    refine (HG1.out _ RD.out).mono ?_
    rintro e8 w8 ⟨rfl, h8⟩
    have B8 := Lib.hid (BK.out.trans (h8.mono BK.out.size))
    clear h8 lr lp RD
    obtain ⟨lr, -, rd, -, -, -⟩ := HT.out w8 B8.out
    have hal8 : Below w8.heap.size w8 (w8.alloc (.cells (fc [⟨r, false⟩, ⟨r, true⟩]).toArray 52)) := (Below.refl _ _).alloc (Nat.le_refl _) _
    have RD := Lib.hid (rd.later hal8)
    have RC := Lib.hid (rdC_new w8 [⟨r, false⟩, ⟨r, true⟩] (by simp))
    have HAL := Lib.hid hal8
    clear rd hal8
    go_wp2_with fail
    refine (HA.out _ _ _ l [⟨r, false⟩, ⟨r, true⟩] _ RD.out RC.out (by rw [← HN.out]; have := HL.out; omega) (by simp) HZ.out).mono ?_
    rintro e9 w9 ⟨vz, rfl, oz, h9⟩
    have B9 := Lib.hid (B8.out.trans ((HAL.out.trans (h9.mono HAL.out.size)).mono B8.out.size))
    have RZ := Lib.hid oz.rd
    clear lr RD RC HAL h9 oz
    by_cases h6 : gh = 6
    · obtain ⟨i0, z0⟩ := HP.out h6
      subst h6
      subst i0
      subst z0
      go_wp2_with fail
      refine (HS.out w9 _ _ z RZ.out (HT.out w9 B9.out).2.2.1 (by rw [← HN.out]; have := HL.out; omega)).mono ?_
      rintro e10 w10 ⟨rfl, h10⟩
      have FIN := Lib.hid (HT.out w10 (B9.out.trans (h10.mono B9.out.size))).2.2.2.2.2
      clear h10
      go_wp2
      go_ret
      exact ⟨rfl, FIN.out⟩
    · have hd6 : ((gh : Int) != 6) = true := by rw [bne_iff_ne]; exact h6
      have FIN := Lib.hid (HT.out w9 B9.out).2.2.2.2.2
      clear h6
      go_wp2
      go_ret
      exact ⟨rfl, FIN.out⟩
end Go.Proofs.Ytcpdpcfejpbdpaa.tableHalves
