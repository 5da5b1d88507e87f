/- The statement PageTorn, walked: every call of it hands back true. -/
import Derived.Test.YtkbnffjkilpdaaaPageAwake
import Derived.Deep.CutRange
namespace Go.Proofs.Ytkbnffjkilpdaaa.Page.pageTorn
open Go.RowKit Go.Sort
attribute [local go_sem ↓] slice_bytes text_bytes eq_text ne_text loadVar_page storeVar_page

theorem own_form {w : World} {base : Nat} {v : Value} {l : List UInt8} (h : OwnB w base v l) (hl : 0 < l.length) : ∃ g cap, v = .slice (some ⟨g, 0, none⟩) l.length cap ∧ base ≤ g := by
  rcases h.2 with ⟨e1, e2⟩ | ⟨g, cap, cur, e2, e3, -⟩
  · obtain ⟨b, o, cap, e, -⟩ := h.rd.form hl
    rw [e] at e1; cases e1
  · exact ⟨g, cap, e2, e3⟩
theorem fill_set (i N : Nat) (h : i < N) : (List.replicate i (255 : UInt8) ++ List.replicate (N - i) 0).set i 255 = List.replicate (i + 1) 255 ++ List.replicate (N - (i + 1)) 0 := by
  rw [List.set_append_right _ _ (by simp), List.length_replicate, Nat.sub_self, show N - i = (N - (i + 1)) + 1 by omega, List.replicate_succ, List.set_cons_zero, List.replicate_succ', List.append_assoc]
  rfl

set_option maxHeartbeats 8000000 in
set_option maxRecDepth 100000 in
theorem walkAll (p : Pg) (u : Value) (n : Int) (i : Nat) (w : World) (hi : i < 65536) (hp : RdB w u p.body) :
    Calls Try.prog 5 #[pgV p u, .int .i64 n, .int .u16 (i : Int)] w fun e w' => e = .returned (.bool true) ∧ Below w.heap.size w w' := by
  have hb0 : Below w.heap.size w (w.alloc (.cells (pgC p u) 25)) := (Below.refl _ _).alloc (Nat.le_refl _) _
  have hx3 := Box.new w (pgC p u)
  have HW : Hid (∀ W, Below (w.alloc (.cells (pgC p u) 25)).heap.size (w.alloc (.cells (pgC p u) 25)) W →
      (pageLoad ⟨w.heap.size, 0, none⟩).run Try.prog W = .ok (.agg (pgC p u)) W ∧ RdB W u p.body ∧ Below w.heap.size w W) := fun W hW =>
    ⟨(hx3.later hW).load rfl, (hp.later hb0).later hW, hb0.trans (hW.mono hb0.size)⟩
  have H1 := Lib.hid (awake_any (w.alloc (.cells (pgC p u) 25)))
  obtain ⟨W0, hW0⟩ : ∃ W, W = w.alloc (.cells (pgC p u) 25) := ⟨_, rfl⟩
  rw [← hW0] at HW H1
  have HW0 := Lib.hid hW0
  have HPUT : Hid (∀ W, RdB W u p.body → Calls Try.prog 7 #[.agg (pgC p u), .int .i64 n] W (PutPost p n W)) := fun W h => put_any' p u n W h
  have HMAY : Hid (∀ W, RdB W u p.body → Calls Try.prog 12 #[.agg (pgC p u), .int .i64 n] W fun e w' => e = .returned (.bool (mayB p n)) ∧ Below W.heap.size W w') := fun W h => may_any p u n W h
  have HREAD : Hid (∀ l x W, RdB W x l → Calls Try.prog 9 #[x] W (ReadPost l W)) := fun l x W h => read_any l x W h
  have HBLANK : Hid (∀ l x W, RdB W x l → Calls Try.prog 16 #[x] W fun e w' => e = .returned (.bool (allB l 255)) ∧ Below W.heap.size W w') := fun l x W h => blank_any l x W h
  have HSAME : Hid (∀ (q r : Pg) (x y : Value) W, RdB W x q.body → RdB W y r.body → Calls Try.prog 11 #[.agg (pgC q x), .agg (pgC r y)] W fun e w' => e = .returned (.bool (sameB q r)) ∧ Below W.heap.size W w') := fun q r x y W h1 h2 => same_any q r x y W h1 h2
  have HSTORE : Hid (∀ W (q : Pg) (x : Value) l, RdB W x l → (pageStore ⟨W.heap.size, 0, none⟩ (.agg (pgC q x))).run Try.prog (W.alloc (.cells #[.int .i64 0, .int .i64 0, .int .u64 0, .slice none 0 0] 25)) = .ok () (W.alloc (.cells (pgC q x) 25)) ∧
      Below W.heap.size W (W.alloc (.cells (pgC q x) 25)) ∧ Box (W.alloc (.cells (pgC q x) 25)) W.heap.size (pgC q x)) := fun W q x l h => ⟨store_new W q (RdB.one h), (Below.refl _ _).alloc (Nat.le_refl _) _, Box.new _ _⟩
  unfold pgV
  clear hb0 hx3 hp
  go_enter Try.func5, Try.ntmps5
  go_upto_region 1 with fail
  rw [← HW0.out]
  clear hW0
  go_wp2_with fail
  with_reducible refine H1.out.mono ?_
  rintro e w1 ⟨rfl, hb1⟩
  have B1 := Lib.hid hb1
  obtain ⟨ld3, rp, -⟩ := HW.out w1 hb1
  have HP0 := HPUT.out w1 rp
  unfold PutPost at HP0
  cases hm : mayB p n with
  | false =>
    have he : putE p n = 1 := by unfold putE; rw [hm]; rfl
    have hr : putR p n = [] := by unfold putR; rw [hm]; rfl
    rw [he, hr] at HP0
    have HP1 := Lib.hid HP0
    clear HP0 he hr hb1 rp
    go_wp2_with fail
    with_reducible refine HP1.out.mono ?_
    rintro e w2 ⟨vx, rfl, hox, hbx⟩
    have B2 := Lib.hid (B1.out.trans (hbx.mono B1.out.size))
    obtain ⟨ld3', rp, -⟩ := HW.out w2 B2.out
    have HM := HMAY.out w2 rp
    rw [hm] at HM
    have HM2 := Lib.hid HM
    obtain ⟨ax, cx, hvx, -⟩ := hox.rd.len
    rw [List.length_nil] at hvx
    subst hvx
    clear hox hbx rp HM hm ld3
    go_wp2_with fail
    with_reducible refine HM2.out.mono ?_
    rintro e w3 ⟨rfl, hb⟩
    have FIN := Lib.hid (HW.out w3 (B2.out.trans (hb.mono B2.out.size))).2.2
    clear hb ld3'
    go_wp2
    go_ret
    exact ⟨rfl, FIN.out⟩
  | true =>
    obtain ⟨N, rfl⟩ : ∃ N : Nat, n = N := ⟨n.toNat, by have := (may_iff.1 hm).1; omega⟩
    have he : putE p N = 0 := by unfold putE; rw [hm]; rfl
    have hr : putR p N = pagePut p N := by unfold putR; rw [hm, Int.toNat_natCast]; rfl
    rw [he, hr] at HP0
    have HP1 := Lib.hid HP0
    obtain ⟨⟨h24, h256⟩, -⟩ := may_iff.1 hm
    have hlen := put_length hm
    have hsz := may_sized hm
    have HT : Hid (∀ (k : Nat) (x : UInt8), (pagePut p N)[k]? = some x → _) := fun k x => read_torn hm (k := k) (x := x)
    have HB := Lib.hid (read_blank hsz)
    obtain ⟨X, hX⟩ : ∃ X, pagePut p N = X := ⟨_, rfl⟩
    rw [hX] at HP1 HT hlen
    have HLN := Lib.hid hlen
    have hN0 : 24 ≤ N := by omega
    have hN2 : N ≤ 256 := by omega
    clear HP0 he hr hb1 rp hm hX hlen hsz
    go_wp2_with fail
    with_reducible refine HP1.out.mono ?_
    rintro e w2 ⟨vx, rfl, hox, hbx⟩
    have B2 := Lib.hid (B1.out.trans (hbx.mono B1.out.size))
    have hal : Below w2.heap.size w2 (w2.alloc (.cells #[] 5)) := (Below.refl _ _).alloc (Nat.le_refl _) _
    have hown : OwnB (w2.alloc (.cells #[] 5)) w2.heap.size (.slice (some ⟨w2.heap.size, 0, none⟩) 0 0) [] := World.ownsRow_made w2 #[] 0 (Nat.le_refl _) (Nat.zero_le _) rfl
    have HAP := Lib.hid (And.intro hown (And.intro (hox.rd.later hal) (And.intro hal.size (B2.out.trans (hal.mono B2.out.size)))))
    obtain ⟨ax, cx, hvx, -⟩ := hox.rd.len
    rw [HLN.out] at hvx
    subst hvx
    obtain ⟨k, hk, hkN⟩ : ∃ k : Nat, (i : Int) % (N : Int) = (k : Int) ∧ k < N := ⟨i % N, (Int.natCast_emod _ _).symm, Nat.mod_lt _ (by omega)⟩
    obtain ⟨z, hz⟩ : ∃ z, X[k]? = some z := ⟨_, List.getElem?_eq_getElem (by rw [HLN.out]; exact hkN)⟩
    have hTT := HT.out k z hz
    obtain ⟨zn, hzn⟩ : ∃ m, z.toNat = m := ⟨_, rfl⟩
    rw [hzn] at hTT
    have hzl : zn < 256 := by rw [← hzn]; exact z.toNat_lt
    obtain ⟨x0, hx0⟩ : ∃ m, 255 - zn = m := ⟨_, rfl⟩
    rw [hx0] at hTT
    have hx0I : (255 : Int) - (zn : Int) = (x0 : Int) := by omega
    have hx0l : x0 < 256 := by omega
    obtain ⟨L, hL⟩ : ∃ L, X.set k 255 = L := ⟨_, rfl⟩
    rw [hL] at hTT
    obtain ⟨q, hq⟩ : ∃ q, (readL L).1 = q := ⟨_, rfl⟩
    obtain ⟨f, hf⟩ : ∃ f, (readL L).2 = f := ⟨_, rfl⟩
    have hqf : readL L = (q, f) := by rw [← hq, ← hf]
    rw [hqf] at hTT
    have HTT := Lib.hid hTT
    have HQF := Lib.hid hqf
    have HLL := Lib.hid hL
    have HZ := Lib.hid hz
    have HZN := Lib.hid hzn
    clear hox hbx hal hown ld3 hTT hL hq hf hqf hz hzn hx0
    go_wp2_with (at_builtin; refine wpList_appendB rfl _ _ rfl rfl rfl HAP.out.1 HAP.out.2.1 HAP.out.2.2.1 (by rw [HLN.out, List.length_nil]; omega) ?_; intro v' w' hx hy; have hx' := hx; rw [List.nil_append] at hx'; obtain ⟨g, cg, hvg, -⟩ := own_form hx' (by rw [HLN.out]; omega); rw [HLN.out] at hvg; have B3 := Lib.hid (HAP.out.2.2.2.trans ((OwnB.below HAP.out.1 hy HAP.out.2.2.1).mono B2.out.size)); clear hx hy; subst hvg; obtain ⟨hcell, hfr⟩ := hx'.at HZ.out; unfold byV at hcell; rw [HZN.out] at hcell; have hst := hx'.store k 255; rw [HLL.out, show byV 255 = .int .u8 255 from rfl] at hst; have HST := Lib.hid hst; clear hx' hst)
    have B4 := Lib.hid (B3.out.trans (HST.out.2.mono B2.out.size))
    have HR0 := HREAD.out L _ _ (OwnB.rd HST.out.1)
    unfold ReadPost at HR0
    rw [HQF.out] at HR0
    dsimp only at HR0
    unfold pgV at HR0
    have HR := Lib.hid HR0
    clear HR0
    with_reducible refine HR.out.mono ?_
    rintro e w5 ⟨vq, rfl, hoq, hbq⟩
    have B5 := B4.out.trans (hbq.mono B4.out.size)
    obtain ⟨st5, hb6, hx6⟩ := HSTORE.out w5 q vq _ hoq.rd
    have B6 := Lib.hid (B5.trans (hb6.mono B5.size))
    have HW6 : Hid (∀ W, Below (w5.alloc (.cells (pgC q vq) 25)).heap.size (w5.alloc (.cells (pgC q vq) 25)) W → (pageLoad ⟨w.heap.size, 0, none⟩).run Try.prog W = .ok (.agg (pgC p u)) W ∧ (pageLoad ⟨w5.heap.size, 0, none⟩).run Try.prog W = .ok (.agg (pgC q vq)) W ∧
        Calls Try.prog 11 #[.agg (pgC p u), .agg (pgC q vq)] W fun e w' => e = .returned (.bool (sameB p q)) ∧ Below W.heap.size W w') := fun W hW => by
      obtain ⟨l1, r1, -⟩ := HW.out W (B6.out.trans (hW.mono B6.out.size))
      exact ⟨l1, (hx6.later hW).load rfl, HSAME.out p q u vq W r1 ((hoq.rd.later hb6).later hW)⟩
    obtain ⟨W6, hW6⟩ : ∃ W, w5.alloc (.cells (pgC q vq) 25) = W := ⟨_, rfl⟩
    rw [hW6] at st5 B6 HW6
    have HB1 := Lib.hid B1.out.size
    clear hoq hbq B5 hb6 hx6 hW6 hcell hfr HST HR B4 B3 HAP B2 B1
    go_wp2_with fail
    go_loop [14, 15] (fun a b => ∃ c y : Nat, a = .int .i64 (c : Int) ∧ b = .int .u8 (y : Int) ∧ y < 256 ∧ c + pop y = pop x0) (fun _ b => (intOf b).toNat)
    case atStart => exact ⟨0, x0, rfl, rfl, hx0l, by omega⟩
    case round =>
      obtain ⟨c, y, rfl, rfl, hy, hc⟩ := hrel
      have hp8 := pop_le x0 hx0l
      have hcl : (c : Int) ≤ 8 := by omega
      by_cases hy0 : 0 < y
      · have hy0I : (0 : Int) < y := by omega
        have hps := pop_step y hy
        have HNX : Hid (c + y % 2 + pop (y / 2) = pop x0) := by show _ = _; omega
        clear hc hps hp8
        go_wp2
        go_round
        case rel => exact ⟨c + y % 2, y / 2, by go_num, by go_num, by omega, HNX.out⟩
        case measure => simp [intOf]; omega
      · obtain rfl : y = 0 := by omega
        have hc0 : c = pop x0 := by have : pop 0 = 0 := rfl; omega
        have HC := Lib.hid hc0
        clear hc hc0 hp8 hy hy0
        by_cases h0 : c = 0
        · have hqf := HTT.out.1 (by rw [← HC.out]; exact h0)
          obtain ⟨rfl, rfl⟩ := Prod.mk.inj hqf
          obtain ⟨l3, l12, HSM⟩ := HW6.out W6 (Below.refl _ _)
          rw [same_refl] at HSM
          have HSM2 := Lib.hid HSM
          subst h0
          clear hqf HSM
          go_wp2_with fail
          with_reducible refine HSM2.out.mono ?_
          rintro e w7 ⟨rfl, hb⟩
          have FIN := Lib.hid (HW.out w7 (B6.out.trans (hb.mono B6.out.size))).2.2
          clear hb l3 l12
          go_wp2
          go_ret
          exact ⟨rfl, FIN.out⟩
        · have hc0 : ((c : Int) == 0) = false := by rw [beq_eq_false_iff_ne]; omega
          have H4 : Hid (c ≤ 2 → f = 4) := fun h => HTT.out.2.1 (by rw [← HC.out]; exact h0) (by rw [← HC.out]; exact h)
          have HNE : Hid (sameB p q = false) := by
            show _ = _
            cases hs : sameB p q with
            | false => rfl
            | true => exact absurd (same_iff.1 hs).symm (HTT.out.2.2 (by rw [← HC.out]; exact h0))
          obtain ⟨w7, hm7, ho7, hb7⟩ := make_zeros W6 N (by omega)
          obtain ⟨g7, hg7⟩ : ∃ g, W6.heap.size = g := ⟨_, rfl⟩
          rw [hg7] at hm7 ho7 hb7
          have HO7 := Lib.hid (And.intro ho7 hb7)
          have HG7 := Lib.hid hg7
          clear ho7 hb7 hg7 h0
          go_wp2_with fail
          go_loopw [17] (fun j wr => ∃ m : Nat, m ≤ N ∧ j = .int .i64 (m : Int) ∧ OwnB wr g7 (.slice (some ⟨g7, 0, none⟩) N N) (List.replicate m 255 ++ List.replicate (N - m) 0) ∧ Below g7 W6 wr) (fun j _ => N - (intOf j).toNat)
          case atStart => exact ⟨0, Nat.zero_le _, rfl, by simpa using HO7.out.1, HO7.out.2⟩
          case round =>
            obtain ⟨m, hmN, rfl, ho, hb⟩ := hrel
            by_cases hlt : m < N
            · have hltI : (m : Int) < N := by omega
              obtain ⟨y, hy⟩ : ∃ y, (List.replicate m (255 : UInt8) ++ List.replicate (N - m) 0)[m]? = some y := ⟨_, List.getElem?_eq_getElem (by simp; omega)⟩
              obtain ⟨hcell, hfr⟩ := ho.at hy
              have hst := ho.store m 255
              rw [fill_set m N hlt, show byV 255 = .int .u8 255 from rfl] at hst
              have HS := Lib.hid hst
              have HB' := Lib.hid hb
              clear ho hb hst hy
              go_wp2
              go_roundw
              case rel => exact ⟨m + 1, by omega, by go_num, HS.out.1, HB'.out.trans HS.out.2⟩
              case measure => simp [intOf]; omega
            · obtain rfl : m = N := by omega
              rw [Nat.sub_self, List.replicate_zero, List.append_nil] at ho
              have O8 := Lib.hid ho
              have B8 : Hid (Below W6.heap.size W6 wr) := by show Below _ _ _; rw [HG7.out]; exact hb
              have HR0 := HREAD.out _ _ wr (OwnB.rd O8.out)
              unfold ReadPost at HR0
              rw [HB.out] at HR0
              dsimp only at HR0
              unfold pgV at HR0
              have HR := Lib.hid HR0
              clear HR0 ho hb hlt hmN
              go_wp2_with fail
              with_reducible refine HR.out.mono ?_
              rintro e w9 ⟨vz, rfl, hoz, hbz⟩
              obtain ⟨st9, hb10, hx10⟩ := HSTORE.out w9 zeroP vz _ hoz.rd
              have B10 := Lib.hid ((B8.out.trans (hbz.mono B8.out.size)).trans (hb10.mono (B8.out.trans (hbz.mono B8.out.size)).size))
              have O10 := Lib.hid ((O8.out.later hbz).later hb10)
              have HX10 := Lib.hid hx10
              obtain ⟨W10, hW10⟩ : ∃ W, w9.alloc (.cells (pgC zeroP vz) 25) = W := ⟨_, rfl⟩
              rw [hW10] at st9 B10 O10 HX10
              have HCK : Hid (∀ W, Below W10.heap.size W10 W → W.cell? ⟨w9.heap.size, 0, none⟩ = some (.int .i64 0)) := fun W hW => by rw [(HX10.out.later hW).cell]; rfl
              have HBL : Hid (∀ W, Below W10.heap.size W10 W → Calls Try.prog 16 #[.slice (some ⟨g7, 0, none⟩) m m] W fun e w' => e = .returned (.bool true) ∧ Below W.heap.size W w') := fun W hW => by
                have := HBLANK.out _ _ W (OwnB.rd (O10.out.later hW))
                rwa [show allB (List.replicate m 255) 255 = true from all_iff.2 fun y hy => (List.mem_replicate.1 hy).2] at this
              clear hoz hbz hb10 hx10 hW10
              by_cases h2 : c ≤ 2
              · obtain rfl := H4.out h2
                have h2I : ¬ (2 : Int) < c := by omega
                have ck := HCK.out W10 (Below.refl _ _)
                have HBL2 := Lib.hid (HBL.out W10 (Below.refl _ _))
                clear h2
                go_wp2_with fail
                with_reducible refine HBL2.out.mono ?_
                rintro e w11 ⟨rfl, hb⟩
                have FIN := Lib.hid (HW.out w11 (B6.out.trans ((B10.out.trans (hb.mono B10.out.size)).mono B6.out.size))).2.2
                clear hb ck
                go_wp2
                go_ret
                exact ⟨rfl, FIN.out⟩
              · have h2I : (2 : Int) < c := by omega
                clear h2
                by_cases hf : f = 0
                · subst hf
                  obtain ⟨l3, l12, HSM⟩ := HW6.out W10 B10.out
                  rw [HNE.out] at HSM
                  have HSM2 := Lib.hid HSM
                  clear HSM
                  go_wp2_with fail
                  with_reducible refine HSM2.out.mono ?_
                  rintro e w11 ⟨rfl, hb11⟩
                  have ck := HCK.out w11 hb11
                  have HBL2 := Lib.hid (HBL.out w11 hb11)
                  have B11 := Lib.hid (B10.out.trans (hb11.mono B10.out.size))
                  clear hb11 l3 l12
                  go_wp2_with fail
                  with_reducible refine HBL2.out.mono ?_
                  rintro e w12 ⟨rfl, hb⟩
                  have FIN := Lib.hid (HW.out w12 (B6.out.trans ((B11.out.trans (hb.mono B11.out.size)).mono B6.out.size))).2.2
                  clear hb ck
                  go_wp2
                  go_ret
                  exact ⟨rfl, FIN.out⟩
                · have hfb : (f != 0) = true := by rw [bne_iff_ne]; exact hf
                  have ck := HCK.out W10 (Below.refl _ _)
                  have HBL2 := Lib.hid (HBL.out W10 (Below.refl _ _))
                  clear hf
                  go_wp2_with fail
                  with_reducible refine HBL2.out.mono ?_
                  rintro e w11 ⟨rfl, hb⟩
                  have FIN := Lib.hid (HW.out w11 (B6.out.trans ((B10.out.trans (hb.mono B10.out.size)).mono B6.out.size))).2.2
                  clear hb ck
                  go_wp2
                  go_ret
                  exact ⟨rfl, FIN.out⟩
end Go.Proofs.Ytkbnffjkilpdaaa.Page.pageTorn
