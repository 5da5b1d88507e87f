/- The law of a block that is turned. -/
import Derived.Test.YtkpdkpfmljcllaaWMoreP
namespace Go.Proofs.Ytkpdkpfmljcllaa.Wear
open Go.RowKit Go.Sort Go.Shelf
attribute [local go_sem ↓] loadVar_wb storeVar_wb loadVar_bl storeVar_bl build_bl build_wb

theorem atN_none : atN none = 0 := rfl
theorem atN_some (k : Nat) : atN (some k) = k := rfl

set_option maxHeartbeats 4000000 in
set_option maxRecDepth 100000 in
theorem walkMore (l : List Wb) (v : Value) (p : Int) (a : Nat) (ha : a < 256) (w : World) (hR : RdW w v l) :
    Calls Try.prog 5 #[v, .int .i64 p, .int .u8 a] w fun e w' => e = .returned (.bool true) ∧ Below w.heap.size w w' := by
  have HW := Lib.hid (awake_any w)
  obtain ⟨a0, c0, hv, -, -⟩ := hR.len
  by_cases h40 : 40 < l.length
  · have h40I : (40 : Int) < (l.length : Int) := by omega
    obtain ⟨n, hn⟩ : ∃ n, l.length = n := ⟨_, rfl⟩
    rw [hn] at hv h40I
    subst hv
    clear hR hn h40
    go_enter Try.func5, Try.ntmps5
    go_wp2_with fail
    refine HW.out.mono ?_
    rintro e w1 ⟨rfl, hb⟩
    go_wp2
    go_ret
    exact ⟨rfl, hb⟩
  · have h40I : ¬ (40 : Int) < (l.length : Int) := by omega
    have HR := Lib.hid hR
    have CR : Hid (∀ W', Below w.heap.size w W' → Calls Try.prog 11 #[v, .int .i64 p] W' fun e w' => e = .returned (.bool (rightB l p)) ∧ Below w.heap.size w w') := fun W' h =>
      (right_any l v p W' (hR.later h)).mono fun e w' ⟨he, hb⟩ => ⟨he, h.trans (hb.mono h.size)⟩
    cases hr : rightB l p with
    | false =>
      rw [hr] at CR
      obtain ⟨n, hn⟩ : ∃ n, l.length = n := ⟨_, rfl⟩
      rw [hn] at hv h40I
      subst hv
      clear hR hn h40 HR hr
      go_enter Try.func5, Try.ntmps5
      go_wp2_with fail
      refine HW.out.mono ?_
      rintro e w1 ⟨rfl, hb⟩
      go_wp2_with fail
      refine (CR.out _ hb).mono ?_
      rintro e w2 ⟨rfl, hb2⟩
      go_wp2
      go_ret
      exact ⟨rfl, hb2⟩
    | true =>
      rw [hr] at CR
      obtain ⟨hl1, hl2, hp1, hp2, hall⟩ := rightB_iff.1 hr
      have HRT := Lib.hid hr
      have CD : Hid (∀ W', Below w.heap.size w W' → Calls Try.prog 8 #[v, .int .i64 p] W' fun e w' => e = .returned (.tuple #[.int .i64 (atN (deadL l p) : Nat), .bool (deadL l p).isSome]) ∧ Below w.heap.size w w') := fun W' h =>
        (deadP_any l v p W' (HR.out.later h)).mono fun e w' ⟨he, hb⟩ => ⟨he, h.trans (hb.mono h.size)⟩
      have CO : Hid (∀ W', Below w.heap.size w W' → Calls Try.prog 13 #[v, .int .i64 p] W' fun e w' => e = .returned (.int .i64 (roomL l p)) ∧ Below w.heap.size w w') := fun W' h =>
        (room_any l v p W' (HR.out.later h)).mono fun e w' ⟨he, hb⟩ => ⟨he, h.trans (hb.mono h.size)⟩
      have hroom : 0 ≤ roomL l p ∧ roomL l p ≤ 512 := by
        unfold roomL
        rw [if_pos hr]
        obtain ⟨h1, h2⟩ := roomTo_bound (p := p) (by omega) hall l.length (Nat.le_refl _)
        have h3 : p * (l.length : Int) ≤ 16 * (l.length : Int) := Int.mul_le_mul_of_nonneg_right hp2 (by omega)
        omega
      have HROOM := Lib.hid hroom
      obtain ⟨B, o, cap, hv2, hlc, hcm, hcs⟩ := hR.form (by omega)
      obtain ⟨n, hn⟩ : ∃ n, l.length = n := ⟨_, rfl⟩
      have HN := Lib.hid hn
      have HC : Hid (∀ W' (i : Nat) y, Below w.heap.size w W' → l[i]? = some y → W'.cell? ⟨B, o + i * 4, none⟩ = some (.int .i64 y.live) ∧ W'.cell? ⟨B, o + i * 4 + 1, none⟩ = some (.int .i64 y.used) ∧ W'.cell? ⟨B, o + i * 4 + 2, none⟩ = some (.int .i64 y.worn) ∧ W'.cell? ⟨B, o + i * 4 + 3, none⟩ = some (.bool y.bad)) := fun W' i y hb hy =>
        four_cells (fun j u hu => keep_cell (hcs j u hu) hb) hy
      rw [hn] at hv2 h40I hl1 hl2
      have hn63 : (n : Int) ≤ 32 := by omega
      have d40 : decide ((40 : Int) < n) = false := by simp; omega
      obtain ⟨k, hk⟩ : ∃ k, a % n = k := ⟨_, rfl⟩
      have hkn : k < n := by rw [← hk]; exact Nat.mod_lt _ (by omega)
      have hknI : (k : Int) < n := by omega
      have hk0 : (0 : Int) ≤ k := by omega
      have hak : ((a : Int).tmod (n : Int)) = (k : Int) := by rw [← hk]; rfl
      have hn0 : ((n : Int) == 0) = false := by simp; omega
      have haw : wrap64 (a : Int) = a := by unfold wrap64; omega
      obtain ⟨x, hx⟩ : ∃ x, l[k]? = some x := ⟨l[k]'(by omega), List.getElem?_eq_getElem _⟩
      have HX := Lib.hid hx
      have HRX := Lib.hid (hall x (List.mem_of_getElem? hx))
      have HP := Lib.hid (And.intro hp1 hp2)
      subst hv2
      clear hR hv hr hall hlc hcm hcs hn h40 hp1 hp2 hk hx hroom
      go_enter Try.func5, Try.ntmps5
      go_wp2_with fail
      refine HW.out.mono ?_
      rintro e w1 ⟨rfl, hb1⟩
      have H1 := Lib.hid hb1
      clear hb1
      go_wp2_with fail
      refine (CR.out _ H1.out).mono ?_
      rintro e w2 ⟨rfl, hb2⟩
      have H2 := Lib.hid hb2
      clear hb2 CR HW H1
      go_upto_region 6 with fail
      clear hak haw hn0 ha
      have HI : Hid (OwnW (w2.alloc (.cells #[] 31)) w2.heap.size (.slice (some ⟨w2.heap.size, 0, none⟩) 0 0) [] ∧ RdW (w2.alloc (.cells #[] 31)) (.slice (some ⟨B, o, none⟩) n cap) l ∧ w2.heap.size ≤ (w2.alloc (.cells #[] 31)).heap.size ∧ Below w.heap.size w (w2.alloc (.cells #[] 31)) ∧ ([] : List Wb).length + l.length ≤ 100000) := by
        have hb := H2.out.trans ((below1 w2 (.cells #[] 31)).mono H2.out.size)
        have hl := HN.out
        exact ⟨OwnW.empty w2, HR.out.later hb, by simp, hb, by simp; omega⟩
      go_upto_region 7 with (at_builtin; refine wpList_appendW rfl _ _ rfl rfl rfl HI.out.1 HI.out.2.1 HI.out.2.2.1 HI.out.2.2.2.2 ?_; intro v1 w3 h1 h2)
      rw [List.nil_append] at h1
      obtain ⟨g1, cap1, hv1, -, -, hg1, -⟩ := own_form h1 (by have := HN.out; omega)
      rw [HN.out] at hv1
      subst hv1
      have hb3 : Below w.heap.size w w3 := HI.out.2.2.2.1.trans ((HI.out.1.below h2 HI.out.2.2.1).mono H2.out.size)
      obtain ⟨⟨-, -, -, q3⟩, qf⟩ := h1.at HX.out
      have qf3 := qf (k * 4 + 3)
      obtain ⟨h4, h5⟩ := h1.store (b' := ⟨x.live, x.used, x.worn, true⟩) HX.out (show 3 < 4 by omega) (.bool true) rfl
      have H4 : Hid (OwnW (w3.setCell ⟨g1, k * 4 + 3, none⟩ (.bool true)) w2.heap.size (.slice (some ⟨g1, 0, none⟩) n cap1) (l.set k ⟨x.live, x.used, x.worn, true⟩) ∧ Below w.heap.size w (w3.setCell ⟨g1, k * 4 + 3, none⟩ (.bool true))) := ⟨h4, hb3.trans (h5.mono H2.out.size)⟩
      clear h1 h2 h4 h5 qf hb3 HI
      go_upto_region 8 with fail
      obtain ⟨w4, hw4⟩ : ∃ w4, w4 = w3.setCell ⟨g1, k * 4 + 3, none⟩ (.bool true) := ⟨_, rfl⟩
      rw [← hw4] at H4
      rw [← hw4]
      clear hw4 q3 qf3
      have HOM : Hid (∀ W', Below w4.heap.size w4 W' → Calls Try.prog 13 #[.slice (some ⟨g1, 0, none⟩) n cap1, .int .i64 p] W' fun e w' => e = .returned (.int .i64 (roomL l p - roomE p x)) ∧ Below w.heap.size w w') := fun W' h => by
        have h1 := H4.out.2.trans (h.mono H4.out.2.size)
        rw [← room_bad HRT.out HX.out]
        exact (room_any _ _ p W' (H4.out.1.rd.later h)).mono fun e w' ⟨he, hb⟩ => ⟨he, h1.trans (hb.mono h1.size)⟩
      have hrb : 0 ≤ roomE p x ∧ roomE p x ≤ 16 := by
        have h1 := HP.out
        have := roomE_bound (p := p) (by omega) HRX.out
        omega
      have HRB := Lib.hid hrb
      obtain ⟨k0, k1, -, k3⟩ := HC.out w4 k x H4.out.2 HX.out
      go_upto_if 44 with fail
      go_cut [9] from 39 to 58 (fun t wx => t = .int .i64 (roomE p x) ∧ wx = w4)
      case first =>
        cases hb : x.bad with
        | true =>
          have HE := Lib.hid (room_of_bad (p := p) hb)
          clear hrb HC k3
          go_wp2
          go_meet
          exact ⟨by rw [HE.out], rfl⟩
        | false =>
          by_cases hl : x.live = 0
          · have HE := Lib.hid (room_of_free HRX.out hb hl)
            have q1 : (x.live == 0) = true := by simpa using hl
            have hw : wrap64 (p - x.used) = p - x.used := by have := rightE_iff.1 HRX.out; have := HP.out; unfold wrap64; omega
            clear hl hrb HC k3
            go_wp2
            go_meet
            exact ⟨by rw [HE.out], rfl⟩
          · have HE := Lib.hid (room_of_part (p := p) hb hl)
            have q1 : (x.live == 0) = false := by simpa using hl
            have hw : wrap64 (p - x.used) = p - x.used := by have := rightE_iff.1 HRX.out; have := HP.out; unfold wrap64; omega
            clear hl hrb HC k3
            go_wp2
            go_meet
            exact ⟨by rw [HE.out, hw], rfl⟩
      case rest =>
      obtain ⟨rfl, hwc⟩ := hcut
      obtain rfl : w4 = wc := hwc.symm
      clear hwc HC k0 k1 k3
      have hsub : wrap64 (roomL l p - roomE p x) = roomL l p - roomE p x := by have := HROOM.out; unfold wrap64; omega
      obtain ⟨y, hy⟩ : ∃ y, roomL l p - roomE p x = y := ⟨_, rfl⟩
      rw [hy] at HOM hsub
      clear hrb
      go_wp2_with fail
      refine (HOM.out _ (Below.refl _ _)).mono ?_
      rintro e w5 ⟨rfl, hb5⟩
      have H5 := Lib.hid hb5
      clear hb5
      go_wp2_with fail
      refine (CO.out _ H5.out).mono ?_
      rintro e w6 ⟨rfl, hb6⟩
      have H6 := Lib.hid hb6
      clear hb6
      go_wp2_with fail
      refine (CD.out _ H6.out).mono ?_
      rintro e w7 ⟨rfl, hb7⟩
      have H7 := Lib.hid hb7
      clear hb7 CO CD HOM H5 H6 H4 hsub hy
      have HI : Hid (OwnW (w7.alloc (.cells #[] 31)) w7.heap.size (.slice (some ⟨w7.heap.size, 0, none⟩) 0 0) [] ∧ RdW (w7.alloc (.cells #[] 31)) (.slice (some ⟨B, o, none⟩) n cap) l ∧ w7.heap.size ≤ (w7.alloc (.cells #[] 31)).heap.size ∧ Below w.heap.size w (w7.alloc (.cells #[] 31)) ∧ ([] : List Wb).length + l.length ≤ 100000) := by
        have hb := H7.out.trans ((below1 w7 (.cells #[] 31)).mono H7.out.size)
        have hl := HN.out
        exact ⟨OwnW.empty w7, HR.out.later hb, by simp, hb, by simp; omega⟩
      go_upto_region 17 with (at_builtin; refine wpList_appendW rfl _ _ rfl rfl rfl HI.out.1 HI.out.2.1 HI.out.2.2.1 HI.out.2.2.2.2 ?_; intro v2 w8 h1 h2)
      rw [List.nil_append] at h1
      obtain ⟨g2, cap2, hv2, -, -, hg2, -⟩ := own_form h1 (by have := HN.out; omega)
      rw [HN.out] at hv2
      subst hv2
      have hb8 : Below w.heap.size w w8 := HI.out.2.2.2.1.trans ((HI.out.1.below h2 HI.out.2.2.1).mono H7.out.size)
      obtain ⟨⟨-, -, q2, -⟩, qf⟩ := h1.at HX.out
      have qf2 := qf (k * 4 + 2)
      have H8 := Lib.hid (And.intro h1 hb8)
      clear h1 h2 qf hb8 HI
      go_upto_if 82 with fail
      go_cut [] from 77 to 90 (fun wx => ∃ z : Int, Hid (x.worn ≤ z ∧ z ≤ 1099511627776) ∧ Hid (OwnW wx w7.heap.size (.slice (some ⟨g2, 0, none⟩) n cap2) (l.set k ⟨x.live, x.used, z, x.bad⟩)) ∧ Hid (Below w.heap.size w wx))
      case first =>
        by_cases hz : x.worn < 549755813888
        · have hw : wrap64 (x.worn + 1) = x.worn + 1 := by have := rightE_iff.1 HRX.out; unfold wrap64; omega
          obtain ⟨h4, h5⟩ := H8.out.1.store (b' := ⟨x.live, x.used, x.worn + 1, x.bad⟩) HX.out (show 2 < 4 by omega) (.int .i64 (x.worn + 1)) rfl
          have H9 : Hid (OwnW (w8.setCell ⟨g2, k * 4 + 2, none⟩ (.int .i64 (x.worn + 1))) w7.heap.size (.slice (some ⟨g2, 0, none⟩) n cap2) (l.set k ⟨x.live, x.used, x.worn + 1, x.bad⟩) ∧ Below w.heap.size w (w8.setCell ⟨g2, k * 4 + 2, none⟩ (.int .i64 (x.worn + 1)))) := ⟨h4, H8.out.2.trans (h5.mono H7.out.size)⟩
          clear h4 h5
          go_wp2
          go_meet
          exact ⟨x.worn + 1, Lib.hid (by constructor <;> omega), Lib.hid H9.out.1, Lib.hid H9.out.2⟩
        · have H9 : Hid (OwnW w8 w7.heap.size (.slice (some ⟨g2, 0, none⟩) n cap2) (l.set k ⟨x.live, x.used, x.worn, x.bad⟩)) := by
            have e : l.set k ⟨x.live, x.used, x.worn, x.bad⟩ = l := set_same HX.out
            show OwnW _ _ _ _
            rw [e]
            exact H8.out.1
          go_wp2
          go_meet
          exact ⟨x.worn, Lib.hid (by have := rightE_iff.1 HRX.out; omega), H9, Lib.hid H8.out.2⟩
      case rest =>
      obtain ⟨z, HZ, H9, H10⟩ := hcut
      clear q2 qf2 H8
      obtain ⟨E, hE⟩ : ∃ E, deadL (l.set k ⟨x.live, x.used, z, x.bad⟩) p = E := ⟨_, rfl⟩
      obtain ⟨D, hD⟩ : ∃ D, deadL l p = D := ⟨_, rfl⟩
      have hmore := dead_more HRT.out HX.out HZ.out.1 HZ.out.2
      rw [hE, hD] at hmore
      have HM := Lib.hid hmore
      rw [hD]
      have CE : Hid (Calls Try.prog 8 #[.slice (some ⟨g2, 0, none⟩) n cap2, .int .i64 p] wc fun e w' => e = .returned (.tuple #[.int .i64 (atN E : Nat), .bool E.isSome]) ∧ Below wc.heap.size wc w') := by
        have := deadP_any _ _ p wc H9.out.rd
        unfold FirstPost at this
        rw [hE] at this
        exact this
      clear hE hD hmore
      go_wp2_with fail
      refine CE.out.mono ?_
      rintro e w10 ⟨rfl, hb10⟩
      have H11 := Lib.hid (H9.out.later hb10)
      have H12 := Lib.hid (H10.out.trans (hb10.mono H10.out.size))
      clear hb10 CE H9 H10
      go_upto_region 20 with fail
      go_cut [112] from 97 to 112 (fun t wx => t = .bool false ∧ wx = w10)
      case first =>
        rcases D with - | d
        · rcases E with - | e
          · simp only [atN_none, Option.isSome_none]
            go_wp2
            go_meet
            exact ⟨rfl, rfl⟩
          · exact absurd HM.out.1 (by simp)
        · rcases E with - | e
          · exact absurd HM.out.1 (by simp)
          · simp only [atN_some, Option.isSome_some]
            by_cases hkd : k = d
            · have q1 : ((k : Int) != (d : Int)) = false := by rw [hkd]; simp
              by_cases hed : e = d
              · have q2 : ((e : Int) != (d : Int)) = false := by rw [hed]; simp
                clear hkd hed
                go_wp2
                go_meet
                exact ⟨rfl, rfl⟩
              · have q2 : ((e : Int) != (d : Int)) = true := by simp; omega
                clear hkd hed
                go_wp2
                go_meet
                exact ⟨rfl, rfl⟩
            · have q2 : ((e : Int) != (d : Int)) = false := by
                have := HM.out.2 d rfl hkd
                rw [Option.some.inj this]; simp
              clear hkd
              go_wp2
              go_meet
              exact ⟨rfl, rfl⟩
      case rest =>
      obtain ⟨rfl, hwc⟩ := hcut
      obtain rfl : w10 = wc := hwc.symm
      clear hwc HM
      go_wp2
      go_loopw [15] (fun t wr => ∃ (i : Nat) (L : List Wb), i ≤ n ∧ t = .int .i64 i ∧ Hid (OwnW wr w7.heap.size (.slice (some ⟨g2, 0, none⟩) n cap2) L) ∧ Hid (L.length = n ∧ ∀ (j : Nat) b, j < i → L[j]? = some b → b.worn = 7) ∧ Hid (Below w.heap.size w wr)) (fun t _ => n - (intOf t).toNat)
      case atStart => exact ⟨0, _, Nat.zero_le _, rfl, H11, ⟨by rw [List.length_set]; exact HN.out, fun j b hj => absurd hj (Nat.not_lt_zero _)⟩, H12⟩
      case round =>
      obtain ⟨i, L, hi, rfl, HO, HL, HWR⟩ := hrel
      by_cases hlt : i < n
      · have hltI : (i : Int) < n := by omega
        have hi0 : (0 : Int) ≤ i := by omega
        obtain ⟨y2, hy2⟩ : ∃ y, L[i]? = some y := ⟨L[i]'(by rw [HL.out.1]; exact hlt), List.getElem?_eq_getElem _⟩
        obtain ⟨⟨-, -, q2, -⟩, qf⟩ := HO.out.at hy2
        have qf2 := qf (i * 4 + 2)
        obtain ⟨h4, h5⟩ := HO.out.store (b' := ⟨y2.live, y2.used, 7, y2.bad⟩) hy2 (show 2 < 4 by omega) (.int .i64 7) rfl
        have H13 := Lib.hid (And.intro h4 (HWR.out.trans (h5.mono H7.out.size)))
        have H14 : Hid ((L.set i ⟨y2.live, y2.used, 7, y2.bad⟩).length = n ∧ ∀ (j : Nat) b, j < i + 1 → (L.set i ⟨y2.live, y2.used, 7, y2.bad⟩)[j]? = some b → b.worn = 7) := ⟨by rw [List.length_set]; exact HL.out.1, fun j b hj hb => by
          rw [List.getElem?_set] at hb
          by_cases e : i = j
          · rw [if_pos e] at hb
            split at hb
            · rw [← Option.some.inj hb]
            · cases hb
          · rw [if_neg e] at hb
            exact HL.out.2 j b (by omega) hb⟩
        clear h4 h5 qf hy2
        go_wp2
        go_roundw
        case rel => exact ⟨i + 1, _, by omega, by go_num, Lib.hid H13.out.1, H14, Lib.hid H13.out.2⟩
        case measure => simp [intOf]; omega
      · obtain rfl : i = n := by omega
        have CS : Hid (Calls Try.prog 15 #[.slice (some ⟨g2, 0, none⟩) i cap2] wr fun e w' => e = .returned (.int .i64 0) ∧ Below wr.heap.size wr w') := by
          have h := spread_any L _ wr HO.out.rd
          rw [spread_alike (z := 7) (fun b hb => by
            obtain ⟨j, hj⟩ := List.mem_iff_getElem?.1 hb
            exact HL.out.2 j b (by have := (List.getElem?_eq_some_iff.1 hj).1; have := HL.out.1; omega) hj)] at h
          exact h
        go_wp2_with fail
        refine CS.out.mono ?_
        rintro e w11 ⟨rfl, hb11⟩
        go_wp2
        go_ret
        exact ⟨rfl, HWR.out.trans (hb11.mono HWR.out.size)⟩
end Go.Proofs.Ytkpdkpfmljcllaa.Wear
