/- The law of who is dead, who is the front, who the victim. -/
import Derived.Test.YtkpdkpfmljcllaaWLeastP
namespace Go.Proofs.Ytkpdkpfmljcllaa.Wear
open Go.RowKit Go.Sort Go.Shelf
attribute [local go_sem ↓] loadVar_wb storeVar_wb loadVar_bl storeVar_bl build_bl build_wb

theorem atN_none : atN none = 0 := rfl
theorem atN_some (k : Nat) : atN (some k) = k := rfl

set_option maxHeartbeats 4000000 in
set_option maxRecDepth 100000 in
theorem walkLeast (l : List Wb) (v : Value) (p : Int) (w : World) (hR : RdW w v l) :
    Calls Try.prog 4 #[v, .int .i64 p] w fun e w' => e = .returned (.bool true) ∧ Below w.heap.size w w' := by
  have HW := Lib.hid (awake_any w)
  obtain ⟨a0, c0, hv, -, -⟩ := hR.len
  by_cases h40 : 40 < l.length
  · have h40I : (40 : Int) < (l.length : Int) := by omega
    obtain ⟨n, hn⟩ : ∃ n, l.length = n := ⟨_, rfl⟩
    rw [hn] at hv h40I
    subst hv
    clear hR hn h40
    go_enter Try.func4, Try.ntmps4
    go_wp2_with fail
    refine HW.out.mono ?_
    rintro e w1 ⟨rfl, hb⟩
    go_wp2
    go_ret
    exact ⟨rfl, hb⟩
  · have h40I : ¬ (40 : Int) < (l.length : Int) := by omega
    have HR := Lib.hid hR
    have CR : Hid (∀ W', Below w.heap.size w W' → Calls Try.prog 11 #[v, .int .i64 p] W' fun e w' => e = .returned (.bool (rightB l p)) ∧ Below w.heap.size w w') := fun W' h =>
      (right_any l v p W' (hR.later h)).mono fun e w' ⟨he, hb⟩ => ⟨he, h.trans (hb.mono h.size)⟩
    cases hr : rightB l p with
    | false =>
      rw [hr] at CR
      obtain ⟨n, hn⟩ : ∃ n, l.length = n := ⟨_, rfl⟩
      rw [hn] at hv h40I
      subst hv
      clear hR hn h40 HR hr
      go_enter Try.func4, Try.ntmps4
      go_wp2_with fail
      refine HW.out.mono ?_
      rintro e w1 ⟨rfl, hb⟩
      go_wp2_with fail
      refine (CR.out _ hb).mono ?_
      rintro e w2 ⟨rfl, hb2⟩
      go_wp2
      go_ret
      exact ⟨rfl, hb2⟩
    | true =>
      rw [hr] at CR
      obtain ⟨hl1, hl2, hp1, hp2, hall⟩ := rightB_iff.1 hr
      have hlst := least_is hr
      have CF : Hid (∀ W', Below w.heap.size w W' → Calls Try.prog 7 #[v, .int .i64 p] W' fun e w' => e = .returned (.tuple #[.int .i64 (atN (frontL l p) : Nat), .bool (frontL l p).isSome]) ∧ Below w.heap.size w w') := fun W' h =>
        (front_any l v p W' (HR.out.later h)).mono fun e w' ⟨he, hb⟩ => ⟨he, h.trans (hb.mono h.size)⟩
      have CD : Hid (∀ W', Below w.heap.size w W' → Calls Try.prog 8 #[v, .int .i64 p] W' fun e w' => e = .returned (.tuple #[.int .i64 (atN (deadL l p) : Nat), .bool (deadL l p).isSome]) ∧ Below w.heap.size w w') := fun W' h =>
        (deadP_any l v p W' (HR.out.later h)).mono fun e w' ⟨he, hb⟩ => ⟨he, h.trans (hb.mono h.size)⟩
      have CV : Hid (∀ W', Below w.heap.size w W' → Calls Try.prog 9 #[v, .int .i64 p] W' fun e w' => e = .returned (.tuple #[.int .i64 (atN (victimL l p) : Nat), .bool (victimL l p).isSome]) ∧ Below w.heap.size w w') := fun W' h =>
        (victim_any l v p W' (HR.out.later h)).mono fun e w' ⟨he, hb⟩ => ⟨he, h.trans (hb.mono h.size)⟩
      have CO : Hid (∀ W', Below w.heap.size w W' → Calls Try.prog 13 #[v, .int .i64 p] W' fun e w' => e = .returned (.int .i64 (roomL l p)) ∧ Below w.heap.size w w') := fun W' h =>
        (room_any l v p W' (HR.out.later h)).mono fun e w' ⟨he, hb⟩ => ⟨he, h.trans (hb.mono h.size)⟩
      obtain ⟨f, hf⟩ : ∃ f, frontL l p = f := ⟨_, rfl⟩
      obtain ⟨d, hd⟩ : ∃ d, deadL l p = d := ⟨_, rfl⟩
      obtain ⟨x, hx⟩ : ∃ x, victimL l p = x := ⟨_, rfl⟩
      obtain ⟨R, hRm⟩ : ∃ R, roomL l p = R := ⟨_, rfl⟩
      rw [hf] at CF hlst
      rw [hd] at CD hlst
      rw [hx] at CV hlst
      rw [hRm] at CO hlst
      have HLST := Lib.hid hlst
      have hmul : p * (l.length : Int) ≤ 16 * (l.length : Int) := Int.mul_le_mul_of_nonneg_right hp2 (by omega)
      have hmul0 : 0 ≤ p * (l.length : Int) := Int.mul_nonneg (by omega) (by omega)
      have hmost := hlst.most
      obtain ⟨B, o, cap, hv2, hlc, hcm, hcs⟩ := hR.form (by omega)
      obtain ⟨n, hn⟩ : ∃ n, l.length = n := ⟨_, rfl⟩
      have HN := Lib.hid hn
      have HC : Hid (∀ W' (i : Nat) y, Below w.heap.size w W' → l[i]? = some y → W'.cell? ⟨B, o + i * 4, none⟩ = some (.int .i64 y.live) ∧ W'.cell? ⟨B, o + i * 4 + 1, none⟩ = some (.int .i64 y.used) ∧ W'.cell? ⟨B, o + i * 4 + 2, none⟩ = some (.int .i64 y.worn) ∧ W'.cell? ⟨B, o + i * 4 + 3, none⟩ = some (.bool y.bad)) := fun W' i y hb hy =>
        four_cells (fun j u hu => keep_cell (hcs j u hu) hb) hy
      rw [hn] at hv2 h40I hl1 hl2 hmul hmul0 hmost
      have hn63 : (n : Int) ≤ 32 := by omega
      have d40 : decide ((40 : Int) < n) = false := by simp; omega
      have hwm : wrap64 (p * (n : Int)) = p * n := by unfold wrap64; omega
      have HM := Lib.hid (And.intro hwm hmost)
      subst hv2
      clear hR hv hr hall hlst hf hd hx hRm hmul hmul0 hlc hcm hcs hn HR h40 hwm hmost hp1 hp2
      go_enter Try.func4, Try.ntmps4
      go_wp2_with fail
      refine HW.out.mono ?_
      rintro e w1 ⟨rfl, hb1⟩
      have H1 := Lib.hid hb1
      clear hb1
      go_wp2_with fail
      refine (CR.out _ H1.out).mono ?_
      rintro e w2 ⟨rfl, hb2⟩
      have H2 := Lib.hid hb2
      clear hb2 CR
      go_wp2_with fail
      refine (CF.out _ H2.out).mono ?_
      rintro e w3 ⟨rfl, hb3⟩
      have H3 := Lib.hid hb3
      clear hb3 CF
      go_wp2_with fail
      refine (CD.out _ H3.out).mono ?_
      rintro e w4 ⟨rfl, hb4⟩
      have H4 := Lib.hid hb4
      clear hb4 CD
      go_wp2_with fail
      refine (CV.out _ H4.out).mono ?_
      rintro e w5 ⟨rfl, hb5⟩
      have H5 := Lib.hid hb5
      clear hb5 CV H1 H2 H3 H4 HW
      go_upto_region 8 with fail
      go_cut [86] from 41 to 86 (fun t wx => t = .bool false ∧ wx = w5)
      case first =>
        have HF : Hid (∀ k, f = some k → (k : Int) < n ∧ ∃ y : Wb, w5.cell? ⟨B, o + k * 4 + 3, none⟩ = some (.bool false) ∧ w5.cell? ⟨B, o + k * 4 + 1, none⟩ = some (.int .i64 y.used) ∧ y.used < p) := fun k hk => by
          obtain ⟨y, h1, h2, h3, -⟩ := HLST.out.front k hk
          obtain ⟨-, c1, -, c3⟩ := HC.out w5 k y H5.out h1
          have := (List.getElem?_eq_some_iff.1 h1).1
          have := HN.out
          rw [h2] at c3
          exact ⟨by omega, y, c3, c1, h3⟩
        have HD : Hid (∀ k, d = some k → (k : Int) < n ∧ w5.cell? ⟨B, o + k * 4 + 3, none⟩ = some (.bool false) ∧ w5.cell? ⟨B, o + k * 4, none⟩ = some (.int .i64 0)) := fun k hk => by
          obtain ⟨y, h1, h2, h3, -⟩ := HLST.out.dead k hk
          obtain ⟨c0, -, -, c3⟩ := HC.out w5 k y H5.out h1
          have := (List.getElem?_eq_some_iff.1 h1).1
          have := HN.out
          rw [h2] at c3
          rw [h3] at c0
          exact ⟨by omega, c3, c0⟩
        have HV : Hid (∀ k, x = some k → (k : Int) < n ∧ ∃ z : Int, w5.cell? ⟨B, o + k * 4, none⟩ = some (.int .i64 z) ∧ (z == 0) = false) := fun k hk => by
          obtain ⟨y, h1, h2⟩ := HLST.out.victim k hk
          obtain ⟨c0, -, -, -⟩ := HC.out w5 k y H5.out h1
          have := (List.getElem?_eq_some_iff.1 h1).1
          have := HN.out
          exact ⟨by omega, y.live, c0, by simpa using h2⟩
        clear HC
        rcases f with - | kf
        · rcases d with - | kd
          · rcases x with - | kx
            · simp only [atN_none, Option.isSome_none]
              go_wp2
              go_meet
              exact ⟨rfl, rfl⟩
            · obtain ⟨x1, z, x2, x3⟩ := HV.out kx rfl
              have x0 : (0 : Int) ≤ kx := by omega
              simp only [atN_none, atN_some, Option.isSome_none, Option.isSome_some]
              go_wp2
              go_meet
              exact ⟨rfl, rfl⟩
          · obtain ⟨d1, d2, d3⟩ := HD.out kd rfl
            have d0 : (0 : Int) ≤ kd := by omega
            rcases x with - | kx
            · simp only [atN_none, atN_some, Option.isSome_none, Option.isSome_some]
              go_wp2
              go_meet
              exact ⟨rfl, rfl⟩
            · obtain ⟨x1, z, x2, x3⟩ := HV.out kx rfl
              have x0 : (0 : Int) ≤ kx := by omega
              simp only [atN_none, atN_some, Option.isSome_none, Option.isSome_some]
              go_wp2
              go_meet
              exact ⟨rfl, rfl⟩
        · obtain ⟨f1, y, f2, f3, f4⟩ := HF.out kf rfl
          have f5 : decide (p ≤ y.used) = false := by simp; omega
          have f0 : (0 : Int) ≤ kf := by omega
          rcases d with - | kd
          · rcases x with - | kx
            · simp only [atN_none, atN_some, Option.isSome_none, Option.isSome_some]
              go_wp2
              go_meet
              exact ⟨rfl, rfl⟩
            · obtain ⟨x1, z, x2, x3⟩ := HV.out kx rfl
              have x0 : (0 : Int) ≤ kx := by omega
              simp only [atN_none, atN_some, Option.isSome_none, Option.isSome_some]
              go_wp2
              go_meet
              exact ⟨rfl, rfl⟩
          · obtain ⟨d1, d2, d3⟩ := HD.out kd rfl
            have d0 : (0 : Int) ≤ kd := by omega
            rcases x with - | kx
            · simp only [atN_none, atN_some, Option.isSome_none, Option.isSome_some]
              go_wp2
              go_meet
              exact ⟨rfl, rfl⟩
            · obtain ⟨x1, z, x2, x3⟩ := HV.out kx rfl
              have x0 : (0 : Int) ≤ kx := by omega
              simp only [atN_some, Option.isSome_some]
              go_wp2
              go_meet
              exact ⟨rfl, rfl⟩
      case rest =>
      obtain ⟨rfl, hwc⟩ := hcut
      obtain rfl : w5 = wc := hwc.symm
      go_wp2
      clear hwc
      go_loopw [11] (fun t wr => ∃ i : Nat, i ≤ n ∧ t = .int .i64 i ∧ Hid (Below w.heap.size w wr)) (fun t _ => n - (intOf t).toNat)
      case atStart => exact ⟨0, Nat.zero_le _, rfl, H5⟩
      case round =>
      obtain ⟨i, hi, rfl, HWR⟩ := hrel
      by_cases hlt : i < n
      · have hltI : (i : Int) < n := by omega
        have hi0 : (0 : Int) ≤ i := by omega
        obtain ⟨xi, hxi⟩ : ∃ x, l[i]? = some x := ⟨l[i]'(by rw [HN.out]; exact hlt), List.getElem?_eq_getElem _⟩
        have HV : Hid (∀ (d : Nat) (os : Array Obj), Below w.heap.size w (grow (redrawn wr d) os)) := fun d os => HWR.out.trans ((below_regrown wr d os).mono HWR.out.size)
        have c0 := fun (d : Nat) (os : Array Obj) => (HC.out (grow (redrawn wr d) os) i xi (HV.out d os) hxi).1
        have c1 := fun (d : Nat) (os : Array Obj) => (HC.out (grow (redrawn wr d) os) i xi (HV.out d os) hxi).2.1
        have c2 := fun (d : Nat) (os : Array Obj) => (HC.out (grow (redrawn wr d) os) i xi (HV.out d os) hxi).2.2.1
        have c3 := fun (d : Nat) (os : Array Obj) => (HC.out (grow (redrawn wr d) os) i xi (HV.out d os) hxi).2.2.2
        go_upto_region 13 with fail
        go_cut [130] from 87 to 161 (fun t wx => t = .bool false ∧ Hid (Below w.heap.size w wx))
        case first =>
          rcases d with - | k
          · simp only [atN_none, Option.isSome_none]
            refine wp_region_quiet_below (by kernel_rfl) (by kernel_rfl) ?_
            repeat (go_big_quiet_step (fail))
            refine wpQuiet_nil fun w9 hw9 => ?_
            have HB9 : Hid (Below w.heap.size w w9) := by
              obtain ⟨z, rfl⟩ := hw9
              exact HWR.out.trans ((below_regrown wr z.d z.os).mono HWR.out.size)
            clear hw9
            go_wp2
            go_meet
            exact ⟨rfl, HB9⟩
          · obtain ⟨y, e1, -, -, e4⟩ := HLST.out.dead k rfl
            have hk0 : (0 : Int) ≤ k := by omega
            have hkn : (k : Int) < n := by have := (List.getElem?_eq_some_iff.1 e1).1; have := HN.out; omega
            have c5 := fun (d : Nat) (os : Array Obj) => (HC.out (grow (redrawn wr d) os) k y (HV.out d os) e1).2.2.1
            simp only [atN_some, Option.isSome_some]
            cases hbad : xi.bad with
            | true =>
              rw [hbad] at c3
              refine wp_region_quiet_below (by kernel_rfl) (by kernel_rfl) ?_
              repeat (go_big_quiet_step (fail))
              refine wpQuiet_nil fun w9 hw9 => ?_
              have HB9 : Hid (Below w.heap.size w w9) := by
                obtain ⟨z, rfl⟩ := hw9
                exact HWR.out.trans ((below_regrown wr z.d z.os).mono HWR.out.size)
              clear hw9
              go_wp2
              go_meet
              exact ⟨rfl, HB9⟩
            | false =>
              rw [hbad] at c3
              by_cases hlv : xi.live = 0
              · have q1 : (xi.live == 0) = true := by simpa using hlv
                by_cases hus : 0 < xi.used
                · have q2 : decide (0 < xi.used) = true := decide_eq_true hus
                  have q3 : decide (xi.worn < y.worn) = false := by have := e4 i xi hxi hbad hlv hus; simp; omega
                  refine wp_region_quiet_below (by kernel_rfl) (by kernel_rfl) ?_
                  repeat (go_big_quiet_step (fail))
                  refine wpQuiet_nil fun w9 hw9 => ?_
                  have HB9 : Hid (Below w.heap.size w w9) := by
                    obtain ⟨z, rfl⟩ := hw9
                    exact HWR.out.trans ((below_regrown wr z.d z.os).mono HWR.out.size)
                  clear hw9
                  go_wp2
                  go_meet
                  exact ⟨rfl, HB9⟩
                · have q2 : decide (0 < xi.used) = false := decide_eq_false hus
                  refine wp_region_quiet_below (by kernel_rfl) (by kernel_rfl) ?_
                  repeat (go_big_quiet_step (fail))
                  refine wpQuiet_nil fun w9 hw9 => ?_
                  have HB9 : Hid (Below w.heap.size w w9) := by
                    obtain ⟨z, rfl⟩ := hw9
                    exact HWR.out.trans ((below_regrown wr z.d z.os).mono HWR.out.size)
                  clear hw9
                  go_wp2
                  go_meet
                  exact ⟨rfl, HB9⟩
              · have q1 : (xi.live == 0) = false := by simpa using hlv
                refine wp_region_quiet_below (by kernel_rfl) (by kernel_rfl) ?_
                repeat (go_big_quiet_step (fail))
                refine wpQuiet_nil fun w9 hw9 => ?_
                have HB9 : Hid (Below w.heap.size w w9) := by
                  obtain ⟨z, rfl⟩ := hw9
                  exact HWR.out.trans ((below_regrown wr z.d z.os).mono HWR.out.size)
                clear hw9
                go_wp2
                go_meet
                exact ⟨rfl, HB9⟩
        case rest =>
        clear c0 c1 c2 c3 HV
        rename_i wc
        obtain ⟨rfl, HWR2⟩ := hcut
        clear HWR
        have HWR := HWR2
        clear HWR2
        have HV : Hid (∀ (d : Nat) (os : Array Obj), Below w.heap.size w (grow (redrawn wc d) os)) := fun d os => HWR.out.trans ((below_regrown wc d os).mono HWR.out.size)
        have c1 := fun (d : Nat) (os : Array Obj) => (HC.out (grow (redrawn wc d) os) i xi (HV.out d os) hxi).2.1
        have c3 := fun (d : Nat) (os : Array Obj) => (HC.out (grow (redrawn wc d) os) i xi (HV.out d os) hxi).2.2.2
        go_upto_region 15 with fail
        go_cut [161] from 87 to 161 (fun t wx => t = .bool false ∧ Hid (Below w.heap.size w wx))
        case first =>
          rcases f with - | k
          · simp only [atN_none, Option.isSome_none]
            refine wp_region_quiet_below (by kernel_rfl) (by kernel_rfl) ?_
            repeat (go_big_quiet_step (fail))
            refine wpQuiet_nil fun w9 hw9 => ?_
            have HB9 : Hid (Below w.heap.size w w9) := by
              obtain ⟨z, rfl⟩ := hw9
              exact HWR.out.trans ((below_regrown wc z.d z.os).mono HWR.out.size)
            clear hw9
            go_wp2
            go_meet
            exact ⟨rfl, HB9⟩
          · obtain ⟨y, e1, -, -, e4⟩ := HLST.out.front k rfl
            have hk0 : (0 : Int) ≤ k := by omega
            have hkn : (k : Int) < n := by have := (List.getElem?_eq_some_iff.1 e1).1; have := HN.out; omega
            have c5 := fun (d : Nat) (os : Array Obj) => (HC.out (grow (redrawn wc d) os) k y (HV.out d os) e1).2.1
            simp only [atN_some, Option.isSome_some]
            cases hbad : xi.bad with
            | true =>
              rw [hbad] at c3
              refine wp_region_quiet_below (by kernel_rfl) (by kernel_rfl) ?_
              repeat (go_big_quiet_step (fail))
              refine wpQuiet_nil fun w9 hw9 => ?_
              have HB9 : Hid (Below w.heap.size w w9) := by
                obtain ⟨z, rfl⟩ := hw9
                exact HWR.out.trans ((below_regrown wc z.d z.os).mono HWR.out.size)
              clear hw9
              go_wp2
              go_meet
              exact ⟨rfl, HB9⟩
            | false =>
              rw [hbad] at c3
              by_cases hus : xi.used < p
              · have q1 : decide (xi.used < p) = true := decide_eq_true hus
                have q3 : decide (y.used < xi.used) = false := by have := e4 i xi hxi hbad hus; simp; omega
                refine wp_region_quiet_below (by kernel_rfl) (by kernel_rfl) ?_
                repeat (go_big_quiet_step (fail))
                refine wpQuiet_nil fun w9 hw9 => ?_
                have HB9 : Hid (Below w.heap.size w w9) := by
                  obtain ⟨z, rfl⟩ := hw9
                  exact HWR.out.trans ((below_regrown wc z.d z.os).mono HWR.out.size)
                clear hw9
                go_wp2
                go_meet
                exact ⟨rfl, HB9⟩
              · have q1 : decide (xi.used < p) = false := decide_eq_false hus
                refine wp_region_quiet_below (by kernel_rfl) (by kernel_rfl) ?_
                repeat (go_big_quiet_step (fail))
                refine wpQuiet_nil fun w9 hw9 => ?_
                have HB9 : Hid (Below w.heap.size w w9) := by
                  obtain ⟨z, rfl⟩ := hw9
                  exact HWR.out.trans ((below_regrown wc z.d z.os).mono HWR.out.size)
                clear hw9
                go_wp2
                go_meet
                exact ⟨rfl, HB9⟩
        case rest =>
        rename_i wd
        obtain ⟨rfl, HW3⟩ := hcut
        clear c1 c3 HV HWR
        go_wp2
        go_roundw
        case rel => exact ⟨i + 1, by omega, by go_num, HW3⟩
        case measure => simp [intOf]; omega
      · obtain rfl : i = n := by omega
        clear HC
        rcases f with - | k
        · rcases d with - | k
          · simp only [atN_none, Option.isSome_none]
            have hR0 : decide (0 < R) = false := HLST.out.some'
            go_wp2_with fail
            refine (CO.out _ HWR.out).mono ?_
            rintro e w6 ⟨rfl, hb6⟩
            have H6 := Lib.hid hb6
            clear hb6
            go_wp2_with fail
            refine (CO.out _ H6.out).mono ?_
            rintro e w7 ⟨rfl, hb7⟩
            have hle : decide (R ≤ p * (i : Int)) = true := decide_eq_true HM.out.2
            have hwm := HM.out.1
            go_wp2
            go_ret
            exact ⟨rfl, hb7⟩
          · simp only [atN_none, atN_some, Option.isSome_none, Option.isSome_some]
            have hR0 : decide (0 < R) = true := HLST.out.some'
            go_wp2_with fail
            refine (CO.out _ HWR.out).mono ?_
            rintro e w6 ⟨rfl, hb6⟩
            have H6 := Lib.hid hb6
            clear hb6
            go_wp2_with fail
            refine (CO.out _ H6.out).mono ?_
            rintro e w7 ⟨rfl, hb7⟩
            have hle : decide (R ≤ p * (i : Int)) = true := decide_eq_true HM.out.2
            have hwm := HM.out.1
            go_wp2
            go_ret
            exact ⟨rfl, hb7⟩
        · simp only [atN_some, Option.isSome_some]
          have hR0 : decide (0 < R) = true := HLST.out.some'
          go_wp2_with fail
          refine (CO.out _ HWR.out).mono ?_
          rintro e w6 ⟨rfl, hb6⟩
          have H6 := Lib.hid hb6
          clear hb6
          go_wp2_with fail
          refine (CO.out _ H6.out).mono ?_
          rintro e w7 ⟨rfl, hb7⟩
          have hle : decide (R ≤ p * (i : Int)) = true := decide_eq_true HM.out.2
          have hwm := HM.out.1
          go_wp2
          go_ret
          exact ⟨rfl, hb7⟩
end Go.Proofs.Ytkpdkpfmljcllaa.Wear
