/- The document's own Room and Spread: what each hands back. -/
import Derived.Test.YtkpdkpfmljcllaaRefFst
namespace Go.Proofs.Ytkpdkpfmljcllaa.Wear
open Go.RowKit Go.Sort Go.Shelf
attribute [local go_sem ↓] loadVar_wb storeVar_wb loadVar_bl storeVar_bl build_bl build_wb

theorem roomE_bad {p : Int} {b : Wb} (h : b.bad = true) : roomE p b = 0 := by unfold roomE; rw [if_pos h]
theorem roomE_free {p : Int} {b : Wb} (hr : rightE p b = true) (h : b.bad = false) (hl : b.live = 0) : roomE p b = p := by
  have := rightE_iff.1 hr
  unfold roomE deadB
  rw [h, hl]
  simp
  omega
theorem roomE_part {p : Int} {b : Wb} (h : b.bad = false) (hl : ¬ b.live = 0) : roomE p b = p - b.used := by
  unfold roomE deadB
  rw [h, decide_eq_false hl]
  simp

set_option maxHeartbeats 4000000 in
set_option maxRecDepth 100000 in
theorem rroom_any (l : List Wb) (v : Value) (p : Int) (w : World) (hR : RdW w v l) : Calls Try.prog 14 #[v, .int .i64 p] w fun e w' => e = .returned (.int .i64 (roomL l p)) ∧ Below w.heap.size w w' := by
  have C := rright_any l v p w hR
  unfold roomL
  cases hr : rightB l p with
  | false =>
    rw [hr] at C
    have HC := Lib.hid C
    clear C hr hR
    go_enter Try.func14, Try.ntmps14
    go_wp2_with fail
    refine HC.out.mono ?_
    rintro e w1 ⟨rfl, hb⟩
    go_wp2
    go_ret
    exact ⟨rfl, hb⟩
  | true =>
    rw [hr] at C
    have HC0 := Lib.hid C
    obtain ⟨hl1, hl2, hp1, hp2, hall⟩ := rightB_iff.1 hr
    obtain ⟨B, o, cap, rfl, hlc, hcm, hcs⟩ := hR.form (by omega)
    obtain ⟨n, hn⟩ : ∃ n, n = l.length := ⟨_, rfl⟩
    have HN := Lib.hid hn
    have HA := Lib.hid hall
    have HBD : Hid (∀ i : Nat, i ≤ n → 0 ≤ roomTo p l i ∧ roomTo p l i ≤ 512) := fun i hi => by
      obtain ⟨h1, h2⟩ := roomTo_bound (p := p) (by omega) hall i (by omega)
      have h3 : p * (i : Int) ≤ 16 * i := Int.mul_le_mul_of_nonneg_right hp2 (by omega)
      omega
    rw [← hn] at hl1 hl2 hlc HC0 ⊢
    have HC : Hid (∀ W' (i : Nat) y, Below w.heap.size w W' → l[i]? = some y → W'.cell? ⟨B, o + i * 4, none⟩ = some (.int .i64 y.live) ∧ W'.cell? ⟨B, o + i * 4 + 1, none⟩ = some (.int .i64 y.used) ∧ W'.cell? ⟨B, o + i * 4 + 2, none⟩ = some (.int .i64 y.worn) ∧ W'.cell? ⟨B, o + i * 4 + 3, none⟩ = some (.bool y.bad)) := fun W' i y hb hy =>
      four_cells (fun j u hu => keep_cell (hcs j u hu) hb) hy
    have hn63 : (n : Int) ≤ 32 := by omega
    have HP := Lib.hid (And.intro hp1 hp2)
    rw [if_pos rfl]
    clear C hr hR hcs hn hlc hcm hall hp1 hp2
    go_enter Try.func14, Try.ntmps14
    go_wp2_with fail
    refine HC0.out.mono ?_
    rintro e w1 ⟨rfl, hb⟩
    have HB1 := Lib.hid hb
    clear hb HC0
    go_wp2
    go_loopw [6, 5] (fun t u wr => ∃ i : Nat, i ≤ n ∧ t = .int .i64 i ∧ u = .int .i64 (roomTo p l i) ∧ Hid (Below w.heap.size w wr)) (fun t _ _ => n - (intOf t).toNat)
    case atStart => exact ⟨0, Nat.zero_le _, rfl, rfl, HB1⟩
    case round =>
      obtain ⟨i, hi, rfl, rfl, HB⟩ := hrel
      by_cases hlt : i < n
      · have hltI : (i : Int) < n := by omega
        have hi0 : (0 : Int) ≤ i := by omega
        obtain ⟨x, hx⟩ : ∃ x, l[i]? = some x := ⟨l[i]'(by rw [← HN.out]; exact hlt), List.getElem?_eq_getElem _⟩
        obtain ⟨c0, c1, -, c3⟩ := HC.out wr i x HB.out hx
        have hrx := HA.out x (List.mem_of_getElem? hx)
        obtain ⟨y0, y1⟩ := HBD.out (i + 1) hlt
        have hs1 := roomTo_next (p := p) hx
        have hus := rightE_iff.1 hrx
        obtain ⟨s, hs⟩ : ∃ s, roomTo p l i = s := ⟨_, rfl⟩
        rw [hs] at hs1 ⊢
        cases hb : x.bad with
        | true =>
          rw [roomE_bad hb] at hs1
          rw [hb] at c3
          have HS := Lib.hid hs1
          clear hx hrx y0 y1 hs1 hus hs hb
          go_wp2
          go_roundw
          case rel => exact ⟨i + 1, by omega, by go_num, by rw [HS.out, Int.add_zero], HB⟩
          case measure => simp [intOf]; omega
        | false =>
          rw [hb] at c3
          by_cases hl : x.live = 0
          · rw [roomE_free hrx hb hl] at hs1
            rw [hs1] at y0 y1
            have q1 : (x.live == 0) = true := by simpa using hl
            have q2 : (x.live != 0) = false := by simpa using hl
            have hw : wrap64 (s + p) = s + p := by unfold wrap64; omega
            have HS := Lib.hid hs1
            clear hx hrx y0 y1 hs1 hus hs hb hl
            go_wp2
            go_roundw
            case rel => exact ⟨i + 1, by omega, by go_num, by rw [HS.out, hw], HB⟩
            case measure => simp [intOf]; omega
          · rw [roomE_part hb hl] at hs1
            rw [hs1] at y0 y1
            have hp1 := HP.out.1
            have hp2 := HP.out.2
            have q1 : (x.live == 0) = false := by simpa using hl
            have q2 : (x.live != 0) = true := by simpa using hl
            have hw0 : wrap64 (p - x.used) = p - x.used := by unfold wrap64; omega
            have hw : wrap64 (s + (p - x.used)) = s + (p - x.used) := by unfold wrap64; omega
            have HS := Lib.hid hs1
            clear hx hrx y0 y1 hs1 hus hs hb hl hp1 hp2
            go_wp2
            go_roundw
            case rel => exact ⟨i + 1, by omega, by go_num, by rw [HS.out, hw], HB⟩
            case measure => simp [intOf]; omega
      · obtain rfl : i = n := by omega
        go_wp2
        go_ret
        exact ⟨rfl, HB.out⟩

/-- How far the most worn ones and the least worn ones have been held against one another. -/
structure Far (l : List Wb) (M : Int) (D : Nat → Nat → Prop) : Prop where
  zero : 0 ≤ M
  top' : M ≤ 1099511627776
  all : ∀ (i k : Nat) x y, D i k → l[i]? = some x → l[k]? = some y → x.bad = false → y.bad = false → x.worn - y.worn ≤ M
  one : M = 0 ∨ ∃ x ∈ l, ∃ y ∈ l, x.bad = false ∧ y.bad = false ∧ M = x.worn - y.worn
def Done (i k : Nat) : Nat → Nat → Prop := fun a b => a < i ∨ (a = i ∧ b < k)
theorem Far.start (l : List Wb) : Far l 0 (Done 0 0) := ⟨Int.le_refl _, by omega, fun i k _ _ h => by rcases h with h | h <;> omega, .inl rfl⟩
theorem Far.row {l : List Wb} {M : Int} {i n : Nat} (h : Far l M (Done i n)) (hn : n = l.length) : Far l M (Done (i + 1) 0) :=
  ⟨h.zero, h.top', fun a k x y hd hx hy => h.all a k x y (by
    have := (List.getElem?_eq_some_iff.1 hy).1
    rcases hd with hd | hd
    · by_cases e : a = i
      · exact .inr ⟨e, by omega⟩
      · exact .inl (by omega)
    · omega) hx hy, h.one⟩
theorem Far.skip {l : List Wb} {M : Int} {i k : Nat} (h : Far l M (Done i k)) {x y : Wb} (hx : l[i]? = some x) (hy : l[k]? = some y) (hs : x.bad = true ∨ y.bad = true ∨ x.worn - y.worn ≤ M) : Far l M (Done i (k + 1)) :=
  ⟨h.zero, h.top', fun a b x' y' hd hx' hy' h1 h2 => by
    rcases hd with hd | hd
    · exact h.all a b x' y' (.inl hd) hx' hy' h1 h2
    · by_cases e : b = k
      · obtain ⟨rfl, -⟩ := hd
        subst e
        rw [hx] at hx'; rw [hy] at hy'
        cases hx'; cases hy'
        rcases hs with hs | hs | hs
        · rw [h1] at hs; cases hs
        · rw [h2] at hs; cases hs
        · exact hs
      · exact h.all a b x' y' (.inr ⟨hd.1, by omega⟩) hx' hy' h1 h2, h.one⟩
theorem Far.more {l : List Wb} {M : Int} {i k : Nat} (h : Far l M (Done i k)) (hl : ∀ b ∈ l, rightE 16 b = true) {x y : Wb} (hx : l[i]? = some x) (hy : l[k]? = some y) (h1 : x.bad = false) (h2 : y.bad = false) (hM : M < x.worn - y.worn) : Far l (x.worn - y.worn) (Done i (k + 1)) := by
  have e1 := rightE_iff.1 (hl x (List.mem_of_getElem? hx))
  have e2 := rightE_iff.1 (hl y (List.mem_of_getElem? hy))
  have hz := h.zero
  refine ⟨by omega, by omega, fun a b x' y' hd hx' hy' h3 h4 => ?_, .inr ⟨x, List.mem_of_getElem? hx, y, List.mem_of_getElem? hy, h1, h2, rfl⟩⟩
  rcases hd with hd | hd
  · have := h.all a b x' y' (.inl hd) hx' hy' h3 h4; omega
  · by_cases e : b = k
    · obtain ⟨rfl, -⟩ := hd
      subst e
      rw [hx] at hx'; rw [hy] at hy'
      cases hx'; cases hy'
      omega
    · have := h.all a b x' y' (.inr ⟨hd.1, by omega⟩) hx' hy' h3 h4; omega
theorem Far.is {l : List Wb} {M : Int} (hr : rightB l 16 = true) (h : Far l M (Done l.length 0)) : M = spreadL l := by
  have hm : ∀ z, z ∈ wornTo l l.length ↔ ∃ b ∈ l, b.bad = false ∧ b.worn = z := fun z => by
    rw [wornTo_mem, List.take_of_length_le (Nat.le_refl _)]
  unfold spreadL
  rw [if_pos hr]
  by_cases h0 : (wornTo l l.length).length = 0
  · rw [if_pos h0]
    rcases h.one with h1 | ⟨x, hx, y, hy, h1, h2, h3⟩
    · exact h1
    · have := (hm x.worn).2 ⟨x, hx, h1, rfl⟩
      rw [List.length_eq_zero_iff.1 h0] at this
      cases this
  · rw [if_neg h0]
    obtain ⟨a1, a2⟩ := maxOf_spec (l := wornTo l l.length) (by omega)
    obtain ⟨b1, b2⟩ := minOf_spec (l := wornTo l l.length) (by omega)
    obtain ⟨x, hx, hx1, hx2⟩ := (hm _).1 a1
    obtain ⟨y, hy, hy1, hy2⟩ := (hm _).1 b1
    obtain ⟨i, hi⟩ := List.mem_iff_getElem?.1 hx
    obtain ⟨k, hk⟩ := List.mem_iff_getElem?.1 hy
    have h1 := h.all i k x y (.inl (List.getElem?_eq_some_iff.1 hi).1) hi hk hx1 hy1
    have h5 := b2 _ a1
    rcases h.one with h2 | ⟨x', hx', y', hy', h2, h3, h4⟩
    · omega
    · have h6 := a2 _ ((hm _).2 ⟨x', hx', h2, rfl⟩)
      have h7 := b2 _ ((hm _).2 ⟨y', hy', h3, rfl⟩)
      omega

set_option maxHeartbeats 4000000 in
set_option maxRecDepth 100000 in
theorem rspread_any (l : List Wb) (v : Value) (w : World) (hR : RdW w v l) : Calls Try.prog 16 #[v] w fun e w' => e = .returned (.int .i64 (spreadL l)) ∧ Below w.heap.size w w' := by
  have C := rright_any l v 16 w hR
  cases hr : rightB l 16 with
  | false =>
    unfold spreadL
    rw [hr] at C ⊢
    have HC := Lib.hid C
    clear C hr hR
    go_enter Try.func16, Try.ntmps16
    go_wp2_with fail
    refine HC.out.mono ?_
    rintro e w1 ⟨rfl, hb⟩
    go_wp2
    go_ret
    exact ⟨rfl, hb⟩
  | true =>
    rw [hr] at C
    have HC0 := Lib.hid C
    obtain ⟨hl1, hl2, -, -, hall⟩ := rightB_iff.1 hr
    have HFIN : Hid (∀ M, Far l M (Done l.length 0) → M = spreadL l) := fun M h => h.is hr
    obtain ⟨B, o, cap, rfl, hlc, hcm, hcs⟩ := hR.form (by omega)
    obtain ⟨n, hn⟩ : ∃ n, n = l.length := ⟨_, rfl⟩
    have HN := Lib.hid hn
    have HA := Lib.hid hall
    rw [← hn] at hl1 hl2 hlc HC0 HFIN ⊢
    have HC : Hid (∀ W' (i : Nat) y, Below w.heap.size w W' → l[i]? = some y → W'.cell? ⟨B, o + i * 4, none⟩ = some (.int .i64 y.live) ∧ W'.cell? ⟨B, o + i * 4 + 1, none⟩ = some (.int .i64 y.used) ∧ W'.cell? ⟨B, o + i * 4 + 2, none⟩ = some (.int .i64 y.worn) ∧ W'.cell? ⟨B, o + i * 4 + 3, none⟩ = some (.bool y.bad)) := fun W' i y hb hy =>
      four_cells (fun j u hu => keep_cell (hcs j u hu) hb) hy
    have hn63 : (n : Int) ≤ 32 := by omega
    obtain ⟨S, hS⟩ : ∃ S, spreadL l = S := ⟨_, rfl⟩
    rw [hS] at HFIN ⊢
    clear C hr hR hcs hn hlc hcm hall hS
    go_enter Try.func16, Try.ntmps16
    go_wp2_with fail
    refine HC0.out.mono ?_
    rintro e w1 ⟨rfl, hb⟩
    have HB1 := Lib.hid hb
    clear hb HC0
    go_wp2
    go_loopw [4, 3] (fun t u wr => ∃ (i : Nat) (M : Int), i ≤ n ∧ t = .int .i64 i ∧ u = .int .i64 M ∧ Hid (Far l M (Done i 0)) ∧ Hid (Below w.heap.size w wr)) (fun t _ _ => n - (intOf t).toNat)
    case atStart => exact ⟨0, 0, Nat.zero_le _, rfl, rfl, Far.start l, HB1⟩
    case round =>
    obtain ⟨i, M0, hi, rfl, rfl, HF0, HB0⟩ := hrel
    by_cases hlt : i < n
    · have hltI : (i : Int) < n := by omega
      have hi0 : (0 : Int) ≤ i := by omega
      obtain ⟨x, hx⟩ : ∃ x, l[i]? = some x := ⟨l[i]'(by rw [← HN.out]; exact hlt), List.getElem?_eq_getElem _⟩
      have HX := Lib.hid hx
      clear hx
      go_wp2
      go_loopw [3, 5] (fun u t wr => ∃ (j : Nat) (M : Int), j ≤ n ∧ t = .int .i64 j ∧ u = .int .i64 M ∧ Hid (Far l M (Done i j)) ∧ Hid (Below w.heap.size w wr)) (fun _ t _ => n - (intOf t).toNat)
      case atStart => exact ⟨0, M0, Nat.zero_le _, rfl, rfl, HF0, HB0⟩
      case round =>
      obtain ⟨j, M, hj, rfl, rfl, HF, HWR⟩ := hrel
      by_cases hjt : j < n
      · have hjtI : (j : Int) < n := by omega
        have hj0 : (0 : Int) ≤ j := by omega
        obtain ⟨y, hy⟩ : ∃ y, l[j]? = some y := ⟨l[j]'(by rw [← HN.out]; exact hjt), List.getElem?_eq_getElem _⟩
        have HY := Lib.hid hy
        have HV : Hid (∀ (d : Nat) (os : Array Obj), Below w.heap.size w (grow (redrawn wr d) os)) := fun d os => HWR.out.trans ((below_regrown wr d os).mono HWR.out.size)
        have x2 := fun (d : Nat) (os : Array Obj) => (HC.out (grow (redrawn wr d) os) i x (HV.out d os) HX.out).2.2.1
        have x3 := fun (d : Nat) (os : Array Obj) => (HC.out (grow (redrawn wr d) os) i x (HV.out d os) HX.out).2.2.2
        have y2 := fun (d : Nat) (os : Array Obj) => (HC.out (grow (redrawn wr d) os) j y (HV.out d os) HY.out).2.2.1
        have y3 := fun (d : Nat) (os : Array Obj) => (HC.out (grow (redrawn wr d) os) j y (HV.out d os) HY.out).2.2.2
        have e1 := rightE_iff.1 (HA.out x (List.mem_of_getElem? HX.out))
        have e2 := rightE_iff.1 (HA.out y (List.mem_of_getElem? HY.out))
        have hw1 : IntKind.i64.wrap (x.worn - y.worn) = x.worn - y.worn := by rw [IntKind.wrap_i64]; omega
        have hw2 : wrap64 (x.worn - y.worn) = x.worn - y.worn := by unfold wrap64; omega
        clear hy e1 e2
        go_upto_region 10 with fail
        go_cut [49] from 15 to 60 (fun t wx => t = .bool (!x.bad && !y.bad && decide (M < x.worn - y.worn)) ∧ Hid (Below w.heap.size w wx))
        case first =>
          cases hbx : x.bad with
          | true =>
            rw [hbx] at x3
            have HBX := Lib.hid hbx
            clear hbx
            refine wp_region_quiet_below (by kernel_rfl) (by kernel_rfl) ?_
            repeat (go_big_quiet_step (fail))
            refine wpQuiet_nil fun w9 hw9 => ?_
            have HB9 : Hid (Below w.heap.size w w9) := by
              obtain ⟨z, rfl⟩ := hw9
              exact HWR.out.trans ((below_regrown wr z.d z.os).mono HWR.out.size)
            clear hw9
            go_wp2
            go_meet
            exact ⟨by rw [HBX.out]; rfl, HB9⟩
          | false =>
            rw [hbx] at x3
            have HBX := Lib.hid hbx
            clear hbx
            cases hby : y.bad with
            | true =>
              rw [hby] at y3
              have HBY := Lib.hid hby
              clear hby
              refine wp_region_quiet_below (by kernel_rfl) (by kernel_rfl) ?_
              repeat (go_big_quiet_step (fail))
              refine wpQuiet_nil fun w9 hw9 => ?_
              have HB9 : Hid (Below w.heap.size w w9) := by
                obtain ⟨z, rfl⟩ := hw9
                exact HWR.out.trans ((below_regrown wr z.d z.os).mono HWR.out.size)
              clear hw9
              go_wp2
              go_meet
              exact ⟨by rw [HBX.out, HBY.out]; rfl, HB9⟩
            | false =>
              rw [hby] at y3
              have HBY := Lib.hid hby
              clear hby
              obtain ⟨c, hc⟩ : ∃ c, decide (M < x.worn - y.worn) = c := ⟨_, rfl⟩
              have HCC := Lib.hid hc
              cases c with
              | true =>
                refine wp_region_quiet_below (by kernel_rfl) (by kernel_rfl) ?_
                repeat (go_big_quiet_step (fail))
                refine wpQuiet_nil fun w9 hw9 => ?_
                have HB9 : Hid (Below w.heap.size w w9) := by
                  obtain ⟨z, rfl⟩ := hw9
                  exact HWR.out.trans ((below_regrown wr z.d z.os).mono HWR.out.size)
                clear hw9
                go_wp2
                go_meet
                exact ⟨by rw [HBX.out, HBY.out, HCC.out]; rfl, HB9⟩
              | false =>
                refine wp_region_quiet_below (by kernel_rfl) (by kernel_rfl) ?_
                repeat (go_big_quiet_step (fail))
                refine wpQuiet_nil fun w9 hw9 => ?_
                have HB9 : Hid (Below w.heap.size w w9) := by
                  obtain ⟨z, rfl⟩ := hw9
                  exact HWR.out.trans ((below_regrown wr z.d z.os).mono HWR.out.size)
                clear hw9
                go_wp2
                go_meet
                exact ⟨by rw [HBX.out, HBY.out, HCC.out]; rfl, HB9⟩
        case rest =>
        rename_i wc
        obtain ⟨rfl, HW2⟩ := hcut
        clear x2 x3 y2 y3 HV HWR
        by_cases hgo : x.bad = false ∧ y.bad = false ∧ M < x.worn - y.worn
        · obtain ⟨g1, g2, g3⟩ := hgo
          have HF2 : Hid (Far l (x.worn - y.worn) (Done i (j + 1))) := HF.out.more HA.out HX.out HY.out g1 g2 g3
          have hcond : (!x.bad && !y.bad && decide (M < x.worn - y.worn)) = true := by rw [g1, g2, decide_eq_true g3]; rfl
          rw [hcond]
          have HV : Hid (∀ (d : Nat) (os : Array Obj), Below w.heap.size w (grow (redrawn wc d) os)) := fun d os => HW2.out.trans ((below_regrown wc d os).mono HW2.out.size)
          have x2 := fun (d : Nat) (os : Array Obj) => (HC.out (grow (redrawn wc d) os) i x (HV.out d os) HX.out).2.2.1
          have y2 := fun (d : Nat) (os : Array Obj) => (HC.out (grow (redrawn wc d) os) j y (HV.out d os) HY.out).2.2.1
          clear g1 g2 g3 hcond
          go_upto_region 11 with fail
          refine wp_region_quiet_below (by kernel_rfl) (by kernel_rfl) ?_
          repeat (go_big_quiet_step (fail))
          refine wpQuiet_nil fun w9 hw9 => ?_
          have HB9 : Hid (Below w.heap.size w w9) := by
            obtain ⟨z, rfl⟩ := hw9
            exact HW2.out.trans ((below_regrown wc z.d z.os).mono HW2.out.size)
          clear hw9 x2 y2 HV
          go_wp2
          go_roundw
          case rel => exact ⟨j + 1, x.worn - y.worn, by omega, by go_num, by first | rfl | rw [hw2], HF2, HB9⟩
          case measure => simp [intOf]; omega
        · have HF2 : Hid (Far l M (Done i (j + 1))) := HF.out.skip HX.out HY.out (by
            cases g1 : x.bad with
            | true => exact .inl rfl
            | false =>
              cases g2 : y.bad with
              | true => exact .inr (.inl rfl)
              | false => exact .inr (.inr (by
                  by_cases g3 : M < x.worn - y.worn
                  · exact absurd ⟨g1, g2, g3⟩ hgo
                  · omega)))
          have hcond : (!x.bad && !y.bad && decide (M < x.worn - y.worn)) = false := by
            rw [Bool.eq_false_iff]
            intro h
            simp only [Bool.and_eq_true, Bool.not_eq_true', decide_eq_true_eq] at h
            exact hgo ⟨h.1.1, h.1.2, h.2⟩
          rw [hcond]
          clear hcond hgo
          go_wp2
          go_roundw
          case rel => exact ⟨j + 1, M, by omega, by go_num, rfl, HF2, HW2⟩
          case measure => simp [intOf]; omega
      · obtain rfl : j = n := by omega
        have HF2 : Hid (Far l M (Done (i + 1) 0)) := HF.out.row HN.out
        go_wp2
        go_roundw
        case rel => exact ⟨i + 1, M, by omega, by go_num, rfl, HF2, HWR⟩
        case measure => simp [intOf]; omega
    · obtain rfl : i = n := by omega
      go_wp2
      go_ret
      exact ⟨ret_int (HFIN.out _ HF0.out), HB0.out⟩
end Go.Proofs.Ytkpdkpfmljcllaa.Wear
