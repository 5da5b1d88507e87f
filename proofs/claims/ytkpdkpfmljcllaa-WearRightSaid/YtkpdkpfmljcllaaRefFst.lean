/- The document's own First: what it hands back. -/
import Derived.Test.YtkpdkpfmljcllaaRefRt
namespace Go.Proofs.Ytkpdkpfmljcllaa.Wear
open Go.RowKit Go.Sort Go.Shelf
attribute [local go_sem ↓] loadVar_wb storeVar_wb loadVar_bl storeVar_bl build_bl build_wb

/-- Is block k no better than x, which stands at i? Are the first j not? -/
def okK (R : Wb → Bool) (lt : Wb → Wb → Bool) (l : List Wb) (x : Wb) (i k : Nat) : Bool := match l[k]? with
  | none => true
  | some y => !(R y && (lt y x || (decide (k < i) && !lt x y)))
def goodTo (R : Wb → Bool) (lt : Wb → Wb → Bool) (l : List Wb) (x : Wb) (i : Nat) : Nat → Bool
  | 0 => R x
  | j + 1 => goodTo R lt l x i j && okK R lt l x i j
theorem goodTo_iff {R : Wb → Bool} {lt : Wb → Wb → Bool} {l : List Wb} {x : Wb} {i : Nat} : ∀ {n : Nat}, goodTo R lt l x i n = true ↔ R x = true ∧ ∀ k, k < n → okK R lt l x i k = true
  | 0 => by simp [goodTo]
  | n + 1 => by
    unfold goodTo
    rw [Bool.and_eq_true, goodTo_iff]
    constructor
    · rintro ⟨⟨h1, h2⟩, h3⟩
      refine ⟨h1, fun k hk => ?_⟩
      by_cases e : k = n
      · rw [e]; exact h3
      · exact h2 k (by omega)
    · rintro ⟨h1, h2⟩
      exact ⟨⟨h1, fun k hk => h2 k (by omega)⟩, h2 n (by omega)⟩
theorem good_first {R : Wb → Bool} {os : List Order} (ho : AllKeyed os) {R' : Wb → Bool} {lt : Wb → Wb → Bool} {l : List Wb} {p : Int} (hr : rightB l p = true) (hR : ∀ b ∈ l, R' b = R b) (hl : ∀ a b, lt a b = decide (cmpL os a b < 0))
    {i : Nat} {x : Wb} (hx : l[i]? = some x) : goodTo R' lt l x i l.length = true ↔ firstL R os l p = some i := by
  rw [goodTo_iff]
  have hi := (List.getElem?_eq_some_iff.1 hx).1
  constructor
  · rintro ⟨h1, h2⟩
    have key : ∀ (k : Nat) y, l[k]? = some y → R y = true → ¬ cmpL os y x < 0 ∧ (k < i → cmpL os x y < 0) := fun k y hy hRy => by
      have h3 := h2 k (List.getElem?_eq_some_iff.1 hy).1
      unfold okK at h3
      rw [hy] at h3
      dsimp only at h3
      rw [hR y (List.mem_of_getElem? hy), hRy, hl, hl] at h3
      simp at h3
      exact ⟨by omega, fun hki => by rcases h3.2 with h | h <;> omega⟩
    refine first_unique ho hr (y := x) ⟨hx, hi, by rw [← hR x (List.mem_of_getElem? hx)]; exact h1, fun j y hj hy hRy => ?_, fun j y hj hy hRy => ?_⟩
    · have := (key j y hy hRy).1; omega
    · have h3 := (key j y hy hRy).2 hj
      have := cmpL_anti ho x y
      omega
  · intro h
    obtain ⟨y, hy⟩ := first_some ho h
    obtain rfl : x = y := by have := hy.at'; rw [hx] at this; exact Option.some.inj this
    refine ⟨by rw [hR x (List.mem_of_getElem? hx)]; exact hy.fits, fun k hk => ?_⟩
    have hz : l[k]? = some (l[k]'hk) := List.getElem?_eq_getElem _
    obtain ⟨z, hze⟩ : ∃ z, l[k]'hk = z := ⟨_, rfl⟩
    rw [hze] at hz
    unfold okK
    rw [hz]
    dsimp only
    rw [hR z (List.mem_of_getElem? hz), hl, hl]
    cases hRz : R z with
    | false => rfl
    | true =>
      have h1 := hy.least k z hk hz hRz
      simp
      refine ⟨by omega, ?_⟩
      by_cases hki : k < i
      · have h2 := hy.ahead k z hki hz hRz
        have := cmpL_anti ho x z
        exact .inr (by omega)
      · exact .inl (by omega)
theorem okK_at {R : Wb → Bool} {lt : Wb → Wb → Bool} {l : List Wb} {x y : Wb} {i k : Nat} (h : l[k]? = some y) : okK R lt l x i k = !(R y && (lt y x || (decide (k < i) && !lt x y))) := by
  unfold okK; rw [h]

set_option maxHeartbeats 4000000 in
set_option maxRecDepth 100000 in
theorem rfirst_any (l : List Wb) (v : Value) (p kd : Int) (R : Wb → Bool) (lt : Wb → Wb → Bool) (F : Option Nat) (w : World) (hR : RdW w v l)
    (hS : ∀ b W, Calls Try.prog 25 #[wbV b, .int .i64 p, .int .i64 kd] W fun e w' => e = .returned (.bool (R b)) ∧ Below W.heap.size W w')
    (hA : ∀ a b W, Calls Try.prog 26 #[wbV a, wbV b, .int .i64 kd] W fun e w' => e = .returned (.bool (lt a b)) ∧ Below W.heap.size W w')
    (hF0 : rightB l p = false → F = none) (hF1 : rightB l p = true → ∀ i x, l[i]? = some x → (goodTo R lt l x i l.length = true ↔ F = some i)) (hF2 : ∀ k, F = some k → k < l.length) :
    Calls Try.prog 10 #[v, .int .i64 p, .int .i64 kd] w (FirstPost F w) := by
  have C := rright_any l v p w hR
  unfold FirstPost
  cases hr : rightB l p with
  | false =>
    rw [hr] at C
    have HC := Lib.hid C
    obtain rfl := hF0 hr
    clear C hr hR hS hA hF0 hF1 hF2
    go_enter Try.func10, Try.ntmps10
    go_wp2_with fail
    refine HC.out.mono ?_
    rintro e w1 ⟨rfl, hb⟩
    go_wp2
    go_ret2
    exact ⟨rfl, hb⟩
  | true =>
    rw [hr] at C
    have HC0 := Lib.hid C
    obtain ⟨hl1, hl2, -⟩ := rightB_iff.1 hr
    have HF1 := Lib.hid (hF1 hr)
    have HF2 := Lib.hid hF2
    have HS := Lib.hid hS
    have HA := Lib.hid hA
    obtain ⟨B, o, cap, rfl, hlc, hcm, hcs⟩ := hR.form (by omega)
    obtain ⟨n, hn⟩ : ∃ n, l.length = n := ⟨_, rfl⟩
    have HN := Lib.hid hn
    rw [hn] at hl1 hl2 hlc HC0 ⊢
    have HL : Hid (∀ W (i : Nat) x, Below w.heap.size w W → l[i]? = some x → (wbLoad ⟨B, o + i * 4, none⟩).run Try.prog W = .ok (wbV x) W) := fun W i x hb hx =>
      run_wbLoad (fun j u hu => keep_cell (hcs j u hu) hb) hx
    have hn63 : (n : Int) ≤ 32 := by omega
    clear C hr hR hcs hn hlc hcm hF0 hF1 hF2 hS hA
    go_enter Try.func10, Try.ntmps10
    go_wp2_with fail
    refine HC0.out.mono ?_
    rintro e w1 ⟨rfl, hb⟩
    have HB1 := Lib.hid hb
    clear hb HC0
    go_wp2
    go_loopw [8] (fun t wr => ∃ i : Nat, i ≤ n ∧ t = .int .i64 i ∧ Hid (∀ j, j < i → F ≠ some j) ∧ Hid (Below w.heap.size w wr)) (fun t _ => n - (intOf t).toNat)
    case atStart => exact ⟨0, Nat.zero_le _, rfl, fun j hj => absurd hj (Nat.not_lt_zero _), HB1⟩
    case round =>
    obtain ⟨i, hi, rfl, HNO, HWR⟩ := hrel
    by_cases hlt : i < n
    · have hltI : (i : Int) < n := by omega
      have hi0 : (0 : Int) ≤ i := by omega
      obtain ⟨x, hx⟩ : ∃ x, l[i]? = some x := ⟨l[i]'(by rw [HN.out]; exact hlt), List.getElem?_eq_getElem _⟩
      have HX := Lib.hid hx
      have L1 := HL.out wr i x HWR.out hx
      have HQ := Lib.hid (HS.out x wr)
      unfold wbV at L1 HQ
      clear hx
      go_wp2_with (go_at_call 25; refine HQ.out.mono ?_; rintro e w2 ⟨rfl, hb2⟩)
      have HB2 : Hid (Below w.heap.size w w2) := HWR.out.trans (hb2.mono HWR.out.size)
      clear hb2 L1 HQ
      go_loopw [9, 10] (fun b t wr => ∃ j : Nat, j ≤ n ∧ b = .bool (goodTo R lt l x i j) ∧ t = .int .i64 j ∧ Hid (Below w.heap.size w wr)) (fun _ t _ => n - (intOf t).toNat)
      case atStart => exact ⟨0, Nat.zero_le _, rfl, rfl, HB2⟩
      case round =>
      obtain ⟨j, hj, rfl, rfl, HWS⟩ := hrel
      by_cases hjt : j < n
      · have hjtI : (j : Int) < n := by omega
        have hj0 : (0 : Int) ≤ j := by omega
        obtain ⟨y, hy⟩ : ∃ y, l[j]? = some y := ⟨l[j]'(by rw [HN.out]; exact hjt), List.getElem?_eq_getElem _⟩
        have HV : Hid (∀ (d : Nat) (os : Array Obj), Below w.heap.size w (grow (redrawn wr d) os)) := fun d os => HWS.out.trans ((below_regrown wr d os).mono HWS.out.size)
        have k1 := fun (d : Nat) (os : Array Obj) => HL.out (grow (redrawn wr d) os) j y (HV.out d os) hy
        have k2 := fun (d : Nat) (os : Array Obj) => HL.out (grow (redrawn wr d) os) i x (HV.out d os) HX.out
        have C1 := fun (d : Nat) (os : Array Obj) => Calls.regrown_of (HS.out y (grow (redrawn wr d) os))
        have C2 := fun (d : Nat) (os : Array Obj) => Calls.regrown_of (HA.out y x (grow (redrawn wr d) os))
        have C3 := fun (d : Nat) (os : Array Obj) => Calls.regrown_of (HA.out x y (grow (redrawn wr d) os))
        have HOK : Hid (okK R lt l x i j = !(R y && (lt y x || (decide (j < i) && !lt x y)))) := okK_at hy
        obtain ⟨g, hg⟩ : ∃ g, goodTo R lt l x i j = g := ⟨_, rfl⟩
        have HG : Hid (goodTo R lt l x i (j + 1) = (g && okK R lt l x i j)) := by rw [← hg]; rfl
        rw [hg]
        dsimp only [wbV] at k1 k2 C1 C2 C3
        clear hy hg
        go_upto_region 10 with fail
        go_cut [70] from 28 to 70 (fun t wx => t = .bool (!okK R lt l x i j) ∧ Hid (Below w.heap.size w wx))
        case first =>
          cases ha : R y with
          | false =>
            rw [ha] at C1 HOK
            clear ha
            refine wp_region_quiet_below (by kernel_rfl) (by kernel_rfl) ?_
            repeat (go_big_quiet_step (first | (with_reducible exact C1 _ _) | (with_reducible exact C2 _ _) | (with_reducible exact C3 _ _)))
            refine wpQuiet_nil fun w9 hw9 => ?_
            have HB9 : Hid (Below w.heap.size w w9) := by
              obtain ⟨z, rfl⟩ := hw9
              exact HWS.out.trans ((below_regrown wr z.d z.os).mono HWS.out.size)
            clear hw9
            go_wp2
            go_meet
            exact ⟨by rw [HOK.out]; rfl, HB9⟩
          | true =>
            rw [ha] at C1 HOK
            clear ha
            cases ha : lt y x with
            | true =>
              rw [ha] at C2 HOK
              clear ha
              refine wp_region_quiet_below (by kernel_rfl) (by kernel_rfl) ?_
              repeat (go_big_quiet_step (first | (with_reducible exact C1 _ _) | (with_reducible exact C2 _ _) | (with_reducible exact C3 _ _)))
              refine wpQuiet_nil fun w9 hw9 => ?_
              have HB9 : Hid (Below w.heap.size w w9) := by
                obtain ⟨z, rfl⟩ := hw9
                exact HWS.out.trans ((below_regrown wr z.d z.os).mono HWS.out.size)
              clear hw9
              go_wp2
              go_meet
              exact ⟨by rw [HOK.out]; rfl, HB9⟩
            | false =>
              rw [ha] at C2 HOK
              clear ha
              by_cases hji : j < i
              · have q1 : decide ((j : Int) < i) = true := by simp; omega
                rw [decide_eq_true hji] at HOK
                cases ha : lt x y with
                | true =>
                  rw [ha] at C3 HOK
                  clear ha
                  refine wp_region_quiet_below (by kernel_rfl) (by kernel_rfl) ?_
                  repeat (go_big_quiet_step (first | (with_reducible exact C1 _ _) | (with_reducible exact C2 _ _) | (with_reducible exact C3 _ _)))
                  refine wpQuiet_nil fun w9 hw9 => ?_
                  have HB9 : Hid (Below w.heap.size w w9) := by
                    obtain ⟨z, rfl⟩ := hw9
                    exact HWS.out.trans ((below_regrown wr z.d z.os).mono HWS.out.size)
                  clear hw9
                  go_wp2
                  go_meet
                  exact ⟨by rw [HOK.out]; rfl, HB9⟩
                | false =>
                  rw [ha] at C3 HOK
                  clear ha
                  refine wp_region_quiet_below (by kernel_rfl) (by kernel_rfl) ?_
                  repeat (go_big_quiet_step (first | (with_reducible exact C1 _ _) | (with_reducible exact C2 _ _) | (with_reducible exact C3 _ _)))
                  refine wpQuiet_nil fun w9 hw9 => ?_
                  have HB9 : Hid (Below w.heap.size w w9) := by
                    obtain ⟨z, rfl⟩ := hw9
                    exact HWS.out.trans ((below_regrown wr z.d z.os).mono HWS.out.size)
                  clear hw9
                  go_wp2
                  go_meet
                  exact ⟨by rw [HOK.out]; rfl, HB9⟩
              · have q1 : decide ((j : Int) < i) = false := by simp; omega
                rw [decide_eq_false hji] at HOK
                refine wp_region_quiet_below (by kernel_rfl) (by kernel_rfl) ?_
                repeat (go_big_quiet_step (first | (with_reducible exact C1 _ _) | (with_reducible exact C2 _ _) | (with_reducible exact C3 _ _)))
                refine wpQuiet_nil fun w9 hw9 => ?_
                have HB9 : Hid (Below w.heap.size w w9) := by
                  obtain ⟨z, rfl⟩ := hw9
                  exact HWS.out.trans ((below_regrown wr z.d z.os).mono HWS.out.size)
                clear hw9
                go_wp2
                go_meet
                exact ⟨by rw [HOK.out]; rfl, HB9⟩
        case rest =>
        rename_i wc
        obtain ⟨rfl, HW2⟩ := hcut
        clear k1 k2 C1 C2 C3 HV HWS
        cases ho : okK R lt l x i j with
        | false =>
          have HO := Lib.hid ho
          clear ho
          go_wp2
          go_roundw
          case rel => exact ⟨j + 1, by omega, by rw [HG.out, HO.out, Bool.and_false], by go_num, HW2⟩
          case measure => simp [intOf]; omega
        | true =>
          have HO := Lib.hid ho
          clear ho
          go_wp2
          go_roundw
          case rel => exact ⟨j + 1, by omega, by rw [HG.out, HO.out, Bool.and_true], by go_num, HW2⟩
          case measure => simp [intOf]; omega
      · obtain rfl : j = n := by omega
        have HIFF := Lib.hid (HF1.out i x HX.out)
        rw [HN.out] at HIFF
        obtain ⟨g, hg⟩ : ∃ g, goodTo R lt l x i j = g := ⟨_, rfl⟩
        rw [hg] at HIFF ⊢
        clear hg
        cases g with
        | true =>
          have HFI : Hid (F = some i) := HIFF.out.1 rfl
          go_wp2
          go_ret2
          exact ⟨by rw [HFI.out]; rfl, HWS.out⟩
        | false =>
          have HFI : Hid (∀ k, k < i + 1 → F ≠ some k) := fun k hk => by
            by_cases e : k = i
            · rw [e]; intro hf; have := HIFF.out.2 hf; cases this
            · exact HNO.out k (by omega)
          go_wp2
          go_roundw
          case rel => exact ⟨i + 1, by omega, by go_num, HFI, HWS⟩
          case measure => simp [intOf]; omega
    · obtain rfl : i = n := by omega
      have HFN : Hid (F = none) := by
        cases hq : F with
        | none => exact rfl
        | some k => exact absurd hq (HNO.out k (by rw [← HN.out]; exact HF2.out k hq))
      go_wp2
      go_ret2
      exact ⟨by rw [HFN.out]; rfl, HWR.out⟩
end Go.Proofs.Ytkpdkpfmljcllaa.Wear
