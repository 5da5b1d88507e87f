/- slices.symMergeCmpFunc over routes, where one of the two parts is a single route. slices.symMergeCmpFunc over routes: two parts in order become one, ties as they were. -/
import Derived.Test.YtggjcjijoihilaaTabStab
import Derived.Deep.CutRange
namespace Go.Proofs.Ytggjcjijoihilaa
open Go.RowKit Go.Sort Go.Shelf
attribute [local go_sem ↓] loadVar_key loadVar_pre loadVar_route storeVar_pre storeVar_route buildSlice_row

def SymPost (w0 : World) (g : Nat) (rest : List Value) (A X B : List Rt) (e : Ending) (w' : World) : Prop := e = .returned (.tuple #[]) ∧ ∃ Z, SW w0 g rest (A ++ Z ++ B) w' ∧ Srt oR Z ∧ Cls oR Z X

theorem get_mid {α : Type} {A Y B : List α} {m h : Nat} (hA : A.length = m) (h1 : m ≤ h) (h2 : h < m + Y.length) : (A ++ Y ++ B)[h]? = Y[h - m]? := by
  rw [List.append_assoc, List.getElem?_append_right (by omega), hA, List.getElem?_append_left (by omega)]

set_option maxHeartbeats 4000000 in
set_option maxRecDepth 1000000 in
theorem sym_one (w0 : World) (g : Nat) (rest : List Value) (A : List Rt) (x : Rt) (Y B : List Rt) (a m b n cap : Nat) (W : World) (h : SW w0 g rest (A ++ [x] ++ Y ++ B) W) (ha : A.length = a) (hma : a + 1 = m) (hb : m + Y.length = b) (hn : (A ++ [x] ++ Y ++ B).length = n) (h16 : n ≤ 65536)
    (hs : Srt oR Y) (hm : AllMay ([x] ++ Y)) :
    Calls Try.prog 82 #[.slice (some ⟨g, 0, none⟩) n cap, .int .i64 a, .int .i64 m, .int .i64 b, cmpV] W (SymPost w0 g rest A ([x] ++ Y) B) := by
  have hbn : b ≤ n := by rw [← hn]; simp only [List.length_append, List.length_cons, List.length_nil]; omega
  have hnI : (n : Int) ≤ 65536 := by omega
  have hbI : (b : Int) ≤ n := by omega
  have eg := enters_of Try.func49 (by kernel_rfl) rfl
  have mixed : Try.prog.follows .mixedOrders = true := by kernel_rfl
  have hAx : (A ++ [x]).length = m := by simp; omega
  have hxa : (A ++ [x] ++ Y ++ B)[a]? = some x := by
    rw [List.append_assoc, List.append_assoc, ← ha]; exact get_first A _ x
  have hmx : mayB x.pre = true := hm x (by simp)
  have hY : ∀ h, m ≤ h → h < b → ∃ y, Y[h - m]? = some y ∧ (A ++ [x] ++ Y ++ B)[h]? = some y ∧ mayB y.pre = true := fun h h1 h2 => by
    have hlt : h - m < Y.length := by omega
    refine ⟨Y[h - m], List.getElem?_eq_getElem hlt, ?_, hm _ (List.mem_append_right _ (List.getElem_mem hlt))⟩
    rw [get_mid hAx h1 (by omega)]; exact List.getElem?_eq_getElem hlt
  have HYL := Lib.hid (show Y.length = b - m by omega)
  have HMB := Lib.hid (show m ≤ b by omega)
  have hmaI : ((m : Int) - (a : Int) == 1) = true := by rw [beq_iff_eq]; omega
  have HL := Lib.hid h
  have HA := Lib.hid ha
  have HS := Lib.hid hs
  have HX := Lib.hid hxa
  have HMX := Lib.hid hmx
  have HY := Lib.hid hY
  have HN := Lib.hid hn
  have HMA := Lib.hid hma
  have hmI : (m : Int) ≤ 65536 := by have := HMB.out; omega
  have hamI : (a : Int) ≤ m := by omega
  obtain ⟨L, eL⟩ : ∃ L, L = A ++ [x] ++ Y ++ B := ⟨_, rfl⟩
  rw [← eL] at HL HX HY
  have EL := Lib.hid eL
  clear h ha hs hxa hmx hY hn hma hb hm hAx eL
  unfold SymPost cmpV
  go_enter Try.func82, Try.ntmps82
  go_wp2
  go_loopw [10, 11, 12] (fun s t _ wr => ∃ i j : Nat, m ≤ i ∧ i ≤ j ∧ j ≤ b ∧ s = .int .i64 i ∧ t = .int .i64 j ∧ Hid (SW w0 g rest L wr) ∧ Hid (∀ k y, k < i - m → Y[k]? = some y → oR y < oR x) ∧ Hid (∀ k y, j - m ≤ k → Y[k]? = some y → oR x ≤ oR y)) (fun s t _ _ => (intOf t).toNat - (intOf s).toNat)
  case atStart => exact ⟨m, b, Nat.le_refl _, HMB.out, Nat.le_refl _, rfl, rfl, HL, fun k y h => absurd h (by omega), fun k y h hk => absurd (List.getElem?_eq_some_iff.1 hk).1 (by have := HYL.out; omega)⟩
  case round =>
    obtain ⟨i, j, hmi, hij, hjb, rfl, rfl, HW, HI1, HI2⟩ := hrel
    by_cases hlt : i < j
    · have hltI : (i : Int) < j := by omega
      have hjI : (j : Int) ≤ 65536 := by omega
      have hiI : (i : Int) ≤ 65536 := by omega
      obtain ⟨h, hh⟩ : ∃ h, h = (i + j) / 2 := ⟨_, rfl⟩
      have h1 : i ≤ h := by omega
      have h2 : h < j := by omega
      have hw : ((i : Int) + j) / 2 = (h : Int) := by omega
      have hhI : (h : Int) ≤ 65536 := by omega
      obtain ⟨y, hy1, hy2, hmy⟩ := HY.out h (by omega) (by omega)
      have L1 := fun d os => (HW.out.later (below_regrown wr d os)).load hy2
      have L2 := fun d os => (HW.out.later (below_regrown wr d os)).load HX.out
      have C1 := fun d os => Calls.regrown_of (order_any y x (grow (redrawn wr d) os))
      have hneg := ordZ_neg hmy HMX.out
      obtain ⟨zc, hzc⟩ : ∃ zc, zc = ordZ y.pre x.pre := ⟨_, rfl⟩
      rw [← hzc] at C1 hneg
      have HNEG := Lib.hid hneg
      have HY1 := Lib.hid hy1
      have hhn : (h : Int) < n := by omega
      have han : (a : Int) < n := by omega
      clear hneg hzc hy1 hy2 hmy hh
      by_cases hlv : zc < 0
      · have hlvD : decide (zc < 0) = true := decide_eq_true hlv
        have hlo := HNEG.out.1 hlv
        have HI3 : Hid (∀ k z, k < h + 1 - m → Y[k]? = some z → oR z < oR x) := fun k z hk hz => by
          have := HS.out.get (i := k) (j := h - m) (by omega) hz HY1.out
          omega
        clear hlv hlo
        go_wp2_with fail
        refine wp_region_quiet_below (by kernel_rfl) (by kernel_rfl) ?_
        repeat (go_big_quiet_step (exact C1 _ _))
        refine wpQuiet_nil fun w3 hw3 => ?_
        have hb3 : Below wr.heap.size wr w3 := by
          obtain ⟨p, rfl⟩ := hw3
          exact below_regrown wr p.d p.os
        have HW3 := Lib.hid (HW.out.later hb3)
        clear hw3 L1 L2 C1 hb3
        go_wp2
        go_roundw
        case rel => exact ⟨h + 1, j, by omega, by omega, hjb, by go_num, rfl, HW3, HI3, HI2⟩
        case measure => simp [intOf]; omega
      · have hlvD : decide (zc < 0) = false := decide_eq_false hlv
        have HI3 : Hid (∀ k z, h - m ≤ k → Y[k]? = some z → oR x ≤ oR z) := fun k z hk hz => by
          have h4 := HS.out.get (i := h - m) (j := k) hk HY1.out hz
          have h5 : oR x ≤ oR y := by
            by_cases h6 : oR y < oR x
            · exact absurd (HNEG.out.2 h6) hlv
            · omega
          omega
        clear hlv
        go_wp2_with fail
        refine wp_region_quiet_below (by kernel_rfl) (by kernel_rfl) ?_
        repeat (go_big_quiet_step (exact C1 _ _))
        refine wpQuiet_nil fun w3 hw3 => ?_
        have hb3 : Below wr.heap.size wr w3 := by
          obtain ⟨p, rfl⟩ := hw3
          exact below_regrown wr p.d p.os
        have HW3 := Lib.hid (HW.out.later hb3)
        clear hw3 L1 L2 C1 hb3
        go_wp2
        go_roundw
        case rel => exact ⟨i, h, hmi, h1, by omega, rfl, rfl, HW3, HI1, HI3⟩
        case measure => simp [intOf]; omega
    · obtain rfl : i = j := by omega
      obtain ⟨Y1, hY1⟩ : ∃ Y1, Y1 = Y.take (i - m) := ⟨_, rfl⟩
      obtain ⟨Y2, hY2⟩ : ∃ Y2, Y2 = Y.drop (i - m) := ⟨_, rfl⟩
      have hYY : Y = Y1 ++ Y2 := by rw [hY1, hY2, List.take_append_drop]
      have hlo : ∀ y ∈ Y1, oR y < oR x := fun y hy => by
        obtain ⟨k, hk⟩ := List.mem_iff_getElem?.1 hy
        rw [hY1, List.getElem?_take] at hk
        split at hk
        · exact HI1.out k y ‹_› hk
        · cases hk
      have hhi : ∀ y ∈ Y2, oR x ≤ oR y := fun y hy => by
        obtain ⟨k, hk⟩ := List.mem_iff_getElem?.1 hy
        rw [hY2, List.getElem?_drop] at hk
        exact HI2.out (i - m + k) y (by omega) hk
      have hl1 : Y1.length = i - m := by rw [hY1, List.length_take, HYL.out]; omega
      have HY1 := Lib.hid hl1
      have HYY := Lib.hid hYY
      have HLO := Lib.hid hlo
      have HHI := Lib.hid hhi
      have H0 : Hid (SW w0 g rest (A ++ [] ++ x :: (Y1 ++ (Y2 ++ B))) wr) := by
        have := HW.out
        rw [EL.out, HYY.out] at this
        show SW _ _ _ _ _
        simpa using this
      have hiI : (i : Int) ≤ 65536 := by omega
      have hmiI : (m : Int) ≤ i := by omega
      clear hlo hhi hYY hY1 hY2 hl1 HI1 HI2 HW
      go_wp2
      go_loopw [13] (fun t wr => ∃ (k : Nat) (Ya Yb : List Rt), t = .int .i64 k ∧ Hid (Ya ++ Yb = Y1 ∧ A.length + Ya.length = k) ∧ Hid (SW w0 g rest (A ++ Ya ++ x :: (Yb ++ (Y2 ++ B))) wr)) (fun t _ => i - (intOf t).toNat)
      case atStart => exact ⟨a, [], Y1, rfl, ⟨rfl, HA.out⟩, H0⟩
      case round =>
        obtain ⟨k, Ya, Yb, rfl, HP, HW⟩ := hrel
        have hk1 : k ≤ i - 1 := by
          have h1 := HP.out.2
          have h2 := congrArg List.length HP.out.1
          have h3 := HY1.out
          have h4 := HA.out
          have h5 := HMA.out
          simp only [List.length_append] at h2
          omega
        cases Yb with
        | nil =>
          have hki : ¬ (k : Int) < (i : Int) - 1 := by
            have h1 := HP.out.2
            have h2 := congrArg List.length HP.out.1
            have h3 := HY1.out
            have h4 := HA.out
            have h5 := HMA.out
            simp only [List.length_append, List.length_nil] at h2
            omega
          go_wp2
          refine bodyPost_ret (results_none rfl _ _ _) rfl ?_
          refine ⟨rfl, Y1 ++ [x] ++ Y2, ?_, ?_, ?_⟩
          · have h1 := HW.out
            have h2 := HP.out.1
            rw [List.append_nil] at h2
            rw [h2] at h1
            simpa using h1
          · have hs := HS.out
            rw [HYY.out] at hs
            exact ((hs.left.app (srt_one x) (fun y hy z hz => by simp at hz; subst hz; exact Nat.le_of_lt (HLO.out y hy))).app hs.right (fun y hy z hz => by
              rcases List.mem_append.1 hy with hy | hy
              · exact hs.across y hy z hz
              · simp at hy; subst hy; exact HHI.out z hz))
          · rw [HYY.out]
            have := Cls.swap_at (o := oR) (p := []) (u := Y1) (v := [x]) (q := Y2) (fun y hy z hz => by simp at hz; subst hz; exact Nat.ne_of_lt (HLO.out y hy))
            simpa using this
        | cons y Yb =>
          have hki : k + 1 < i := by
            have h1 := HP.out.2
            have h2 := congrArg List.length HP.out.1
            have h3 := HY1.out
            have h4 := HA.out
            have h5 := HMA.out
            simp only [List.length_append, List.length_cons] at h2
            omega
          have hkI : (k : Int) < (i : Int) - 1 := by omega
          have hq : (A ++ Ya).length = k := by rw [List.length_append]; exact HP.out.2
          have hd : SW w0 g rest ((A ++ Ya) ++ x :: ([] ++ y :: (Yb ++ (Y2 ++ B)))) wr.drew := by simpa using HW.out.drew
          have k1 := get_first (A ++ Ya) ([] ++ y :: (Yb ++ (Y2 ++ B))) x
          have k2 := get_second (A ++ Ya) [] (Yb ++ (Y2 ++ B)) x y
          have l1 := hd.load k1
          have l2 := hd.load k2
          obtain ⟨P1, P2, s1, s2, hsw⟩ := hd.swap (List.getElem?_eq_some_iff.1 k1).1 (List.getElem?_eq_some_iff.1 k2).1 x y
          rw [swap_two] at hsw
          simp only [hq, List.length_nil, Nat.add_zero] at l1 l2 s1 s2
          have H2 : Hid (SW w0 g rest (A ++ (Ya ++ [y]) ++ x :: (Yb ++ (Y2 ++ B))) ((wr.drew.setRow g P1).setRow g P2)) := by
            show SW _ _ _ _ _
            simpa using hsw
          have HQ : Hid ((Ya ++ [y]) ++ Yb = Y1 ∧ A.length + (Ya ++ [y]).length = k + 1) := ⟨by rw [← HP.out.1]; simp, by have := HP.out.2; simp only [List.length_append, List.length_cons, List.length_nil]; omega⟩
          have j1 : (k : Int) + 1 < n := by omega
          have j2 : (k : Int) < n := by omega
          have j3 : (0 : Int) ≤ (k : Int) + 1 := by omega
          have j4 : ((k : Int) + 1).toNat = k + 1 := by omega
          have j5 : IntKind.i64.wrap ((k : Int) + 1) = (k : Int) + 1 := by rw [IntKind.wrap_i64]; omega
          clear hd hsw k1 k2 hq
          go_wp2_with fail
          go_big_region_o
          all_goals go_wp2
          go_roundw
          case rel => exact ⟨k + 1, Ya ++ [y], Yb, by go_num, HQ, H2⟩
          case measure => simp [intOf]; omega

set_option maxHeartbeats 4000000 in
set_option maxRecDepth 1000000 in
theorem sym_last (w0 : World) (g : Nat) (rest : List Value) (A X : List Rt) (y : Rt) (B : List Rt) (a m b n cap : Nat) (W : World) (h : SW w0 g rest (A ++ X ++ [y] ++ B) W) (ha : A.length = a) (hma : a + X.length = m) (hX : X.length ≠ 1) (hb : m + 1 = b) (hn : (A ++ X ++ [y] ++ B).length = n) (h16 : n ≤ 65536)
    (hs : Srt oR X) (hm : AllMay (X ++ [y])) :
    Calls Try.prog 82 #[.slice (some ⟨g, 0, none⟩) n cap, .int .i64 a, .int .i64 m, .int .i64 b, cmpV] W (SymPost w0 g rest A (X ++ [y]) B) := by
  have hbn : b ≤ n := by rw [← hn]; simp only [List.length_append, List.length_cons, List.length_nil]; omega
  have hnI : (n : Int) ≤ 65536 := by omega
  have hbI : (b : Int) ≤ n := by omega
  have eg := enters_of Try.func49 (by kernel_rfl) rfl
  have mixed : Try.prog.follows .mixedOrders = true := by kernel_rfl
  have hAx : (A ++ X).length = m := by rw [List.length_append]; omega
  have hym : (A ++ X ++ [y] ++ B)[m]? = some y := by
    rw [List.append_assoc, ← hAx]; exact get_first (A ++ X) _ y
  have hmy : mayB y.pre = true := hm y (by simp)
  have hXg : ∀ h, a ≤ h → h < m → ∃ x, X[h - a]? = some x ∧ (A ++ X ++ [y] ++ B)[h]? = some x ∧ mayB x.pre = true := fun h h1 h2 => by
    have hlt : h - a < X.length := by omega
    refine ⟨X[h - a], List.getElem?_eq_getElem hlt, ?_, hm _ (List.mem_append_left _ (List.getElem_mem hlt))⟩
    rw [List.append_assoc (A ++ X), get_mid ha h1 (by omega)]; exact List.getElem?_eq_getElem hlt
  have HXL := Lib.hid (show X.length = m - a by omega)
  have HAM := Lib.hid (show a ≤ m by omega)
  have hmaI : ((m : Int) - (a : Int) == 1) = false := by rw [beq_eq_false_iff_ne]; omega
  have hbmI : ((b : Int) - (m : Int) == 1) = true := by rw [beq_iff_eq]; omega
  have HL := Lib.hid h
  have HA := Lib.hid ha
  have HS := Lib.hid hs
  have HX := Lib.hid hym
  have HMX := Lib.hid hmy
  have HY := Lib.hid hXg
  have HN := Lib.hid hn
  have hmI : (m : Int) ≤ 65536 := by omega
  have hamI : (a : Int) ≤ m := by have := HAM.out; omega
  have hmnI : (m : Int) < n := by omega
  have hmbI : (m : Int) ≤ b := by omega
  obtain ⟨L, eL⟩ : ∃ L, L = A ++ X ++ [y] ++ B := ⟨_, rfl⟩
  rw [← eL] at HL HX HY
  have EL := Lib.hid eL
  clear h ha hs hym hmy hXg hn hma hb hm hAx eL hX
  unfold SymPost cmpV
  go_enter Try.func82, Try.ntmps82
  go_wp2
  go_loopw [14, 15, 16] (fun s t _ wr => ∃ i j : Nat, a ≤ i ∧ i ≤ j ∧ j ≤ m ∧ s = .int .i64 i ∧ t = .int .i64 j ∧ Hid (SW w0 g rest L wr) ∧ Hid (∀ k x, k < i - a → X[k]? = some x → oR x ≤ oR y) ∧ Hid (∀ k x, j - a ≤ k → X[k]? = some x → oR y < oR x)) (fun s t _ _ => (intOf t).toNat - (intOf s).toNat)
  case atStart => exact ⟨a, m, Nat.le_refl _, HAM.out, Nat.le_refl _, rfl, rfl, HL, fun k y h => absurd h (by omega), fun k y h hk => absurd (List.getElem?_eq_some_iff.1 hk).1 (by have := HXL.out; omega)⟩
  case round =>
    obtain ⟨i, j, hai, hij, hjm, rfl, rfl, HW, HI1, HI2⟩ := hrel
    by_cases hlt : i < j
    · have hltI : (i : Int) < j := by omega
      have hjI : (j : Int) ≤ 65536 := by omega
      have hiI : (i : Int) ≤ 65536 := by omega
      obtain ⟨h, hh⟩ : ∃ h, h = (i + j) / 2 := ⟨_, rfl⟩
      have h1 : i ≤ h := by omega
      have h2 : h < j := by omega
      have hw : ((i : Int) + j) / 2 = (h : Int) := by omega
      have hhI : (h : Int) ≤ 65536 := by omega
      obtain ⟨x, hx1, hx2, hmx⟩ := HY.out h (by omega) (by omega)
      have L1 := fun d os => (HW.out.later (below_regrown wr d os)).load hx2
      have L2 := fun d os => (HW.out.later (below_regrown wr d os)).load HX.out
      have C1 := fun d os => Calls.regrown_of (order_any y x (grow (redrawn wr d) os))
      have hneg := ordZ_neg HMX.out hmx
      obtain ⟨zc, hzc⟩ : ∃ zc, zc = ordZ y.pre x.pre := ⟨_, rfl⟩
      rw [← hzc] at C1 hneg
      have HNEG := Lib.hid hneg
      have HX1 := Lib.hid hx1
      have hhn : (h : Int) < n := by omega
      clear hneg hzc hx1 hx2 hmx hh
      by_cases hlv : zc < 0
      · have hlvD : decide (zc < 0) = true := decide_eq_true hlv
        have hlo := HNEG.out.1 hlv
        have HI3 : Hid (∀ k z, h - a ≤ k → X[k]? = some z → oR y < oR z) := fun k z hk hz => by
          have := HS.out.get (i := h - a) (j := k) hk HX1.out hz
          omega
        clear hlv hlo
        go_wp2_with fail
        refine wp_region_quiet_below (by kernel_rfl) (by kernel_rfl) ?_
        repeat (go_big_quiet_step (exact C1 _ _))
        refine wpQuiet_nil fun w3 hw3 => ?_
        have hb3 : Below wr.heap.size wr w3 := by
          obtain ⟨p, rfl⟩ := hw3
          exact below_regrown wr p.d p.os
        have HW3 := Lib.hid (HW.out.later hb3)
        clear hw3 L1 L2 C1 hb3
        go_wp2
        go_roundw
        case rel => exact ⟨i, h, hai, h1, by omega, rfl, rfl, HW3, HI1, HI3⟩
        case measure => simp [intOf]; omega
      · have hlvD : decide (zc < 0) = false := decide_eq_false hlv
        have HI3 : Hid (∀ k z, k < h + 1 - a → X[k]? = some z → oR z ≤ oR y) := fun k z hk hz => by
          have h4 := HS.out.get (i := k) (j := h - a) (by omega) hz HX1.out
          have h5 : oR x ≤ oR y := by
            by_cases h6 : oR y < oR x
            · exact absurd (HNEG.out.2 h6) hlv
            · omega
          omega
        clear hlv
        go_wp2_with fail
        refine wp_region_quiet_below (by kernel_rfl) (by kernel_rfl) ?_
        repeat (go_big_quiet_step (exact C1 _ _))
        refine wpQuiet_nil fun w3 hw3 => ?_
        have hb3 : Below wr.heap.size wr w3 := by
          obtain ⟨p, rfl⟩ := hw3
          exact below_regrown wr p.d p.os
        have HW3 := Lib.hid (HW.out.later hb3)
        clear hw3 L1 L2 C1 hb3
        go_wp2
        go_roundw
        case rel => exact ⟨h + 1, j, by omega, by omega, hjm, by go_num, rfl, HW3, HI3, HI2⟩
        case measure => simp [intOf]; omega
    · obtain rfl : i = j := by omega
      obtain ⟨X1, hX1⟩ : ∃ X1, X1 = X.take (i - a) := ⟨_, rfl⟩
      obtain ⟨X2, hX2⟩ : ∃ X2, X2 = X.drop (i - a) := ⟨_, rfl⟩
      have hXX : X = X1 ++ X2 := by rw [hX1, hX2, List.take_append_drop]
      have hlo : ∀ x ∈ X1, oR x ≤ oR y := fun x hx => by
        obtain ⟨k, hk⟩ := List.mem_iff_getElem?.1 hx
        rw [hX1, List.getElem?_take] at hk
        split at hk
        · exact HI1.out k x ‹_› hk
        · cases hk
      have hhi : ∀ x ∈ X2, oR y < oR x := fun x hx => by
        obtain ⟨k, hk⟩ := List.mem_iff_getElem?.1 hx
        rw [hX2, List.getElem?_drop] at hk
        exact HI2.out (i - a + k) x (by omega) hk
      have hl1 : A.length + X1.length = i := by rw [hX1, List.length_take, HXL.out, HA.out]; omega
      have hl2 : A.length + X1.length + X2.length = m := by rw [hl1, hX2, List.length_drop, HXL.out]; omega
      have HL1 := Lib.hid hl1
      have HL2 := Lib.hid hl2
      have HXX := Lib.hid hXX
      have HLO := Lib.hid hlo
      have HHI := Lib.hid hhi
      have H0 : Hid (SW w0 g rest (A ++ X1 ++ X2 ++ y :: ([] ++ B)) wr) := by
        have := HW.out
        rw [EL.out, HXX.out] at this
        show SW _ _ _ _ _
        simpa using this
      have hiI : (i : Int) ≤ 65536 := by omega
      have himI : (i : Int) ≤ m := by omega
      clear hlo hhi hXX hX1 hX2 hl1 hl2 HI1 HI2 HW
      go_wp2
      go_loopw [17] (fun t wr => ∃ (k : Nat) (Xa Xb : List Rt), t = .int .i64 k ∧ k ≤ m ∧ Hid (Xa ++ Xb = X2 ∧ A.length + X1.length + Xa.length = k) ∧ Hid (SW w0 g rest (A ++ X1 ++ Xa ++ y :: (Xb ++ B)) wr)) (fun t _ => (intOf t).toNat)
      case atStart => exact ⟨m, X2, [], rfl, Nat.le_refl _, ⟨List.append_nil _, HL2.out⟩, H0⟩
      case round =>
        obtain ⟨k, Xa, Xb, rfl, hkm, HP, HW⟩ := hrel
        rcases List.eq_nil_or_concat Xa with rfl | ⟨Xa', z, hXa⟩
        · have hki : ¬ (i : Int) < k := by
            have h1 := HP.out.2
            have h2 := HL1.out
            simp only [List.length_nil, Nat.add_zero] at h1
            omega
          go_wp2
          refine bodyPost_ret (results_none rfl _ _ _) rfl ?_
          have h2 := HP.out.1
          rw [List.nil_append] at h2
          refine ⟨rfl, X1 ++ [y] ++ X2, ?_, ?_, ?_⟩
          · have h1 := HW.out
            rw [h2] at h1
            simpa using h1
          · have hs := HS.out
            rw [HXX.out] at hs
            exact ((hs.left.app (srt_one y) (fun x hx z hz => by simp at hz; subst hz; exact HLO.out x hx)).app hs.right (fun x hx z hz => by
              rcases List.mem_append.1 hx with hx | hx
              · exact hs.across x hx z hz
              · simp at hx; subst hx; exact Nat.le_of_lt (HHI.out z hz)))
          · rw [HXX.out]
            have := Cls.swap_at (o := oR) (p := X1) (u := [y]) (v := X2) (q := []) (fun x hx z hz => by simp at hx; subst hx; exact Nat.ne_of_lt (HHI.out z hz))
            simpa using this
        · rw [List.concat_eq_append] at hXa
          subst hXa
          have hki : i < k := by
            have h1 := HP.out.2
            have h2 := HL1.out
            simp only [List.length_append, List.length_cons, List.length_nil] at h1
            omega
          obtain ⟨kp, rfl⟩ : ∃ kp, k = kp + 1 := ⟨k - 1, by omega⟩
          have hkI : (i : Int) < (kp : Int) + 1 := by omega
          have hq : (A ++ X1 ++ Xa').length = kp := by
            have h1 := HP.out.2
            simp only [List.length_append, List.length_cons, List.length_nil] at h1 ⊢
            omega
          have hd : SW w0 g rest ((A ++ X1 ++ Xa') ++ z :: ([] ++ y :: (Xb ++ B))) wr.drew := by simpa using HW.out.drew
          have k1 := get_first (A ++ X1 ++ Xa') ([] ++ y :: (Xb ++ B)) z
          have k2 := get_second (A ++ X1 ++ Xa') [] (Xb ++ B) z y
          have l1 := hd.load k1
          have l2 := hd.load k2
          obtain ⟨P1, P2, s1, s2, hsw⟩ := hd.swap (List.getElem?_eq_some_iff.1 k2).1 (List.getElem?_eq_some_iff.1 k1).1 y z
          rw [List.set_comm _ _ (by omega), swap_two] at hsw
          simp only [hq, List.length_nil, Nat.add_zero] at l1 l2 s1 s2
          have H2 : Hid (SW w0 g rest (A ++ X1 ++ Xa' ++ y :: ((z :: Xb) ++ B)) ((wr.drew.setRow g P1).setRow g P2)) := by
            show SW _ _ _ _ _
            simpa using hsw
          have HQ : Hid (Xa' ++ (z :: Xb) = X2 ∧ A.length + X1.length + Xa'.length = kp) := ⟨by rw [← HP.out.1]; simp, by simp only [List.length_append] at hq; exact hq⟩
          have j0 : IntKind.i64.wrap (kp : Int) = (kp : Int) := by rw [IntKind.wrap_i64]; omega
          have j1 : (kp : Int) + 1 < n := by omega
          have j2 : (kp : Int) < n := by omega
          have j3 : (0 : Int) ≤ (kp : Int) + 1 := by omega
          have j4 : ((kp : Int) + 1).toNat = kp + 1 := by omega
          have j5 : IntKind.i64.wrap ((kp : Int) + 1) = (kp : Int) + 1 := by rw [IntKind.wrap_i64]; omega
          clear hd hsw k1 k2 hq
          go_wp2_with fail
          go_big_region_o
          all_goals go_wp2
          go_roundw
          case rel => exact ⟨kp, Xa', z :: Xb, by first | rfl | go_num, by omega, HQ, H2⟩
          case measure => simp [intOf]
end Go.Proofs.Ytggjcjijoihilaa
namespace Go.Proofs.Ytggjcjijoihilaa
open Go.RowKit Go.Sort Go.Shelf Go.Deep
attribute [local go_sem ↓] loadVar_key loadVar_pre loadVar_route storeVar_pre storeVar_route buildSlice_row

/-- Where the search stands: what is known on both sides of it. -/
structure SymAt (X Y : List Rt) (a m b mid i j : Nat) : Prop where
  ai : a ≤ i
  ij : i ≤ j
  jm : j ≤ m
  jd : j ≤ mid
  bi : mid + m ≤ b + i
  hi : ∀ x y, X[j - a]? = some x → j < mid → Y[mid - 1 - j]? = some y → oR y < oR x
  lo : ∀ x y, a < i → X[i - 1 - a]? = some x → Y[mid - i]? = some y → oR x ≤ oR y

/-- The parts behind the search. -/
structure SymCut (X Y : List Rt) (a m b mid s : Nat) (X1 U V Y2 : List Rt) : Prop where
  x : X = X1 ++ U
  y : Y = V ++ Y2
  l1 : a + X1.length = s
  l2 : s + U.length = m
  l3 : s + V.length = mid
  l4 : mid + m - s + Y2.length = b
  vu : ∀ u ∈ U, ∀ v ∈ V, oR v < oR u
  xy : ∀ x ∈ X1, ∀ y ∈ Y2, oR x ≤ oR y

theorem sym_cut {X Y : List Rt} {a m b mid s : Nat} (h : SymAt X Y a m b mid s s) (hx : a + X.length = m) (hy : m + Y.length = b) (sx : Srt oR X) (sy : Srt oR Y) :
    ∃ X1 U V Y2, SymCut X Y a m b mid s X1 U V Y2 := by
  obtain ⟨h1, -, h3, h4, h5, hi, lo⟩ := h
  refine ⟨X.take (s - a), X.drop (s - a), Y.take (mid - s), Y.drop (mid - s), (List.take_append_drop _ _).symm, (List.take_append_drop _ _).symm, by rw [List.length_take]; omega, by rw [List.length_drop]; omega, by rw [List.length_take]; omega, by rw [List.length_drop]; omega, fun u hu v hv => ?_, fun x hx1 y hy1 => ?_⟩
  · obtain ⟨k, hk⟩ := List.mem_iff_getElem?.1 hu
    obtain ⟨q, hq⟩ := List.mem_iff_getElem?.1 hv
    rw [List.getElem?_drop] at hk
    rw [List.getElem?_take] at hq
    split at hq
    · have hkl := (List.getElem?_eq_some_iff.1 hk).1
      have hx0 : X[s - a]? = some (X[s - a]'(by omega)) := List.getElem?_eq_getElem _
      have hy0 : Y[mid - 1 - s]? = some (Y[mid - 1 - s]'(by omega)) := List.getElem?_eq_getElem _
      have e1 := hi _ _ hx0 (by omega) hy0
      have e2 := sx.get (i := s - a) (j := s - a + k) (by omega) hx0 hk
      have e3 := sy.get (i := q) (j := mid - 1 - s) (by omega) hq hy0
      omega
    · cases hq
  · obtain ⟨k, hk⟩ := List.mem_iff_getElem?.1 hx1
    obtain ⟨q, hq⟩ := List.mem_iff_getElem?.1 hy1
    rw [List.getElem?_take] at hk
    rw [List.getElem?_drop] at hq
    split at hk
    · have hql := (List.getElem?_eq_some_iff.1 hq).1
      have hx0 : X[s - 1 - a]? = some (X[s - 1 - a]'(by omega)) := List.getElem?_eq_getElem _
      have hy0 : Y[mid - s]? = some (Y[mid - s]'(by omega)) := List.getElem?_eq_getElem _
      have e1 := lo _ _ (by omega) hx0 hy0
      have e2 := sx.get (i := k) (j := s - 1 - a) (by omega) hk hx0
      have e3 := sy.get (i := mid - s) (j := mid - s + q) (by omega) hy0 hq
      omega
    · cases hk

theorem sym_start {X Y : List Rt} {a m b mid : Nat} (hx : a + X.length = m) (hy : m + Y.length = b) (hmid : mid = (a + b) / 2) :
    (mid < m → SymAt X Y a m b mid (mid + m - b) mid) ∧ (m ≤ mid → SymAt X Y a m b mid a m) := by
  constructor
  · intro h
    refine ⟨by omega, by omega, by omega, Nat.le_refl _, by omega, fun x y _ h2 _ => by omega, fun x y _ _ h3 => ?_⟩
    have := (List.getElem?_eq_some_iff.1 h3).1
    omega
  · intro h
    refine ⟨Nat.le_refl _, by omega, Nat.le_refl _, h, by omega, fun x y h1 _ _ => ?_, fun x y h1 _ _ => by omega⟩
    have := (List.getElem?_eq_some_iff.1 h1).1
    omega

/-- One round of the search. -/
theorem sym_up {X Y : List Rt} {a m b mid i j c : Nat} (h : SymAt X Y a m b mid i j) (hy : m + Y.length = b) (h1 : i ≤ c) (h2 : c < j) {x y : Rt} (hx : X[c - a]? = some x) (hy1 : Y[mid - 1 - c]? = some y) (hle : oR x ≤ oR y) : SymAt X Y a m b mid (c + 1) j :=
  ⟨by have := h.ai; omega, by omega, h.jm, h.jd, by have := h.bi; omega, h.hi, fun x' y' _ e1 e2 => by
    rw [show c + 1 - 1 - a = c - a by omega, hx] at e1
    rw [show mid - (c + 1) = mid - 1 - c by omega, hy1] at e2
    simp only [Option.some.injEq] at e1 e2
    rw [← e1, ← e2]; exact hle⟩
theorem sym_down {X Y : List Rt} {a m b mid i j c : Nat} (h : SymAt X Y a m b mid i j) (h1 : i ≤ c) (h2 : c < j) {x y : Rt} (hx : X[c - a]? = some x) (hy1 : Y[mid - 1 - c]? = some y) (hlt : oR y < oR x) : SymAt X Y a m b mid i c :=
  ⟨h.ai, h1, by have := h.jm; omega, by have := h.jd; omega, h.bi, fun x' y' e1 _ e2 => by
    rw [hx] at e1
    rw [hy1] at e2
    simp only [Option.some.injEq] at e1 e2
    rw [← e1, ← e2]; exact hlt, h.lo⟩

/-- What two merged parts are together. -/
theorem sym_done {X Y X1 U V Y2 Z1 Z2 : List Rt} {a m b mid s : Nat} (h : SymCut X Y a m b mid s X1 U V Y2) (sx : Srt oR X) (sy : Srt oR Y) (s1 : Srt oR Z1) (s2 : Srt oR Z2) (c1 : Cls oR Z1 (X1 ++ V)) (c2 : Cls oR Z2 (U ++ Y2)) :
    Srt oR (Z1 ++ Z2) ∧ Cls oR (Z1 ++ Z2) (X ++ Y) := by
  have hx := h.x
  have hy := h.y
  rw [hx] at sx
  rw [hy] at sy
  constructor
  · refine s1.app s2 fun p hp q hq => ?_
    have hp := c1.mem.1 hp
    have hq := c2.mem.1 hq
    rcases List.mem_append.1 hp with hp | hp <;> rcases List.mem_append.1 hq with hq | hq
    · exact sx.across p hp q hq
    · exact h.xy p hp q hq
    · exact Nat.le_of_lt (h.vu q hq p hp)
    · exact sy.across p hp q hq
  · refine (c1.app c2).trans ?_
    rw [hx, hy]
    have := Cls.swap_at (o := oR) (p := X1) (u := V) (v := U) (q := Y2) (fun v hv u hu => Nat.ne_of_lt (h.vu u hu v hv))
    simpa [List.append_assoc] using this

def SymIH (w0 : World) (g : Nat) (rest : List Value) (n cap N : Nat) : Prop :=
  ∀ (A X Y B : List Rt) (a m b : Nat) (W : World), X.length + Y.length < N → SW w0 g rest (A ++ X ++ Y ++ B) W → A.length = a → a + X.length = m → m + Y.length = b → (A ++ X ++ Y ++ B).length = n → X ≠ [] → Y ≠ [] → Srt oR X → Srt oR Y → AllMay (X ++ Y) →
    Calls Try.prog 82 #[.slice (some ⟨g, 0, none⟩) n cap, .int .i64 a, .int .i64 m, .int .i64 b, cmpV] W (SymPost w0 g rest A (X ++ Y) B)

set_option maxHeartbeats 8000000 in
set_option maxRecDepth 1000000 in
theorem sym_gen (w0 : World) (g : Nat) (rest : List Value) (n cap : Nat) (h16 : n ≤ 65536) (A X Y B : List Rt) (a m b : Nat) (W : World) (IH : SymIH w0 g rest n cap (X.length + Y.length)) (h : SW w0 g rest (A ++ X ++ Y ++ B) W) (ha : A.length = a) (hma : a + X.length = m) (hb : m + Y.length = b) (hn : (A ++ X ++ Y ++ B).length = n)
    (h2x : 2 ≤ X.length) (h2y : 2 ≤ Y.length) (sx : Srt oR X) (sy : Srt oR Y) (hm : AllMay (X ++ Y)) :
    Calls Try.prog 82 #[.slice (some ⟨g, 0, none⟩) n cap, .int .i64 a, .int .i64 m, .int .i64 b, cmpV] W (SymPost w0 g rest A (X ++ Y) B) := by
  have hbn : b ≤ n := by rw [← hn]; simp only [List.length_append]; omega
  have hnI : (n : Int) ≤ 65536 := by omega
  have hbI : (b : Int) ≤ n := by omega
  have eg := enters_of Try.func49 (by kernel_rfl) rfl
  have mixed : Try.prog.follows .mixedOrders = true := by kernel_rfl
  have hAX : (A ++ X).length = m := by rw [List.length_append]; omega
  have hXg : ∀ h, a ≤ h → h < m → ∃ x, X[h - a]? = some x ∧ (A ++ X ++ Y ++ B)[h]? = some x ∧ mayB x.pre = true := fun h h1 h2 => by
    have hlt : h - a < X.length := by omega
    refine ⟨X[h - a], List.getElem?_eq_getElem hlt, ?_, hm _ (List.mem_append_left _ (List.getElem_mem hlt))⟩
    rw [List.append_assoc (A ++ X), get_mid ha h1 (by omega)]; exact List.getElem?_eq_getElem hlt
  have hYg : ∀ h, m ≤ h → h < b → ∃ y, Y[h - m]? = some y ∧ (A ++ X ++ Y ++ B)[h]? = some y ∧ mayB y.pre = true := fun h h1 h2 => by
    have hlt : h - m < Y.length := by omega
    refine ⟨Y[h - m], List.getElem?_eq_getElem hlt, ?_, hm _ (List.mem_append_right _ (List.getElem_mem hlt))⟩
    rw [get_mid hAX h1 (by omega)]; exact List.getElem?_eq_getElem hlt
  obtain ⟨mid, hmid⟩ : ∃ mid, mid = (a + b) / 2 := ⟨_, rfl⟩
  have hst := sym_start (X := X) (Y := Y) hma hb hmid
  have hw : ((a : Int) + b) / 2 = (mid : Int) := by omega
  have hmaI : ((m : Int) - (a : Int) == 1) = false := by rw [beq_eq_false_iff_ne]; omega
  have hbmI : ((b : Int) - (m : Int) == 1) = false := by rw [beq_eq_false_iff_ne]; omega
  have hab : a ≤ m := by omega
  have hmb : m ≤ b := by omega
  have hamid : a ≤ mid := by omega
  have hmidb : mid ≤ b := by omega
  have hmI : (m : Int) ≤ 65536 := by omega
  have haI : (a : Int) ≤ 65536 := by omega
  have hmidI : (mid : Int) ≤ 65536 := by omega
  have hbI2 : (b : Int) ≤ 65536 := by omega
  have hamI : (a : Int) ≤ m := by omega
  have hmbI : (m : Int) ≤ b := by omega
  have HL := Lib.hid h
  have HA := Lib.hid ha
  have HMA := Lib.hid hma
  have HB := Lib.hid hb
  have HN := Lib.hid hn
  have HSX := Lib.hid sx
  have HSY := Lib.hid sy
  have HM := Lib.hid hm
  have HXG := Lib.hid hXg
  have HYG := Lib.hid hYg
  have HST := Lib.hid hst
  have HIH := Lib.hid IH
  have H2X := Lib.hid h2x
  have H2Y := Lib.hid h2y
  have hmid2 : a + b ≤ 2 * mid + 1 := by omega
  obtain ⟨L, eL⟩ : ∃ L, L = A ++ X ++ Y ++ B := ⟨_, rfl⟩
  rw [← eL] at HL HXG HYG
  have EL := Lib.hid eL
  clear h ha hma hb hn sx sy hm hXg hYg hst IH h2x h2y hAX eL hmid
  unfold SymPost cmpV
  go_enter Try.func82, Try.ntmps82
  go_upto_if 140 with (fail)
  go_cut [20, 21] from 140 to 146 (fun s t wx => ∃ i j : Nat, s = .int .i64 i ∧ t = .int .i64 j ∧ Hid (SymAt X Y a m b mid i j) ∧ Hid (SW w0 g rest L wx))
  case first =>
    by_cases hgt : mid < m
    · have hgtI : (mid : Int) < m := by omega
      have hdI : (b : Int) ≤ (mid : Int) + m := by omega
      go_wp2_with fail
      go_meet
      exact ⟨mid + m - b, mid, congrArg (Value.int .i64) (by omega), rfl, HST.out.1 hgt, HL⟩
    · have hgtI : ¬ (mid : Int) < m := by omega
      go_wp2_with fail
      go_meet
      exact ⟨a, m, rfl, rfl, HST.out.2 (by omega), HL⟩
  case rest =>
    obtain ⟨s0, t0, rfl, rfl, HAT, HW0⟩ := hcut
    go_wp2
    go_loopw [20, 21, 23] (fun s t _ wr => ∃ i j : Nat, s = .int .i64 i ∧ t = .int .i64 j ∧ Hid (SymAt X Y a m b mid i j) ∧ Hid (SW w0 g rest L wr)) (fun s t _ _ => (intOf t).toNat - (intOf s).toNat)
    case atStart => exact ⟨s0, t0, rfl, rfl, HAT, HW0⟩
    case round =>
      obtain ⟨i, j, rfl, rfl, HAT, HW⟩ := hrel
      have b1 := HAT.out.ai
      have b2 := HAT.out.ij
      have b3 := HAT.out.jm
      have b4 := HAT.out.jd
      have b5 := HAT.out.bi
      by_cases hlt : i < j
      · have hltI : (i : Int) < j := by omega
        have hjI : (j : Int) ≤ 65536 := by omega
        have hiI : (i : Int) ≤ 65536 := by omega
        obtain ⟨c, hc⟩ : ∃ c, c = (i + j) / 2 := ⟨_, rfl⟩
        have h1 : i ≤ c := by omega
        have h2 : c < j := by omega
        have hwc : ((i : Int) + j) / 2 = (c : Int) := by omega
        have hcI : (c : Int) ≤ 65536 := by omega
        obtain ⟨q, hq⟩ : ∃ q, q = mid + m - 1 - c := ⟨_, rfl⟩
        have hqz : (mid : Int) + (m : Int) - 1 - (c : Int) = (q : Int) := by omega
        have hqw : IntKind.i64.wrap ((mid : Int) + (m : Int) - 1 - (c : Int)) = (q : Int) := by rw [IntKind.wrap_i64]; omega
        have hqw2 : IntKind.i64.wrap (q : Int) = (q : Int) := by rw [IntKind.wrap_i64]; omega
        obtain ⟨x, hx1, hx2, hmx⟩ := HXG.out c (by omega) (by omega)
        obtain ⟨y, hy1, hy2, hmy⟩ := HYG.out q (by omega) (by omega)
        rw [show q - m = mid - 1 - c by omega] at hy1
        have L1 := fun d os => (HW.out.later (below_regrown wr d os)).load hx2
        have L2 := fun d os => (HW.out.later (below_regrown wr d os)).load hy2
        have C1 := fun d os => Calls.regrown_of (order_any y x (grow (redrawn wr d) os))
        have hneg := ordZ_neg hmy hmx
        obtain ⟨zc, hzc⟩ : ∃ zc, zc = ordZ y.pre x.pre := ⟨_, rfl⟩
        rw [← hzc] at C1 hneg
        have HNEG := Lib.hid hneg
        have HX1 := Lib.hid hx1
        have HY1 := Lib.hid hy1
        have hcn : (c : Int) < n := by omega
        have hqn : (q : Int) < n := by omega
        clear hneg hzc hx1 hx2 hy1 hy2 hmx hmy hc hq
        by_cases hlv : zc < 0
        · have hlvD : decide (zc < 0) = true := decide_eq_true hlv
          have HAT2 : Hid (SymAt X Y a m b mid i c) := sym_down HAT.out h1 h2 HX1.out HY1.out (HNEG.out.1 hlv)
          clear hlv
          go_wp2_with fail
          refine wp_region_quiet_below (by kernel_rfl) (by kernel_rfl) ?_
          repeat (go_big_quiet_step (exact C1 _ _))
          refine wpQuiet_nil fun w3 hw3 => ?_
          have hb3 : Below wr.heap.size wr w3 := by
            obtain ⟨p, rfl⟩ := hw3
            exact below_regrown wr p.d p.os
          have HW3 := Lib.hid (HW.out.later hb3)
          clear hw3 L1 L2 C1 hb3
          go_wp2
          go_roundw
          case rel => exact ⟨i, c, rfl, rfl, HAT2, HW3⟩
          case measure => simp [intOf]; omega
        · have hlvD : decide (zc < 0) = false := decide_eq_false hlv
          have HAT2 : Hid (SymAt X Y a m b mid (c + 1) j) := sym_up HAT.out HB.out h1 h2 HX1.out HY1.out (by
            by_cases h6 : oR y < oR x
            · exact absurd (HNEG.out.2 h6) hlv
            · omega)
          clear hlv
          go_wp2_with fail
          refine wp_region_quiet_below (by kernel_rfl) (by kernel_rfl) ?_
          repeat (go_big_quiet_step (exact C1 _ _))
          refine wpQuiet_nil fun w3 hw3 => ?_
          have hb3 : Below wr.heap.size wr w3 := by
            obtain ⟨p, rfl⟩ := hw3
            exact below_regrown wr p.d p.os
          have HW3 := Lib.hid (HW.out.later hb3)
          clear hw3 L1 L2 C1 hb3
          go_wp2
          go_roundw
          case rel => exact ⟨c + 1, j, by go_num, rfl, HAT2, HW3⟩
          case measure => simp [intOf]; omega
      · obtain rfl : i = j := by omega
        obtain ⟨e, he⟩ : ∃ e, e = mid + m - i := ⟨_, rfl⟩
        have hez : (mid : Int) + (m : Int) - (i : Int) = (e : Int) := by omega
        have hiI : (i : Int) ≤ 65536 := by omega
        have hidI : (i : Int) ≤ mid := by omega
        have himI : (i : Int) ≤ m := by omega
        obtain ⟨X1, U, V, Y2, cut⟩ := sym_cut HAT.out HMA.out HB.out HSX.out HSY.out
        have HC := Lib.hid cut
        have l1 := cut.l1
        have l2 := cut.l2
        have l3 := cut.l3
        have l4 := cut.l4
        rw [← he] at l4
        have HLL : Hid (L = A ++ X1 ++ U ++ V ++ (Y2 ++ B)) := by
          show _ = _
          rw [EL.out, cut.x, cut.y]; simp
        have hLn : (A ++ X1 ++ U ++ V ++ (Y2 ++ B)).length = n := by rw [← HLL.out, EL.out]; exact HN.out
        have HLN := Lib.hid hLn
        have HME : Hid (m + V.length = e) := by show _ = _; omega
        clear cut he HXG HYG HST hLn
        -- the rotation
        go_upto_region 39 with (fail)
        go_cut [185] from 178 to 184 (fun bb wx => bb = .bool (decide (i < m) && decide (i < mid)) ∧ wx = wr)
        case first =>
          by_cases hs : i < m
          · have hsI : (i : Int) < m := by omega
            by_cases hs2 : i < mid
            · have hs2I : (m : Int) < e := by omega
              go_wp2_with fail
              go_meet
              exact ⟨by simp [hs, hs2], rfl⟩
            · have hs2I : ¬ (m : Int) < e := by omega
              go_wp2_with fail
              go_meet
              exact ⟨by simp [hs, hs2], rfl⟩
          · have hsI : ¬ (i : Int) < m := by omega
            go_wp2_with fail
            go_meet
            exact ⟨by simp [hs], rfl⟩
        case rest =>
          obtain ⟨rfl, rfl⟩ := hcut
          go_upto_if 185 with (fail)
          go_cut [] from 185 to 191 (fun wx => Hid (SW w0 g rest (A ++ X1 ++ V ++ U ++ (Y2 ++ B)) wx))
          case first =>
            by_cases hs : i < m ∧ i < mid
            · have hsB : (decide (i < m) && decide (i < mid)) = true := by simp [hs]
              have CR := rotate_any w0 g rest (A ++ X1) U V (Y2 ++ B) i m e n cap cmpV wc (by rw [← HLL.out]; exact HW.out) (by rw [List.length_append, HA.out]; exact l1) l2 HME.out (by omega) (by omega) HLN.out h16
              unfold cmpV at CR
              have HCR := Lib.hid CR
              clear CR
              rw [hsB]
              go_wp2_with fail
              refine HCR.out.mono ?_
              rintro e1 w1 ⟨rfl, hw1⟩
              have HW1 := Lib.hid hw1
              clear hw1
              go_wp2_with fail
              go_meet
              exact HW1
            · have hsB : (decide (i < m) && decide (i < mid)) = false := by
                cases h : (decide (i < m) && decide (i < mid)) with
                | false => rfl
                | true => exact absurd (by simpa using h) hs
              have HW1 : Hid (SW w0 g rest (A ++ X1 ++ V ++ U ++ (Y2 ++ B)) wc) := by
                show SW _ _ _ _ _
                have h1 := HW.out
                rw [HLL.out] at h1
                have : U = [] ∨ V = [] := by
                  by_cases h2 : i < m
                  · right; exact List.length_eq_zero_iff.1 (by omega)
                  · left; exact List.length_eq_zero_iff.1 (by omega)
                rcases this with h2 | h2
                · rw [h2] at h1 ⊢; simpa using h1
                · rw [h2] at h1 ⊢; simpa using h1
              rw [hsB]
              go_wp2_with fail
              go_meet
              exact HW1
          case rest =>
            have HW1 := hcut
            clear hcut HW
            have sX1 : Srt oR X1 := by have h1 := HSX.out; rw [HC.out.x] at h1; exact h1.left
            have sU : Srt oR U := by have h1 := HSX.out; rw [HC.out.x] at h1; exact h1.right
            have sV : Srt oR V := by have h1 := HSY.out; rw [HC.out.y] at h1; exact h1.left
            have sY2 : Srt oR Y2 := by have h1 := HSY.out; rw [HC.out.y] at h1; exact h1.right
            have hmm : ∀ r, r ∈ X1 ∨ r ∈ U ∨ r ∈ V ∨ r ∈ Y2 → mayB r.pre = true := fun r hr => HM.out r (by
              rw [HC.out.x, HC.out.y]
              simp only [List.mem_append]
              rcases hr with h | h | h | h <;> simp [h])
            have hlx : X.length = X1.length + U.length := by have h1 := congrArg List.length HC.out.x; rwa [List.length_append] at h1
            have hly : Y.length = V.length + Y2.length := by have h1 := congrArg List.length HC.out.y; rwa [List.length_append] at h1
            have HSX1 := Lib.hid sX1
            have HSU := Lib.hid sU
            have HSV := Lib.hid sV
            have HSY2 := Lib.hid sY2
            have HMM := Lib.hid hmm
            have HLX := Lib.hid hlx
            have HLY := Lib.hid hly
            clear sX1 sU sV sY2 hmm hlx hly
            go_upto_region 41 with (fail)
            go_cut [199] from 192 to 198 (fun bb wx => bb = .bool (decide (a < i) && decide (i < mid)) ∧ wx = wc)
            case first =>
              by_cases hs : a < i
              · have hsI : (a : Int) < i := by omega
                by_cases hs2 : i < mid
                · have hs2I : (i : Int) < mid := by omega
                  go_wp2_with fail
                  go_meet
                  exact ⟨by simp [hs, hs2], rfl⟩
                · have hs2I : ¬ (i : Int) < mid := by omega
                  go_wp2_with fail
                  go_meet
                  exact ⟨by simp [hs, hs2], rfl⟩
              · have hsI : ¬ (a : Int) < i := by omega
                go_wp2_with fail
                go_meet
                exact ⟨by simp [hs], rfl⟩
            case rest =>
              obtain ⟨rfl, rfl⟩ := hcut
              go_upto_if 199 with (fail)
              go_cut [] from 199 to 205 (fun wx => Hid (∃ Z1, SW w0 g rest (A ++ Z1 ++ (U ++ (Y2 ++ B))) wx ∧ Srt oR Z1 ∧ Cls oR Z1 (X1 ++ V)))
              case first =>
                by_cases hs : a < i ∧ i < mid
                · have hsB : (decide (a < i) && decide (i < mid)) = true := by simp [hs]
                  have C2 := HIH.out A X1 V (U ++ (Y2 ++ B)) a i mid wc (by have := HLX.out; have := HLY.out; have := H2Y.out; omega) (by have h1 := HW1.out; simpa using h1) HA.out l1 l3 (by
                    rw [← HLN.out]; simp only [List.length_append]; omega) (fun h => by rw [h] at l1; simp at l1; omega) (fun h => by rw [h] at l3; simp at l3; omega) HSX1.out HSV.out (fun r hr => HMM.out r (by
                    rcases List.mem_append.1 hr with h | h
                    · exact .inl h
                    · exact .inr (.inr (.inl h))))
                  unfold cmpV at C2
                  have HC2 := Lib.hid C2
                  clear C2
                  rw [hsB]
                  go_wp2_with fail
                  refine HC2.out.mono ?_
                  rintro e1 w1 ⟨rfl, hz⟩
                  have HZ := Lib.hid hz
                  clear hz
                  go_wp2_with fail
                  go_meet
                  exact HZ
                · have hsB : (decide (a < i) && decide (i < mid)) = false := by
                    cases h : (decide (a < i) && decide (i < mid)) with
                    | false => rfl
                    | true => exact absurd (by simpa using h) hs
                  have HZ : Hid (∃ Z1, SW w0 g rest (A ++ Z1 ++ (U ++ (Y2 ++ B))) wc ∧ Srt oR Z1 ∧ Cls oR Z1 (X1 ++ V)) := by
                    refine ⟨X1 ++ V, by have h1 := HW1.out; simpa using h1, ?_, Cls.refl _⟩
                    by_cases h2 : a < i
                    · have h3 : V = [] := List.length_eq_zero_iff.1 (by omega)
                      rw [h3, List.append_nil]; exact HSX1.out
                    · have h3 : X1 = [] := List.length_eq_zero_iff.1 (by omega)
                      rw [h3, List.nil_append]; exact HSV.out
                  rw [hsB]
                  go_wp2_with fail
                  go_meet
                  exact HZ
              case rest =>
                obtain ⟨Z1, hz1, hz2, hz3⟩ := hcut
                have HZ1 := Lib.hid hz1
                have HZ2 := Lib.hid hz2
                have HZ3 := Lib.hid hz3
                have hzl : Z1.length = X1.length + V.length := by have h1 := hz3.length; rwa [List.length_append] at h1
                have HZL := Lib.hid hzl
                clear hz1 hz2 hz3 hzl HW1
                go_upto_region 43 with (fail)
                go_cut [213] from 206 to 212 (fun bb wx => bb = .bool (decide (mid < e) && decide (e < b)) ∧ wx = wc)
                case first =>
                  by_cases hs : mid < e
                  · have hsI : (mid : Int) < e := by omega
                    by_cases hs2 : e < b
                    · have hs2I : (e : Int) < b := by omega
                      go_wp2_with fail
                      go_meet
                      exact ⟨by simp [hs, hs2], rfl⟩
                    · have hs2I : ¬ (e : Int) < b := by omega
                      go_wp2_with fail
                      go_meet
                      exact ⟨by simp [hs, hs2], rfl⟩
                  · have hsI : ¬ (mid : Int) < e := by omega
                    go_wp2_with fail
                    go_meet
                    exact ⟨by simp [hs], rfl⟩
                case rest =>
                  obtain ⟨rfl, rfl⟩ := hcut
                  by_cases hs : mid < e ∧ e < b
                  · have hsB : (decide (mid < e) && decide (e < b)) = true := by simp [hs]
                    have C3 := HIH.out (A ++ Z1) U Y2 B mid e b wc (by have := HLX.out; have := HLY.out; have := H2X.out; have := HME.out; omega) (by have h1 := HZ1.out; simpa using h1) (by rw [List.length_append, HA.out, HZL.out]; omega) (by have := HME.out; omega) l4 (by
                      rw [← HLN.out]; have := HZL.out; simp only [List.length_append]; omega) (fun h => by rw [h] at l2; simp at l2; have := HME.out; omega) (fun h => by rw [h] at l4; simp at l4; omega) HSU.out HSY2.out (fun r hr => HMM.out r (by
                      rcases List.mem_append.1 hr with h | h
                      · exact .inr (.inl h)
                      · exact .inr (.inr (.inr h))))
                    unfold cmpV at C3
                    have HC3 := Lib.hid C3
                    clear C3
                    rw [hsB]
                    go_wp2_with fail
                    refine HC3.out.mono ?_
                    rintro e1 w1 ⟨rfl, Z2, hz1, hz2, hz3⟩
                    have HY1 := Lib.hid hz1
                    have hdn := sym_done HC.out HSX.out HSY.out HZ2.out hz2 HZ3.out hz3
                    have HDN := Lib.hid hdn
                    clear hz1 hz2 hz3 hdn
                    go_wp2
                    go_end0
                    exact ⟨rfl, Z1 ++ Z2, by have h1 := HY1.out; simpa using h1, HDN.out.1, HDN.out.2⟩
                  · have hsB : (decide (mid < e) && decide (e < b)) = false := by
                      cases h : (decide (mid < e) && decide (e < b)) with
                      | false => rfl
                      | true => exact absurd (by simpa using h) hs
                    have hdn := sym_done HC.out HSX.out HSY.out HZ2.out (Z2 := U ++ Y2) (by
                      by_cases h2 : mid < e
                      · have h3 : Y2 = [] := List.length_eq_zero_iff.1 (by omega)
                        rw [h3, List.append_nil]; exact HSU.out
                      · have h3 : U = [] := List.length_eq_zero_iff.1 (by have := HME.out; omega)
                        rw [h3, List.nil_append]; exact HSY2.out) HZ3.out (Cls.refl _)
                    have HDN := Lib.hid hdn
                    clear hdn
                    rw [hsB]
                    go_wp2
                    go_end0
                    exact ⟨rfl, Z1 ++ (U ++ Y2), by have h1 := HZ1.out; simpa using h1, HDN.out.1, HDN.out.2⟩

theorem sym_any (w0 : World) (g : Nat) (rest : List Value) (n cap : Nat) (h16 : n ≤ 65536) (N : Nat) : SymIH w0 g rest n cap N := by
  induction N with
  | zero => intro A X Y B a m b W hl; exact absurd hl (Nat.not_lt_zero _)
  | succ N ih =>
    intro A X Y B a m b W hl h ha hma hb hn hX hY sx sy hm
    by_cases h1 : X.length = 1
    · obtain ⟨x, rfl⟩ := List.length_eq_one_iff.1 h1
      exact sym_one w0 g rest A x Y B a m b n cap W h ha (by simpa using hma) hb hn h16 sy hm
    · by_cases h2 : Y.length = 1
      · obtain ⟨y, rfl⟩ := List.length_eq_one_iff.1 h2
        exact sym_last w0 g rest A X y B a m b n cap W h ha hma h1 (by simpa using hb) hn h16 sx hm
      · have hx0 := List.length_pos_iff.2 hX
        have hy0 := List.length_pos_iff.2 hY
        refine sym_gen w0 g rest n cap h16 A X Y B a m b W ?_ h ha hma hb hn (by omega) (by omega) sx sy hm
        intro A' X' Y' B' a' m' b' W' hl'
        exact ih A' X' Y' B' a' m' b' W' (by omega)
end Go.Proofs.Ytggjcjijoihilaa
