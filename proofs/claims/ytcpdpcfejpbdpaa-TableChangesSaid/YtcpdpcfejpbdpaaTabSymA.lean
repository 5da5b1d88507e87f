/- slices.symMergeCmpFunc over routes, where one of the two parts is a single route. -/
import Derived.Test.YtcpdpcfejpbdpaaTabIns
namespace Go.Proofs.Ytcpdpcfejpbdpaa
open Go.RowKit Go.Sort Go.Shelf
attribute [local go_sem ↓] loadVar_key loadVar_pre loadVar_route storeVar_pre storeVar_route buildSlice_row

def SymPost (w0 : World) (g : Nat) (rest : List Value) (A X B : List Rt) (e : Ending) (w' : World) : Prop := e = .returned (.tuple #[]) ∧ ∃ Z, SW w0 g rest (A ++ Z ++ B) w' ∧ Srt oR Z ∧ Cls oR Z X

theorem get_mid {α : Type} {A Y B : List α} {m h : Nat} (hA : A.length = m) (h1 : m ≤ h) (h2 : h < m + Y.length) : (A ++ Y ++ B)[h]? = Y[h - m]? := by
  rw [List.append_assoc, List.getElem?_append_right (by omega), hA, List.getElem?_append_left (by omega)]

set_option maxHeartbeats 4000000 in
set_option maxRecDepth 1000000 in
theorem sym_one (w0 : World) (g : Nat) (rest : List Value) (A : List Rt) (x : Rt) (Y B : List Rt) (a m b n cap : Nat) (W : World) (h : SW w0 g rest (A ++ [x] ++ Y ++ B) W) (ha : A.length = a) (hma : a + 1 = m) (hb : m + Y.length = b) (hn : (A ++ [x] ++ Y ++ B).length = n) (h16 : n ≤ 65536)
    (hs : Srt oR Y) (hm : AllMay ([x] ++ Y)) :
    Calls Try.prog 63 #[.slice (some ⟨g, 0, none⟩) n cap, .int .i64 a, .int .i64 m, .int .i64 b, cmpV] W (SymPost w0 g rest A ([x] ++ Y) B) := by
  have hbn : b ≤ n := by rw [← hn]; simp only [List.length_append, List.length_cons, List.length_nil]; omega
  have hnI : (n : Int) ≤ 65536 := by omega
  have hbI : (b : Int) ≤ n := by omega
  have eg := enters_of Try.func39 (by kernel_rfl) rfl
  have mixed : Try.prog.follows .mixedOrders = true := by kernel_rfl
  have hAx : (A ++ [x]).length = m := by simp; omega
  have hxa : (A ++ [x] ++ Y ++ B)[a]? = some x := by
    rw [List.append_assoc, List.append_assoc, ← ha]; exact get_first A _ x
  have hmx : mayB x.pre = true := hm x (by simp)
  have hY : ∀ h, m ≤ h → h < b → ∃ y, Y[h - m]? = some y ∧ (A ++ [x] ++ Y ++ B)[h]? = some y ∧ mayB y.pre = true := fun h h1 h2 => by
    have hlt : h - m < Y.length := by omega
    refine ⟨Y[h - m], List.getElem?_eq_getElem hlt, ?_, hm _ (List.mem_append_right _ (List.getElem_mem hlt))⟩
    rw [get_mid hAx h1 (by omega)]; exact List.getElem?_eq_getElem hlt
  have HYL := Lib.hid (show Y.length = b - m by omega)
  have HMB := Lib.hid (show m ≤ b by omega)
  have hmaI : ((m : Int) - (a : Int) == 1) = true := by rw [beq_iff_eq]; omega
  have HL := Lib.hid h
  have HA := Lib.hid ha
  have HS := Lib.hid hs
  have HX := Lib.hid hxa
  have HMX := Lib.hid hmx
  have HY := Lib.hid hY
  have HN := Lib.hid hn
  have HMA := Lib.hid hma
  have hmI : (m : Int) ≤ 65536 := by have := HMB.out; omega
  have hamI : (a : Int) ≤ m := by omega
  obtain ⟨L, eL⟩ : ∃ L, L = A ++ [x] ++ Y ++ B := ⟨_, rfl⟩
  rw [← eL] at HL HX HY
  have EL := Lib.hid eL
  clear h ha hs hxa hmx hY hn hma hb hm hAx eL
  unfold SymPost cmpV
  go_enter Try.func63, Try.ntmps63
  go_wp2
  go_loopw [10, 11, 12] (fun s t _ wr => ∃ i j : Nat, m ≤ i ∧ i ≤ j ∧ j ≤ b ∧ s = .int .i64 i ∧ t = .int .i64 j ∧ Hid (SW w0 g rest L wr) ∧ Hid (∀ k y, k < i - m → Y[k]? = some y → oR y < oR x) ∧ Hid (∀ k y, j - m ≤ k → Y[k]? = some y → oR x ≤ oR y)) (fun s t _ _ => (intOf t).toNat - (intOf s).toNat)
  case atStart => exact ⟨m, b, Nat.le_refl _, HMB.out, Nat.le_refl _, rfl, rfl, HL, fun k y h => absurd h (by omega), fun k y h hk => absurd (List.getElem?_eq_some_iff.1 hk).1 (by have := HYL.out; omega)⟩
  case round =>
    obtain ⟨i, j, hmi, hij, hjb, rfl, rfl, HW, HI1, HI2⟩ := hrel
    by_cases hlt : i < j
    · have hltI : (i : Int) < j := by omega
      have hjI : (j : Int) ≤ 65536 := by omega
      have hiI : (i : Int) ≤ 65536 := by omega
      obtain ⟨h, hh⟩ : ∃ h, h = (i + j) / 2 := ⟨_, rfl⟩
      have h1 : i ≤ h := by omega
      have h2 : h < j := by omega
      have hw : ((i : Int) + j) / 2 = (h : Int) := by omega
      have hhI : (h : Int) ≤ 65536 := by omega
      obtain ⟨y, hy1, hy2, hmy⟩ := HY.out h (by omega) (by omega)
      have L1 := fun d os => (HW.out.later (below_regrown wr d os)).load hy2
      have L2 := fun d os => (HW.out.later (below_regrown wr d os)).load HX.out
      have C1 := fun d os => Calls.regrown_of (order_any y x (grow (redrawn wr d) os))
      have hneg := ordZ_neg hmy HMX.out
      obtain ⟨zc, hzc⟩ : ∃ zc, zc = ordZ y.pre x.pre := ⟨_, rfl⟩
      rw [← hzc] at C1 hneg
      have HNEG := Lib.hid hneg
      have HY1 := Lib.hid hy1
      have hhn : (h : Int) < n := by omega
      have han : (a : Int) < n := by omega
      clear hneg hzc hy1 hy2 hmy hh
      by_cases hlv : zc < 0
      · have hlvD : decide (zc < 0) = true := decide_eq_true hlv
        have hlo := HNEG.out.1 hlv
        have HI3 : Hid (∀ k z, k < h + 1 - m → Y[k]? = some z → oR z < oR x) := fun k z hk hz => by
          have := HS.out.get (i := k) (j := h - m) (by omega) hz HY1.out
          omega
        clear hlv hlo
        go_wp2_with fail
        refine wp_region_quiet_below (by kernel_rfl) (by kernel_rfl) ?_
        repeat (go_big_quiet_step (exact C1 _ _))
        refine wpQuiet_nil fun w3 hw3 => ?_
        have hb3 : Below wr.heap.size wr w3 := by
          obtain ⟨p, rfl⟩ := hw3
          exact below_regrown wr p.d p.os
        have HW3 := Lib.hid (HW.out.later hb3)
        clear hw3 L1 L2 C1 hb3
        go_wp2
        go_roundw
        case rel => exact ⟨h + 1, j, by omega, by omega, hjb, by go_num, rfl, HW3, HI3, HI2⟩
        case measure => simp [intOf]; omega
      · have hlvD : decide (zc < 0) = false := decide_eq_false hlv
        have HI3 : Hid (∀ k z, h - m ≤ k → Y[k]? = some z → oR x ≤ oR z) := fun k z hk hz => by
          have h4 := HS.out.get (i := h - m) (j := k) hk HY1.out hz
          have h5 : oR x ≤ oR y := by
            by_cases h6 : oR y < oR x
            · exact absurd (HNEG.out.2 h6) hlv
            · omega
          omega
        clear hlv
        go_wp2_with fail
        refine wp_region_quiet_below (by kernel_rfl) (by kernel_rfl) ?_
        repeat (go_big_quiet_step (exact C1 _ _))
        refine wpQuiet_nil fun w3 hw3 => ?_
        have hb3 : Below wr.heap.size wr w3 := by
          obtain ⟨p, rfl⟩ := hw3
          exact below_regrown wr p.d p.os
        have HW3 := Lib.hid (HW.out.later hb3)
        clear hw3 L1 L2 C1 hb3
        go_wp2
        go_roundw
        case rel => exact ⟨i, h, hmi, h1, by omega, rfl, rfl, HW3, HI1, HI3⟩
        case measure => simp [intOf]; omega
    · obtain rfl : i = j := by omega
      obtain ⟨Y1, hY1⟩ : ∃ Y1, Y1 = Y.take (i - m) := ⟨_, rfl⟩
      obtain ⟨Y2, hY2⟩ : ∃ Y2, Y2 = Y.drop (i - m) := ⟨_, rfl⟩
      have hYY : Y = Y1 ++ Y2 := by rw [hY1, hY2, List.take_append_drop]
      have hlo : ∀ y ∈ Y1, oR y < oR x := fun y hy => by
        obtain ⟨k, hk⟩ := List.mem_iff_getElem?.1 hy
        rw [hY1, List.getElem?_take] at hk
        split at hk
        · exact HI1.out k y ‹_› hk
        · cases hk
      have hhi : ∀ y ∈ Y2, oR x ≤ oR y := fun y hy => by
        obtain ⟨k, hk⟩ := List.mem_iff_getElem?.1 hy
        rw [hY2, List.getElem?_drop] at hk
        exact HI2.out (i - m + k) y (by omega) hk
      have hl1 : Y1.length = i - m := by rw [hY1, List.length_take, HYL.out]; omega
      have HY1 := Lib.hid hl1
      have HYY := Lib.hid hYY
      have HLO := Lib.hid hlo
      have HHI := Lib.hid hhi
      have H0 : Hid (SW w0 g rest (A ++ [] ++ x :: (Y1 ++ (Y2 ++ B))) wr) := by
        have := HW.out
        rw [EL.out, HYY.out] at this
        show SW _ _ _ _ _
        simpa using this
      have hiI : (i : Int) ≤ 65536 := by omega
      have hmiI : (m : Int) ≤ i := by omega
      clear hlo hhi hYY hY1 hY2 hl1 HI1 HI2 HW
      go_wp2
      go_loopw [13] (fun t wr => ∃ (k : Nat) (Ya Yb : List Rt), t = .int .i64 k ∧ Hid (Ya ++ Yb = Y1 ∧ A.length + Ya.length = k) ∧ Hid (SW w0 g rest (A ++ Ya ++ x :: (Yb ++ (Y2 ++ B))) wr)) (fun t _ => i - (intOf t).toNat)
      case atStart => exact ⟨a, [], Y1, rfl, ⟨rfl, HA.out⟩, H0⟩
      case round =>
        obtain ⟨k, Ya, Yb, rfl, HP, HW⟩ := hrel
        have hk1 : k ≤ i - 1 := by
          have h1 := HP.out.2
          have h2 := congrArg List.length HP.out.1
          have h3 := HY1.out
          have h4 := HA.out
          have h5 := HMA.out
          simp only [List.length_append] at h2
          omega
        cases Yb with
        | nil =>
          have hki : ¬ (k : Int) < (i : Int) - 1 := by
            have h1 := HP.out.2
            have h2 := congrArg List.length HP.out.1
            have h3 := HY1.out
            have h4 := HA.out
            have h5 := HMA.out
            simp only [List.length_append, List.length_nil] at h2
            omega
          go_wp2
          refine bodyPost_ret (results_none rfl _ _ _) rfl ?_
          refine ⟨rfl, Y1 ++ [x] ++ Y2, ?_, ?_, ?_⟩
          · have h1 := HW.out
            have h2 := HP.out.1
            rw [List.append_nil] at h2
            rw [h2] at h1
            simpa using h1
          · have hs := HS.out
            rw [HYY.out] at hs
            exact ((hs.left.app (srt_one x) (fun y hy z hz => by simp at hz; subst hz; exact Nat.le_of_lt (HLO.out y hy))).app hs.right (fun y hy z hz => by
              rcases List.mem_append.1 hy with hy | hy
              · exact hs.across y hy z hz
              · simp at hy; subst hy; exact HHI.out z hz))
          · rw [HYY.out]
            have := Cls.swap_at (o := oR) (p := []) (u := Y1) (v := [x]) (q := Y2) (fun y hy z hz => by simp at hz; subst hz; exact Nat.ne_of_lt (HLO.out y hy))
            simpa using this
        | cons y Yb =>
          have hki : k + 1 < i := by
            have h1 := HP.out.2
            have h2 := congrArg List.length HP.out.1
            have h3 := HY1.out
            have h4 := HA.out
            have h5 := HMA.out
            simp only [List.length_append, List.length_cons] at h2
            omega
          have hkI : (k : Int) < (i : Int) - 1 := by omega
          have hq : (A ++ Ya).length = k := by rw [List.length_append]; exact HP.out.2
          have hd : SW w0 g rest ((A ++ Ya) ++ x :: ([] ++ y :: (Yb ++ (Y2 ++ B)))) wr.drew := by simpa using HW.out.drew
          have k1 := get_first (A ++ Ya) ([] ++ y :: (Yb ++ (Y2 ++ B))) x
          have k2 := get_second (A ++ Ya) [] (Yb ++ (Y2 ++ B)) x y
          have l1 := hd.load k1
          have l2 := hd.load k2
          obtain ⟨P1, P2, s1, s2, hsw⟩ := hd.swap (List.getElem?_eq_some_iff.1 k1).1 (List.getElem?_eq_some_iff.1 k2).1 x y
          rw [swap_two] at hsw
          simp only [hq, List.length_nil, Nat.add_zero] at l1 l2 s1 s2
          have H2 : Hid (SW w0 g rest (A ++ (Ya ++ [y]) ++ x :: (Yb ++ (Y2 ++ B))) ((wr.drew.setRow g P1).setRow g P2)) := by
            show SW _ _ _ _ _
            simpa using hsw
          have HQ : Hid ((Ya ++ [y]) ++ Yb = Y1 ∧ A.length + (Ya ++ [y]).length = k + 1) := ⟨by rw [← HP.out.1]; simp, by have := HP.out.2; simp only [List.length_append, List.length_cons, List.length_nil]; omega⟩
          have j1 : (k : Int) + 1 < n := by omega
          have j2 : (k : Int) < n := by omega
          have j3 : (0 : Int) ≤ (k : Int) + 1 := by omega
          have j4 : ((k : Int) + 1).toNat = k + 1 := by omega
          have j5 : IntKind.i64.wrap ((k : Int) + 1) = (k : Int) + 1 := by rw [IntKind.wrap_i64]; omega
          clear hd hsw k1 k2 hq
          go_wp2_with fail
          go_big_region_o
          all_goals go_wp2
          go_roundw
          case rel => exact ⟨k + 1, Ya ++ [y], Yb, by go_num, HQ, H2⟩
          case measure => simp [intOf]; omega

set_option maxHeartbeats 4000000 in
set_option maxRecDepth 1000000 in
theorem sym_last (w0 : World) (g : Nat) (rest : List Value) (A X : List Rt) (y : Rt) (B : List Rt) (a m b n cap : Nat) (W : World) (h : SW w0 g rest (A ++ X ++ [y] ++ B) W) (ha : A.length = a) (hma : a + X.length = m) (hX : X.length ≠ 1) (hb : m + 1 = b) (hn : (A ++ X ++ [y] ++ B).length = n) (h16 : n ≤ 65536)
    (hs : Srt oR X) (hm : AllMay (X ++ [y])) :
    Calls Try.prog 63 #[.slice (some ⟨g, 0, none⟩) n cap, .int .i64 a, .int .i64 m, .int .i64 b, cmpV] W (SymPost w0 g rest A (X ++ [y]) B) := by
  have hbn : b ≤ n := by rw [← hn]; simp only [List.length_append, List.length_cons, List.length_nil]; omega
  have hnI : (n : Int) ≤ 65536 := by omega
  have hbI : (b : Int) ≤ n := by omega
  have eg := enters_of Try.func39 (by kernel_rfl) rfl
  have mixed : Try.prog.follows .mixedOrders = true := by kernel_rfl
  have hAx : (A ++ X).length = m := by rw [List.length_append]; omega
  have hym : (A ++ X ++ [y] ++ B)[m]? = some y := by
    rw [List.append_assoc, ← hAx]; exact get_first (A ++ X) _ y
  have hmy : mayB y.pre = true := hm y (by simp)
  have hXg : ∀ h, a ≤ h → h < m → ∃ x, X[h - a]? = some x ∧ (A ++ X ++ [y] ++ B)[h]? = some x ∧ mayB x.pre = true := fun h h1 h2 => by
    have hlt : h - a < X.length := by omega
    refine ⟨X[h - a], List.getElem?_eq_getElem hlt, ?_, hm _ (List.mem_append_left _ (List.getElem_mem hlt))⟩
    rw [List.append_assoc (A ++ X), get_mid ha h1 (by omega)]; exact List.getElem?_eq_getElem hlt
  have HXL := Lib.hid (show X.length = m - a by omega)
  have HAM := Lib.hid (show a ≤ m by omega)
  have hmaI : ((m : Int) - (a : Int) == 1) = false := by rw [beq_eq_false_iff_ne]; omega
  have hbmI : ((b : Int) - (m : Int) == 1) = true := by rw [beq_iff_eq]; omega
  have HL := Lib.hid h
  have HA := Lib.hid ha
  have HS := Lib.hid hs
  have HX := Lib.hid hym
  have HMX := Lib.hid hmy
  have HY := Lib.hid hXg
  have HN := Lib.hid hn
  have hmI : (m : Int) ≤ 65536 := by omega
  have hamI : (a : Int) ≤ m := by have := HAM.out; omega
  have hmnI : (m : Int) < n := by omega
  have hmbI : (m : Int) ≤ b := by omega
  obtain ⟨L, eL⟩ : ∃ L, L = A ++ X ++ [y] ++ B := ⟨_, rfl⟩
  rw [← eL] at HL HX HY
  have EL := Lib.hid eL
  clear h ha hs hym hmy hXg hn hma hb hm hAx eL hX
  unfold SymPost cmpV
  go_enter Try.func63, Try.ntmps63
  go_wp2
  go_loopw [14, 15, 16] (fun s t _ wr => ∃ i j : Nat, a ≤ i ∧ i ≤ j ∧ j ≤ m ∧ s = .int .i64 i ∧ t = .int .i64 j ∧ Hid (SW w0 g rest L wr) ∧ Hid (∀ k x, k < i - a → X[k]? = some x → oR x ≤ oR y) ∧ Hid (∀ k x, j - a ≤ k → X[k]? = some x → oR y < oR x)) (fun s t _ _ => (intOf t).toNat - (intOf s).toNat)
  case atStart => exact ⟨a, m, Nat.le_refl _, HAM.out, Nat.le_refl _, rfl, rfl, HL, fun k y h => absurd h (by omega), fun k y h hk => absurd (List.getElem?_eq_some_iff.1 hk).1 (by have := HXL.out; omega)⟩
  case round =>
    obtain ⟨i, j, hai, hij, hjm, rfl, rfl, HW, HI1, HI2⟩ := hrel
    by_cases hlt : i < j
    · have hltI : (i : Int) < j := by omega
      have hjI : (j : Int) ≤ 65536 := by omega
      have hiI : (i : Int) ≤ 65536 := by omega
      obtain ⟨h, hh⟩ : ∃ h, h = (i + j) / 2 := ⟨_, rfl⟩
      have h1 : i ≤ h := by omega
      have h2 : h < j := by omega
      have hw : ((i : Int) + j) / 2 = (h : Int) := by omega
      have hhI : (h : Int) ≤ 65536 := by omega
      obtain ⟨x, hx1, hx2, hmx⟩ := HY.out h (by omega) (by omega)
      have L1 := fun d os => (HW.out.later (below_regrown wr d os)).load hx2
      have L2 := fun d os => (HW.out.later (below_regrown wr d os)).load HX.out
      have C1 := fun d os => Calls.regrown_of (order_any y x (grow (redrawn wr d) os))
      have hneg := ordZ_neg HMX.out hmx
      obtain ⟨zc, hzc⟩ : ∃ zc, zc = ordZ y.pre x.pre := ⟨_, rfl⟩
      rw [← hzc] at C1 hneg
      have HNEG := Lib.hid hneg
      have HX1 := Lib.hid hx1
      have hhn : (h : Int) < n := by omega
      clear hneg hzc hx1 hx2 hmx hh
      by_cases hlv : zc < 0
      · have hlvD : decide (zc < 0) = true := decide_eq_true hlv
        have hlo := HNEG.out.1 hlv
        have HI3 : Hid (∀ k z, h - a ≤ k → X[k]? = some z → oR y < oR z) := fun k z hk hz => by
          have := HS.out.get (i := h - a) (j := k) hk HX1.out hz
          omega
        clear hlv hlo
        go_wp2_with fail
        refine wp_region_quiet_below (by kernel_rfl) (by kernel_rfl) ?_
        repeat (go_big_quiet_step (exact C1 _ _))
        refine wpQuiet_nil fun w3 hw3 => ?_
        have hb3 : Below wr.heap.size wr w3 := by
          obtain ⟨p, rfl⟩ := hw3
          exact below_regrown wr p.d p.os
        have HW3 := Lib.hid (HW.out.later hb3)
        clear hw3 L1 L2 C1 hb3
        go_wp2
        go_roundw
        case rel => exact ⟨i, h, hai, h1, by omega, rfl, rfl, HW3, HI1, HI3⟩
        case measure => simp [intOf]; omega
      · have hlvD : decide (zc < 0) = false := decide_eq_false hlv
        have HI3 : Hid (∀ k z, k < h + 1 - a → X[k]? = some z → oR z ≤ oR y) := fun k z hk hz => by
          have h4 := HS.out.get (i := k) (j := h - a) (by omega) hz HX1.out
          have h5 : oR x ≤ oR y := by
            by_cases h6 : oR y < oR x
            · exact absurd (HNEG.out.2 h6) hlv
            · omega
          omega
        clear hlv
        go_wp2_with fail
        refine wp_region_quiet_below (by kernel_rfl) (by kernel_rfl) ?_
        repeat (go_big_quiet_step (exact C1 _ _))
        refine wpQuiet_nil fun w3 hw3 => ?_
        have hb3 : Below wr.heap.size wr w3 := by
          obtain ⟨p, rfl⟩ := hw3
          exact below_regrown wr p.d p.os
        have HW3 := Lib.hid (HW.out.later hb3)
        clear hw3 L1 L2 C1 hb3
        go_wp2
        go_roundw
        case rel => exact ⟨h + 1, j, by omega, by omega, hjm, by go_num, rfl, HW3, HI3, HI2⟩
        case measure => simp [intOf]; omega
    · obtain rfl : i = j := by omega
      obtain ⟨X1, hX1⟩ : ∃ X1, X1 = X.take (i - a) := ⟨_, rfl⟩
      obtain ⟨X2, hX2⟩ : ∃ X2, X2 = X.drop (i - a) := ⟨_, rfl⟩
      have hXX : X = X1 ++ X2 := by rw [hX1, hX2, List.take_append_drop]
      have hlo : ∀ x ∈ X1, oR x ≤ oR y := fun x hx => by
        obtain ⟨k, hk⟩ := List.mem_iff_getElem?.1 hx
        rw [hX1, List.getElem?_take] at hk
        split at hk
        · exact HI1.out k x ‹_› hk
        · cases hk
      have hhi : ∀ x ∈ X2, oR y < oR x := fun x hx => by
        obtain ⟨k, hk⟩ := List.mem_iff_getElem?.1 hx
        rw [hX2, List.getElem?_drop] at hk
        exact HI2.out (i - a + k) x (by omega) hk
      have hl1 : A.length + X1.length = i := by rw [hX1, List.length_take, HXL.out, HA.out]; omega
      have hl2 : A.length + X1.length + X2.length = m := by rw [hl1, hX2, List.length_drop, HXL.out]; omega
      have HL1 := Lib.hid hl1
      have HL2 := Lib.hid hl2
      have HXX := Lib.hid hXX
      have HLO := Lib.hid hlo
      have HHI := Lib.hid hhi
      have H0 : Hid (SW w0 g rest (A ++ X1 ++ X2 ++ y :: ([] ++ B)) wr) := by
        have := HW.out
        rw [EL.out, HXX.out] at this
        show SW _ _ _ _ _
        simpa using this
      have hiI : (i : Int) ≤ 65536 := by omega
      have himI : (i : Int) ≤ m := by omega
      clear hlo hhi hXX hX1 hX2 hl1 hl2 HI1 HI2 HW
      go_wp2
      go_loopw [17] (fun t wr => ∃ (k : Nat) (Xa Xb : List Rt), t = .int .i64 k ∧ k ≤ m ∧ Hid (Xa ++ Xb = X2 ∧ A.length + X1.length + Xa.length = k) ∧ Hid (SW w0 g rest (A ++ X1 ++ Xa ++ y :: (Xb ++ B)) wr)) (fun t _ => (intOf t).toNat)
      case atStart => exact ⟨m, X2, [], rfl, Nat.le_refl _, ⟨List.append_nil _, HL2.out⟩, H0⟩
      case round =>
        obtain ⟨k, Xa, Xb, rfl, hkm, HP, HW⟩ := hrel
        rcases List.eq_nil_or_concat Xa with rfl | ⟨Xa', z, hXa⟩
        · have hki : ¬ (i : Int) < k := by
            have h1 := HP.out.2
            have h2 := HL1.out
            simp only [List.length_nil, Nat.add_zero] at h1
            omega
          go_wp2
          refine bodyPost_ret (results_none rfl _ _ _) rfl ?_
          have h2 := HP.out.1
          rw [List.nil_append] at h2
          refine ⟨rfl, X1 ++ [y] ++ X2, ?_, ?_, ?_⟩
          · have h1 := HW.out
            rw [h2] at h1
            simpa using h1
          · have hs := HS.out
            rw [HXX.out] at hs
            exact ((hs.left.app (srt_one y) (fun x hx z hz => by simp at hz; subst hz; exact HLO.out x hx)).app hs.right (fun x hx z hz => by
              rcases List.mem_append.1 hx with hx | hx
              · exact hs.across x hx z hz
              · simp at hx; subst hx; exact Nat.le_of_lt (HHI.out z hz)))
          · rw [HXX.out]
            have := Cls.swap_at (o := oR) (p := X1) (u := [y]) (v := X2) (q := []) (fun x hx z hz => by simp at hx; subst hx; exact Nat.ne_of_lt (HHI.out z hz))
            simpa using this
        · rw [List.concat_eq_append] at hXa
          subst hXa
          have hki : i < k := by
            have h1 := HP.out.2
            have h2 := HL1.out
            simp only [List.length_append, List.length_cons, List.length_nil] at h1
            omega
          obtain ⟨kp, rfl⟩ : ∃ kp, k = kp + 1 := ⟨k - 1, by omega⟩
          have hkI : (i : Int) < (kp : Int) + 1 := by omega
          have hq : (A ++ X1 ++ Xa').length = kp := by
            have h1 := HP.out.2
            simp only [List.length_append, List.length_cons, List.length_nil] at h1 ⊢
            omega
          have hd : SW w0 g rest ((A ++ X1 ++ Xa') ++ z :: ([] ++ y :: (Xb ++ B))) wr.drew := by simpa using HW.out.drew
          have k1 := get_first (A ++ X1 ++ Xa') ([] ++ y :: (Xb ++ B)) z
          have k2 := get_second (A ++ X1 ++ Xa') [] (Xb ++ B) z y
          have l1 := hd.load k1
          have l2 := hd.load k2
          obtain ⟨P1, P2, s1, s2, hsw⟩ := hd.swap (List.getElem?_eq_some_iff.1 k2).1 (List.getElem?_eq_some_iff.1 k1).1 y z
          rw [List.set_comm _ _ (by omega), swap_two] at hsw
          simp only [hq, List.length_nil, Nat.add_zero] at l1 l2 s1 s2
          have H2 : Hid (SW w0 g rest (A ++ X1 ++ Xa' ++ y :: ((z :: Xb) ++ B)) ((wr.drew.setRow g P1).setRow g P2)) := by
            show SW _ _ _ _ _
            simpa using hsw
          have HQ : Hid (Xa' ++ (z :: Xb) = X2 ∧ A.length + X1.length + Xa'.length = kp) := ⟨by rw [← HP.out.1]; simp, by simp only [List.length_append] at hq; exact hq⟩
          have j0 : IntKind.i64.wrap (kp : Int) = (kp : Int) := by rw [IntKind.wrap_i64]; omega
          have j1 : (kp : Int) + 1 < n := by omega
          have j2 : (kp : Int) < n := by omega
          have j3 : (0 : Int) ≤ (kp : Int) + 1 := by omega
          have j4 : ((kp : Int) + 1).toNat = kp + 1 := by omega
          have j5 : IntKind.i64.wrap ((kp : Int) + 1) = (kp : Int) + 1 := by rw [IntKind.wrap_i64]; omega
          clear hd hsw k1 k2 hq
          go_wp2_with fail
          go_big_region_o
          all_goals go_wp2
          go_roundw
          case rel => exact ⟨kp, Xa', z :: Xb, by first | rfl | go_num, by omega, HQ, H2⟩
          case measure => simp [intOf]
end Go.Proofs.Ytcpdpcfejpbdpaa
