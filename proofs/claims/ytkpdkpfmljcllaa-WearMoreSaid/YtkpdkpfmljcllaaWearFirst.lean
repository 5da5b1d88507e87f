/- wear.first: by a rule and by orders, whichever they are. -/
import Derived.Test.YtkpdkpfmljcllaaWearCmp
namespace Go.Proofs.Ytkpdkpfmljcllaa.Wear
open Go.RowKit Go.Sort Go.Shelf
attribute [local go_sem ↓] loadVar_wb storeVar_wb loadVar_bl storeVar_bl build_bl

theorem best_none {R : Wb → Bool} {os : List Order} {l : List Wb} {i : Nat} {x : Wb} (hx : l[i]? = some x) (hR : R x = true) (h : bestTo R os l i = none) : bestTo R os l (i + 1) = some i := by
  show (match l[i]? with | none => _ | some b => _) = _
  rw [hx]; dsimp only; rw [if_pos hR, h]
theorem best_skip {R : Wb → Bool} {os : List Order} {l : List Wb} {i : Nat} {x : Wb} (hx : l[i]? = some x) (hR : R x = false) : bestTo R os l (i + 1) = bestTo R os l i := by
  show (match l[i]? with | none => _ | some b => _) = _
  rw [hx]; dsimp only; rw [if_neg (by rw [hR]; decide)]
theorem best_some {R : Wb → Bool} {os : List Order} {l : List Wb} {i k : Nat} {x y : Wb} (hx : l[i]? = some x) (hR : R x = true) (h : bestTo R os l i = some k) (hy : l[k]? = some y) : bestTo R os l (i + 1) = if cmpL os x y < 0 then some i else some k := by
  show (match l[i]? with | none => _ | some b => _) = _
  rw [hx]; dsimp only; rw [if_pos hR, h]; dsimp only
  rw [show l.getD k default = y by rw [List.getD_eq_getElem?_getD, hy]; rfl]

def FirstPost (r : Option Nat) (w : World) (e : Ending) (w' : World) : Prop := e = .returned (.tuple #[.int .i64 (atN r : Nat), .bool r.isSome]) ∧ Below w.heap.size w w'

set_option maxHeartbeats 4000000 in
set_option maxRecDepth 100000 in
theorem first_any (l : List Wb) (v : Value) (p : Int) (g : Nat) (R : Int → Wb → Bool) (fv : Value) (fs : List Nat) (os : List Order) (w : World) (hR : RdW w v l) (hG : RuleOk g R) (hO : RdO w fv fs os) (h0 : 0 < fs.length) :
    Calls Try.prog 17 #[v, .int .i64 p, fnV g, fv] w (FirstPost (firstL (R p) os l p) w) := by
  have C := right_any l v p w hR
  unfold FirstPost firstL fnV
  cases hr : rightB l p with
  | false =>
    rw [hr] at C
    have HC := Lib.hid C
    clear C hr hR hG hO
    go_enter Try.func17, Try.ntmps17
    go_wp2_with fail
    refine HC.out.mono ?_
    rintro e w1 ⟨rfl, hb⟩
    go_wp2
    refine bodyPost_ret (results_tmp2 rfl _ _ _) rfl ?_
    exact ⟨rfl, hb⟩
  | true =>
    rw [hr] at C
    have HC := Lib.hid C
    obtain ⟨hl1, hl2, -⟩ := rightB_iff.1 hr
    obtain ⟨B, o, cap, rfl, hlc, hcm, hcs⟩ := hR.form (by omega)
    have hRd := Lib.hid hR
    obtain ⟨n, hn⟩ : ∃ n, n = l.length := ⟨_, rfl⟩
    have HN := Lib.hid hn
    rw [← hn] at hl1 hl2 hlc HC ⊢
    have HL : Hid (∀ W (i : Nat) x, Below w.heap.size w W → l[i]? = some x → (wbLoad ⟨B, o + i * 4, none⟩).run Try.prog W = .ok (wbV x) W) := fun W i x hb hx =>
      run_wbLoad (fun j u hu => keep_cell (hcs j u hu) hb) hx
    obtain ⟨eg, hg⟩ := hG
    have HG := Lib.hid hg
    have HO := Lib.hid hO
    have H0 := Lib.hid h0
    have hn63 : (n : Int) ≤ 32 := by omega
    rw [if_pos rfl]
    clear C hr hR hcs hn hg hO h0 hlc hcm
    go_enter Try.func17, Try.ntmps17
    go_wp2_with fail
    refine HC.out.mono ?_
    rintro e w1 ⟨rfl, hb⟩
    have HB1 := Lib.hid hb
    clear hb HC
    go_wp2
    go_loopw [21, 10, 11] (fun t u x wr => ∃ i : Nat, i ≤ n ∧ t = .int .i64 i ∧ u = .int .i64 (atN (bestTo (R p) os l i) : Nat) ∧ x = .bool (bestTo (R p) os l i).isSome ∧ Hid (Below w.heap.size w wr)) (fun t _ _ _ => n - (intOf t).toNat)
    case atStart => exact ⟨0, Nat.zero_le _, rfl, rfl, rfl, HB1⟩
    case round =>
      obtain ⟨i, hi, rfl, rfl, rfl, HB⟩ := hrel
      by_cases hlt : i < n
      · have hltI : (i : Int) < n := by omega
        obtain ⟨x, hx⟩ : ∃ x, l[i]? = some x := ⟨l[i]'(by rw [← HN.out]; exact hlt), List.getElem?_eq_getElem _⟩
        have HX := Lib.hid hx
        have L1 := HL.out wr i x HB.out hx
        have S1 := wb_new wr x
        have B1 := box_wb (Box.new 31 wr (wbA x))
        obtain ⟨q, hq⟩ : ∃ q, bestTo (R p) os l i = q := ⟨_, rfl⟩
        have HQ := Lib.hid hq
        rw [hq]
        have D1 := fun W => run_blBuild x p W
        have S2 := bl_new (wr.alloc (.cells (wbA x) 31)) x p
        have B2 := box_bl (Box.new 36 (wr.alloc (.cells (wbA x) 31)) (blA x p))
        obtain ⟨W2, hW2⟩ : ∃ W2, W2 = (wr.alloc (.cells (wbA x) 31)).alloc (.cells (blA x p) 36) := ⟨_, rfl⟩
        rw [← hW2] at S2 B2
        have HB2 : Hid (Below w.heap.size w W2) := by rw [hW2]; exact HB.out.trans ((below2 _ _ _).mono HB.out.size)
        have hs : (wr.alloc (.cells (wbA x) 31)).heap.size = wr.heap.size + 1 := by simp
        have HX2 : Hid (Box 36 W2 (wr.heap.size + 1) (blA x p)) := by
          have := Box.new 36 (wr.alloc (.cells (wbA x) 31)) (blA x p)
          rw [← hW2, hs] at this
          exact this
        have HG1 := Lib.hid (HG.out x p W2)
        rw [hs] at S2 B2
        unfold zw at S1
        unfold zb at S2
        dsimp only [wbV, wbA, blV, blA] at L1 S1 B1 D1 S2 B2 HG1
        clear hx hq hW2 hs
        cases hrx : R p x with
        | false =>
          rw [hrx] at HG1
          have HRX := Lib.hid hrx
          clear hrx
          go_wp2_with (go_at_fn g; refine HG1.out.mono ?_; rintro e w' ⟨rfl, hb'⟩)
          go_roundw
          case rel =>
            have e : bestTo (R p) os l (i + 1) = q := (best_skip HX.out HRX.out).trans HQ.out
            exact ⟨i + 1, by omega, by go_num, by rw [e], by rw [e], HB2.out.trans (hb'.mono HB2.out.size)⟩
          case measure => simp [intOf]; omega
        | true =>
          rw [hrx] at HG1
          have HRX := Lib.hid hrx
          clear hrx
          go_wp2_with (go_at_fn g; refine HG1.out.mono ?_; rintro e w3 ⟨rfl, hb'⟩)
          have HB3 : Hid (Below w.heap.size w w3) := HB2.out.trans (hb'.mono HB2.out.size)
          have HX3 := Lib.hid (HX2.out.later hb')
          clear hb' L1 S1 B1 D1 S2 B2 HG1 HB2 HX2
          cases q with
          | none =>
            refine wp_region_quiet_below (by kernel_rfl) (by kernel_rfl) ?_
            repeat (go_big_quiet_step (fail))
            refine wpQuiet_nil fun w9 hw9 => ?_
            have HB9 : Hid (Below w.heap.size w w9) := by
              obtain ⟨z, rfl⟩ := hw9
              exact HB3.out.trans ((below_regrown w3 z.d z.os).mono HB3.out.size)
            clear hw9
            go_wp2
            go_roundw
            case rel =>
              have e : bestTo (R p) os l (i + 1) = some i := best_none HX.out HRX.out HQ.out
              exact ⟨i + 1, by omega, by go_num, by rw [e]; rfl, by rw [e]; rfl, HB9⟩
            case measure => simp [intOf]; omega
          | some k =>
            obtain ⟨hki, hkl⟩ := bestTo_lt _ _ _ _ _ HQ.out
            have hkn : (k : Int) < n := by omega
            have hk0 : (0 : Int) ≤ k := by omega
            obtain ⟨y, hy⟩ : ∃ y, l[k]? = some y := ⟨l[k], List.getElem?_eq_getElem _⟩
            have hV : ∀ (d : Nat) (os' : Array Obj), Below w.heap.size w (grow (redrawn w3 d) os') := fun d os' => HB3.out.trans ((below_regrown w3 d os').mono HB3.out.size)
            have k1 := fun (d : Nat) (os' : Array Obj) => box_bl (HX3.out.later (below_regrown w3 d os'))
            have k2 := fun (d : Nat) (os' : Array Obj) => HL.out _ k y (hV d os') hy
            have k3 := fun (d : Nat) (os' : Array Obj) => run_blBuild y p (grow (redrawn w3 d) os')
            have CC := fun (d : Nat) (os' : Array Obj) => Calls.regrown_of (compare_any x y p p fv fs os (grow (redrawn w3 d) os') (HO.out.later (hV d os')) H0.out)
            obtain ⟨c, hc⟩ : ∃ c, cmpL os x y = c := ⟨_, rfl⟩
            have HE := Lib.hid ((best_some HX.out HRX.out HQ.out hy).trans (by rw [hc]))
            rw [hc] at CC
            dsimp only [wbV, blV] at k1 k2 k3 CC
            unfold atN
            dsimp only [Option.getD_some, Option.isSome_some]
            clear hy hc hV
            by_cases hcz : c < 0
            · refine wp_region_quiet_below (by kernel_rfl) (by kernel_rfl) ?_
              repeat (go_big_quiet_step ((with_reducible exact CC _ _)))
              refine wpQuiet_nil fun w9 hw9 => ?_
              have HB9 : Hid (Below w.heap.size w w9) := by
                obtain ⟨z, rfl⟩ := hw9
                exact HB3.out.trans ((below_regrown w3 z.d z.os).mono HB3.out.size)
              have e : bestTo (R p) os l (i + 1) = some i := HE.out.trans (if_pos hcz)
              have HE2 := Lib.hid e
              clear hw9 k1 k2 k3 CC e
              go_wp2
              go_roundw
              case rel => exact ⟨i + 1, by omega, by go_num, by rw [HE2.out]; rfl, by rw [HE2.out]; rfl, HB9⟩
              case measure => simp [intOf]; omega
            · refine wp_region_quiet_below (by kernel_rfl) (by kernel_rfl) ?_
              repeat (go_big_quiet_step ((with_reducible exact CC _ _)))
              refine wpQuiet_nil fun w9 hw9 => ?_
              have HB9 : Hid (Below w.heap.size w w9) := by
                obtain ⟨z, rfl⟩ := hw9
                exact HB3.out.trans ((below_regrown w3 z.d z.os).mono HB3.out.size)
              have e : bestTo (R p) os l (i + 1) = some k := HE.out.trans (if_neg hcz)
              have HE2 := Lib.hid e
              clear hw9 k1 k2 k3 CC e
              go_wp2
              go_roundw
              case rel => exact ⟨i + 1, by omega, by go_num, by rw [HE2.out]; rfl, by rw [HE2.out]; rfl, HB9⟩
              case measure => simp [intOf]; omega
      · obtain rfl : i = n := by omega
        go_wp2
        refine bodyPost_ret (results_tmp2 rfl _ _ _) rfl ?_
        exact ⟨by rw [HN.out]; rfl, HB.out⟩
end Go.Proofs.Ytkpdkpfmljcllaa.Wear
