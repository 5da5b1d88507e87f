/- wear.Front, Dead, Victim, and Room: what each hands back. -/
import Derived.Test.YtkpdkpfmljcllaaWearFirst
namespace Go.Proofs.Ytkpdkpfmljcllaa.Wear
open Go.RowKit Go.Sort Go.Shelf
attribute [local go_sem ↓] loadVar_wb storeVar_wb loadVar_bl storeVar_bl build_bl

theorem free_ok : RuleOk 18 freeB := ⟨enters_of Try.func18 (by kernel_rfl) rfl, fun b p w => free_any b p w⟩
theorem dead_ok : RuleOk 21 (fun _ => deadB) := ⟨enters_of Try.func21 (by kernel_rfl) rfl, fun b p w => dead_any b p w⟩
theorem mixed_ok : RuleOk 22 mixedB := ⟨enters_of Try.func22 (by kernel_rfl) rfl, fun b p w => mixed_any b p w⟩
theorem moreUsed_ok : OrdOk 19 moreUsed := ⟨enters_of Try.func19 (by kernel_rfl) rfl, moreUsed_any⟩
theorem lessWorn_ok : OrdOk 20 lessWorn := ⟨enters_of Try.func20 (by kernel_rfl) rfl, lessWorn_any⟩
theorem lessLive_ok : OrdOk 24 lessLive := ⟨enters_of Try.func24 (by kernel_rfl) rfl, lessLive_any⟩
theorem badAhead_ok : OrdOk 23 badAhead := ⟨enters_of Try.func23 (by kernel_rfl) rfl, badAhead_any⟩

theorem rdRow_new (w : World) (us : List Value) (t : TypeId) (h : us.length ≤ 100) : RdRow (w.alloc (.cells us.toArray t)) (.slice (some ⟨w.heap.size, 0, none⟩) us.length us.length) us.length us :=
  ⟨some ⟨w.heap.size, 0, none⟩, us.length, rfl, Nat.le_refl _, by unfold maxLen; omega, (fun h => by cases h), fun ad ha j u hu => by
    cases ha
    rw [add_here, Nat.zero_add, World.cell?_alloc_at _ _ _ _ rfl]
    simpa using hu⟩

def frontL (l : List Wb) (p : Int) : Option Nat := firstL (freeB p) [moreUsed, lessWorn] l p
def deadL (l : List Wb) (p : Int) : Option Nat := firstL deadB [lessWorn] l p
def victimL (l : List Wb) (p : Int) : Option Nat := firstL (mixedB p) [badAhead, lessLive, lessWorn] l p

set_option maxHeartbeats 1000000 in
theorem front_any (l : List Wb) (v : Value) (p : Int) (w : World) (hR : RdW w v l) : Calls Try.prog 7 #[v, .int .i64 p] w (FirstPost (frontL l p) w) := by
  have HB := below1 w (.cells #[fnV 19, fnV 20] 37)
  have C := first_any l v p 18 freeB (.slice (some ⟨w.heap.size, 0, none⟩) 2 2) [19, 20] [moreUsed, lessWorn] (w.alloc (.cells #[fnV 19, fnV 20] 37)) (hR.later HB) free_ok
    ⟨rdRow_new w [fnV 19, fnV 20] _ (by decide), rfl, fun i g o hg ho => by
      match i, hg, ho with
      | 0, hg, ho => cases hg; cases ho; exact moreUsed_ok
      | 1, hg, ho => cases hg; cases ho; exact lessWorn_ok
      | i + 2, hg, ho => simp at hg⟩ (by decide)
  have HC : Hid (Calls Try.prog 17 _ _ (FirstPost (frontL l p) _)) := C
  unfold fnV at HC HB
  clear C hR
  unfold FirstPost at *
  go_enter Try.func7, Try.ntmps7
  go_wp2_with fail
  refine HC.out.mono ?_
  rintro e w1 ⟨rfl, hb⟩
  go_wp2
  go_ret2
  exact ⟨rfl, HB.trans (hb.mono (by simp))⟩
set_option maxHeartbeats 1000000 in
theorem deadP_any (l : List Wb) (v : Value) (p : Int) (w : World) (hR : RdW w v l) : Calls Try.prog 8 #[v, .int .i64 p] w (FirstPost (deadL l p) w) := by
  have HB := below1 w (.cells #[fnV 20] 37)
  have C := first_any l v p 21 (fun _ => deadB) (.slice (some ⟨w.heap.size, 0, none⟩) 1 1) [20] [lessWorn] (w.alloc (.cells #[fnV 20] 37)) (hR.later HB) dead_ok
    ⟨rdRow_new w [fnV 20] _ (by decide), rfl, fun i g o hg ho => by
      match i, hg, ho with
      | 0, hg, ho => cases hg; cases ho; exact lessWorn_ok
      | i + 1, hg, ho => simp at hg⟩ (by decide)
  have HC : Hid (Calls Try.prog 17 _ _ (FirstPost (deadL l p) _)) := C
  unfold fnV at HC HB
  clear C hR
  unfold FirstPost at *
  go_enter Try.func8, Try.ntmps8
  go_wp2_with fail
  refine HC.out.mono ?_
  rintro e w1 ⟨rfl, hb⟩
  go_wp2
  go_ret2
  exact ⟨rfl, HB.trans (hb.mono (by simp))⟩
set_option maxHeartbeats 1000000 in
theorem victim_any (l : List Wb) (v : Value) (p : Int) (w : World) (hR : RdW w v l) : Calls Try.prog 9 #[v, .int .i64 p] w (FirstPost (victimL l p) w) := by
  have HB := below1 w (.cells #[fnV 23, fnV 24, fnV 20] 37)
  have C := first_any l v p 22 mixedB (.slice (some ⟨w.heap.size, 0, none⟩) 3 3) [23, 24, 20] [badAhead, lessLive, lessWorn] (w.alloc (.cells #[fnV 23, fnV 24, fnV 20] 37)) (hR.later HB) mixed_ok
    ⟨rdRow_new w [fnV 23, fnV 24, fnV 20] _ (by decide), rfl, fun i g o hg ho => by
      match i, hg, ho with
      | 0, hg, ho => cases hg; cases ho; exact badAhead_ok
      | 1, hg, ho => cases hg; cases ho; exact lessLive_ok
      | 2, hg, ho => cases hg; cases ho; exact lessWorn_ok
      | i + 3, hg, ho => simp at hg⟩ (by decide)
  have HC : Hid (Calls Try.prog 17 _ _ (FirstPost (victimL l p) _)) := C
  unfold fnV at HC HB
  clear C hR
  unfold FirstPost at *
  go_enter Try.func9, Try.ntmps9
  go_wp2_with fail
  refine HC.out.mono ?_
  rintro e w1 ⟨rfl, hb⟩
  go_wp2
  go_ret2
  exact ⟨rfl, HB.trans (hb.mono (by simp))⟩

set_option maxHeartbeats 2000000 in
set_option maxRecDepth 100000 in
theorem room_any (l : List Wb) (v : Value) (p : Int) (w : World) (hR : RdW w v l) : Calls Try.prog 13 #[v, .int .i64 p] w fun e w' => e = .returned (.int .i64 (roomL l p)) ∧ Below w.heap.size w w' := by
  have C := right_any l v p w hR
  unfold roomL
  cases hr : rightB l p with
  | false =>
    rw [hr] at C
    have HC := Lib.hid C
    clear C hr hR
    go_enter Try.func13, Try.ntmps13
    go_wp2_with fail
    refine HC.out.mono ?_
    rintro e w1 ⟨rfl, hb⟩
    go_wp2
    go_ret
    exact ⟨rfl, hb⟩
  | true =>
    rw [hr] at C
    have HC := Lib.hid C
    obtain ⟨hl1, hl2, hp1, hp2, hall⟩ := rightB_iff.1 hr
    obtain ⟨B, o, cap, rfl, hlc, hcm, hcs⟩ := hR.form (by omega)
    obtain ⟨n, hn⟩ : ∃ n, n = l.length := ⟨_, rfl⟩
    have HN := Lib.hid hn
    have HA := Lib.hid hall
    have HBD : Hid (∀ i : Nat, i ≤ n → 0 ≤ roomTo p l i ∧ roomTo p l i ≤ 512) := fun i hi => by
      obtain ⟨h1, h2⟩ := roomTo_bound (p := p) (by omega) hall i (by omega)
      have h3 : p * (i : Int) ≤ 16 * i := Int.mul_le_mul_of_nonneg_right hp2 (by omega)
      omega
    rw [← hn] at hl1 hl2 hlc HC ⊢
    have HL : Hid (∀ W (i : Nat) x, Below w.heap.size w W → l[i]? = some x → (wbLoad ⟨B, o + i * 4, none⟩).run Try.prog W = .ok (wbV x) W) := fun W i x hb hx =>
      run_wbLoad (fun j u hu => keep_cell (hcs j u hu) hb) hx
    have hn63 : (n : Int) ≤ 32 := by omega
    rw [if_pos rfl]
    clear C hr hR hcs hn hlc hcm hall
    go_enter Try.func13, Try.ntmps13
    go_wp2_with fail
    refine HC.out.mono ?_
    rintro e w1 ⟨rfl, hb⟩
    have HB1 := Lib.hid hb
    clear hb HC
    go_wp2
    go_loopw [14, 5] (fun t u wr => ∃ i : Nat, i ≤ n ∧ t = .int .i64 i ∧ u = .int .i64 (roomTo p l i) ∧ Hid (Below w.heap.size w wr)) (fun t _ _ => n - (intOf t).toNat)
    case atStart => exact ⟨0, Nat.zero_le _, rfl, rfl, HB1⟩
    case round =>
      obtain ⟨i, hi, rfl, rfl, HB⟩ := hrel
      by_cases hlt : i < n
      · have hltI : (i : Int) < n := by omega
        obtain ⟨x, hx⟩ : ∃ x, l[i]? = some x := ⟨l[i]'(by rw [← HN.out]; exact hlt), List.getElem?_eq_getElem _⟩
        have L1 := HL.out wr i x HB.out hx
        have S1 := wb_new wr x
        have B1 := box_wb (Box.new 31 wr (wbA x))
        have D1 := fun W => run_blBuild x p W
        have hW := HB.out.trans ((below1 wr (.cells (wbA x) 31)).mono HB.out.size)
        have HB2 := Lib.hid hW
        have HG1 := Lib.hid (roomE_any x p (wr.alloc (.cells (wbA x) 31)) hp2 (HA.out x (List.mem_of_getElem? hx)))
        obtain ⟨y0, y1⟩ := HBD.out (i + 1) hlt
        have HS := Lib.hid (roomTo_next (p := p) hx)
        obtain ⟨z, hz⟩ : ∃ z, roomE p x = z := ⟨_, rfl⟩
        obtain ⟨s, hs⟩ : ∃ s, roomTo p l i = s := ⟨_, rfl⟩
        rw [hz] at HG1
        rw [HS.out, hz, hs] at y0 y1
        rw [hz, hs] at HS
        rw [hs]
        have hwz : wrap64 (s + z) = s + z := by unfold wrap64; omega
        unfold zw at S1
        dsimp only [wbV, wbA, blV] at L1 S1 B1 D1 HG1
        clear hx hW hz hs y0 y1
        go_wp2_with (go_at_call 30; refine HG1.out.mono ?_; rintro e w' ⟨rfl, hb'⟩)
        go_roundw
        case rel => exact ⟨i + 1, by omega, by go_num, by rw [HS.out, hwz], HB2.out.trans (hb'.mono HB2.out.size)⟩
        case measure => simp [intOf]; omega
      · obtain rfl : i = n := by omega
        go_wp2
        go_ret
        exact ⟨rfl, HB.out⟩
end Go.Proofs.Ytkpdkpfmljcllaa.Wear
