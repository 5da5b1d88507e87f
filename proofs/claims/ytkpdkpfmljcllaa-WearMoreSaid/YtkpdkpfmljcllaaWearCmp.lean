/- wear.compare: by the first order in which the blocks aren't alike, whatever the orders. -/
import Derived.Test.YtkpdkpfmljcllaaWearRt
import Derived.Deep.CutRange
namespace Go.Proofs.Ytkpdkpfmljcllaa.Wear
open Go.RowKit Go.Sort Go.Shelf
attribute [local go_sem ↓] loadVar_wb storeVar_wb loadVar_bl storeVar_bl build_bl

/-- A function that tells an order; a rule. -/
def OrdOk (g : Nat) (o : Order) : Prop := (∀ args w, (callFunc g args).run Try.prog w = .ok (.enter g args) w) ∧ ∀ (a b : Wb) (p q : Int) (w : World), Calls Try.prog g #[blV a p, blV b q] w fun e w' => e = .returned (.int .i64 (o a b)) ∧ Below w.heap.size w w'
def RuleOk (g : Nat) (R : Int → Wb → Bool) : Prop := (∀ args w, (callFunc g args).run Try.prog w = .ok (.enter g args) w) ∧ ∀ (b : Wb) (p : Int) (w : World), Calls Try.prog g #[blV b p] w fun e w' => e = .returned (.bool (R p b)) ∧ Below w.heap.size w w'
def fnV (g : Nat) : Value := .func (.func g) #[] #[]
/-- A row of functions that tell these orders. -/
structure RdO (w : World) (v : Value) (fs : List Nat) (os : List Order) : Prop where
  row : RdRow w v fs.length (fs.map fnV)
  len : fs.length = os.length
  ok : ∀ (i g : Nat) (o : Order), fs[i]? = some g → os[i]? = some o → OrdOk g o
theorem RdO.later {w w' : World} {v : Value} {fs : List Nat} {os : List Order} (h : RdO w v fs os) (hb : Below w.heap.size w w') : RdO w' v fs os := ⟨h.row.later hb, h.len, h.ok⟩

theorem cmpL_drop {os : List Order} {k : Nat} {o : Order} (h : os[k]? = some o) (a b : Wb) : cmpL (os.drop k) a b = if o a b = 0 then cmpL (os.drop (k + 1)) a b else o a b := by
  have hk := (List.getElem?_eq_some_iff.1 h)
  rw [List.drop_eq_getElem_cons hk.1, hk.2]
  rfl

set_option maxHeartbeats 2000000 in
set_option maxRecDepth 100000 in
theorem compare_any (a b : Wb) (p q : Int) (v : Value) (fs : List Nat) (os : List Order) (w : World) (hR : RdO w v fs os) (h0 : 0 < fs.length) :
    Calls Try.prog 33 #[blV a p, blV b q, v] w fun e w' => e = .returned (.int .i64 (cmpL os a b)) ∧ Below w.heap.size w w' := by
  obtain ⟨g0, hg0⟩ : ∃ g, fs[0]? = some g := ⟨fs[0], List.getElem?_eq_getElem h0⟩
  obtain ⟨B, o, cap, rfl, hlc, hcm, hcs⟩ := hR.row.form (x := fnV g0) h0 (by rw [List.getElem?_map, hg0]; rfl)
  obtain ⟨n, hn⟩ : ∃ n, n = fs.length := ⟨_, rfl⟩
  have HN : Hid (fs.length = n ∧ os.length = n) := ⟨hn.symm, by rw [← hR.len]; exact hn.symm⟩
  rw [← hn] at hlc ⊢
  unfold maxLen at hcm
  have hn63 : (n : Int) ≤ 9223372036854775807 := by omega
  obtain ⟨W, hW⟩ : ∃ W, W = (w.alloc (.cells (blA a p) 36)).alloc (.cells (blA b q) 36) := ⟨_, rfl⟩
  have HB : Hid (Below w.heap.size w W) := by rw [hW]; exact below2 w _ _
  have HL : Hid (∀ W', Below W.heap.size W W' → (blLoad ⟨w.heap.size, 0, none⟩).run Try.prog W' = .ok (blV a p) W' ∧ (blLoad ⟨w.heap.size + 1, 0, none⟩).run Try.prog W' = .ok (blV b q) W') := fun W' hb => by
    have b1 : Box 36 W w.heap.size (blA a p) := by rw [hW]; exact (Box.new 36 w _).later (below1 _ _)
    have b2 : Box 36 W (w.heap.size + 1) (blA b q) := by rw [hW]; have := Box.new 36 (w.alloc (.cells (blA a p) 36)) (blA b q); simpa using this
    exact ⟨box_bl (b1.later hb), box_bl (b2.later hb)⟩
  have HF : Hid (∀ W' (i g : Nat), Below W.heap.size W W' → fs[i]? = some g → W'.cell? ⟨B, o + i, none⟩ = some (.func (.func g) #[] #[])) := fun W' i g hb hg => by
    have h1 := hcs i (fnV g) (by rw [List.getElem?_map, hg]; rfl)
    have h2 := keep_cell h1 HB.out
    exact keep_cell h2 hb
  have HO := Lib.hid hR.ok
  clear hcs hR hg0 hn
  unfold blV blA at *
  go_enter Try.func33, Try.ntmps33
  go_upto_region 1 with fail
  rw [← hW]
  clear hW
  go_wp2
  go_loopw [12, 15, 8, 9] (fun t _ _ _ wr => ∃ i : Nat, i ≤ n ∧ t = .int .i64 i ∧ Hid (cmpL os a b = cmpL (os.drop i) a b) ∧ Below W.heap.size W wr) (fun t _ _ _ _ => n - (intOf t).toNat)
  case atStart => exact ⟨0, Nat.zero_le _, rfl, rfl, Below.refl _ _⟩
  case round =>
    obtain ⟨i, hi, rfl, HC, hB⟩ := hrel
    by_cases hlt : i < n
    · have hltI : (i : Int) < n := by omega
      obtain ⟨g, hg⟩ : ∃ g, fs[i]? = some g := ⟨fs[i]'(by rw [HN.out.1]; exact hlt), List.getElem?_eq_getElem _⟩
      obtain ⟨od, ho⟩ : ∃ od, os[i]? = some od := ⟨os[i]'(by rw [HN.out.2]; exact hlt), List.getElem?_eq_getElem _⟩
      obtain ⟨eg, hc⟩ := HO.out i g od hg ho
      have hcell := HF.out wr i g hB hg
      obtain ⟨l1, l2⟩ := HL.out wr hB
      have HD := Lib.hid (cmpL_drop ho a b)
      have HQ := Lib.hid (hc a b p q wr)
      unfold blV at HQ
      obtain ⟨z, hz⟩ : ∃ z, od a b = z := ⟨_, rfl⟩
      rw [hz] at HQ HD
      clear hg ho hc hz
      by_cases h0 : z = 0
      · subst h0
        go_wp2_with (go_at_fn g; refine HQ.out.mono ?_; rintro e w' ⟨rfl, hb'⟩)
        go_roundw
        case rel => exact ⟨i + 1, by omega, by go_num, by show _ = _; rw [HC.out, HD.out]; exact if_pos trivial, hB.trans (hb'.mono hB.size)⟩
        case measure => simp [intOf]; omega
      · have hz : (z != 0) = true := by simpa using h0
        have HZ := Lib.hid h0
        go_wp2_with (go_at_fn g; refine HQ.out.mono ?_; rintro e w' ⟨rfl, hb'⟩)
        go_ret
        exact ⟨ret_int (by rw [HC.out, HD.out, if_neg HZ.out]), HB.out.trans ((hB.trans (hb'.mono hB.size)).mono HB.out.size)⟩
    · obtain rfl : i = n := by omega
      go_wp2
      go_ret
      exact ⟨ret_int (by rw [HC.out, List.drop_of_length_le (by rw [HN.out.2]; exact Nat.le_refl _)]; rfl), HB.out.trans (hB.mono HB.out.size)⟩
end Go.Proofs.Ytkpdkpfmljcllaa.Wear
