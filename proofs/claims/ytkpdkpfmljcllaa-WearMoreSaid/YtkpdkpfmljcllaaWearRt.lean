/- wear.Right, by slices.ContainsFunc and its closure: what each hands back. -/
import Derived.Test.YtkpdkpfmljcllaaWearSmall
namespace Go.Proofs.Ytkpdkpfmljcllaa.Wear
open Go.RowKit Go.Sort Go.Shelf
attribute [local go_sem ↓] loadVar_wb storeVar_wb loadVar_bl storeVar_bl build_bl

def idxOf {α : Type} (Pr : α → Bool) (l : List α) : Int := match l.findIdx? Pr with | some i => (i : Int) | none => -1
def Clear {α : Type} (Pr : α → Bool) (l : List α) (i : Nat) : Prop := ∀ (j : Nat) b, j < i → l[j]? = some b → Pr b = false
theorem Clear.zero {α : Type} (Pr : α → Bool) (l : List α) : Clear Pr l 0 := fun _ _ h => absurd h (Nat.not_lt_zero _)
theorem Clear.next {α : Type} {Pr : α → Bool} {l : List α} {i : Nat} {b : α} (h : Clear Pr l i) (hb : l[i]? = some b) (hp : Pr b = false) : Clear Pr l (i + 1) := fun j c hj hc => by
  by_cases e : j = i
  · subst e; rw [hb] at hc; cases hc; exact hp
  · exact h j c (by omega) hc
theorem idx_none {α : Type} {Pr : α → Bool} {l : List α} (h : Clear Pr l l.length) : idxOf Pr l = -1 ∧ l.any Pr = false := by
  have h1 : ∀ x ∈ l, Pr x = false := fun x hx => by
    obtain ⟨i, hi, rfl⟩ := List.mem_iff_getElem.1 hx
    exact h i _ hi (List.getElem?_eq_getElem hi)
  refine ⟨?_, by rw [List.any_eq_false]; intro x hx; rw [h1 x hx]; decide⟩
  unfold idxOf
  rw [List.findIdx?_eq_none_iff.2 h1]
theorem idx_some {α : Type} {Pr : α → Bool} {l : List α} {i : Nat} {b : α} (h : Clear Pr l i) (hb : l[i]? = some b) (hp : Pr b = true) : idxOf Pr l = i ∧ l.any Pr = true := by
  have hi := (List.getElem?_eq_some_iff.1 hb).1
  refine ⟨?_, by rw [List.any_eq_true]; exact ⟨b, List.mem_iff_getElem?.2 ⟨i, hb⟩, hp⟩⟩
  unfold idxOf
  have : l.findIdx? Pr = some i := by
    rw [List.findIdx?_eq_some_iff_getElem]
    refine ⟨hi, by rw [(List.getElem?_eq_some_iff.1 hb).2]; exact hp, fun j hj => ?_⟩
    rw [h j _ hj (List.getElem?_eq_getElem (by omega))]; decide
  rw [this]
theorem idx_ge {α : Type} (Pr : α → Bool) (l : List α) : (l.any Pr = true → 0 ≤ idxOf Pr l) ∧ (l.any Pr = false → idxOf Pr l = -1) := by
  constructor
  · intro h
    unfold idxOf
    rw [List.any_eq_true] at h
    cases hf : l.findIdx? Pr with
    | none => rw [List.findIdx?_eq_none_iff] at hf; obtain ⟨x, h1, h2⟩ := h; rw [hf x h1] at h2; cases h2
    | some i => simp
  · intro h
    unfold idxOf
    rw [List.any_eq_false] at h
    rw [List.findIdx?_eq_none_iff.2 fun x hx => by simpa using h x hx]

def IdxPost {α : Type} (Pr : α → Bool) (l : List α) (w : World) (e : Ending) (w' : World) : Prop := e = .returned (.int .i64 (idxOf Pr l)) ∧ Below w.heap.size w w'
theorem IdxPost_eq {α : Type} (Pr : α → Bool) (l : List α) (w : World) : IdxPost Pr l w = fun e w' => e = .returned (.int .i64 (idxOf Pr l)) ∧ Below w.heap.size w w' := rfl

set_option maxHeartbeats 1000000 in
set_option maxRecDepth 100000 in
theorem idxW_any (l : List Wb) (v : Value) (g : Nat) (cb : Array Value) (Pr : Wb → Bool) (w : World) (hR : RdW w v l) (eg : ∀ args w, (callFunc g args).run Try.prog w = .ok (.enter g args) w)
    (hC : ∀ (i : Nat) r W, l[i]? = some r → Below w.heap.size w W → Calls Try.prog g (#[wbV r] ++ cb) W fun e w' => e = .returned (.bool (Pr r)) ∧ Below W.heap.size W w') :
    Calls Try.prog 35 #[v, .func (.func g) #[] cb] w (IdxPost Pr l w) := by
  have HC := Lib.hid hC
  obtain ⟨n, hn⟩ : ∃ n, n = l.length := ⟨_, rfl⟩
  have HN := Lib.hid hn
  have HR : Hid (∀ W, Below w.heap.size w W → RdW W v l) := fun W h => hR.later h
  by_cases h0 : n = 0
  · obtain ⟨a, cap, hv, -, -⟩ : ∃ a cap, v = .slice a l.length cap ∧ l.length ≤ cap ∧ cap ≤ maxLen := by exact hR.len
    rw [← hn, h0] at hv
    subst hv
    have hE : idxOf Pr l = -1 := (idx_none (fun j _ hj => absurd hj (by omega))).1
    unfold IdxPost
    rw [hE]
    clear hC hR hn h0 hE
    go_enter Try.func35, Try.ntmps35
    go_wp2
    go_loop [5, 8] (fun _ t => t = .int .i64 0) (fun _ _ => 0)
    case atStart => exact rfl
    case round =>
      subst hrel
      go_wp2
      go_ret
      exact ⟨rfl, Below.refl _ _⟩
  · have hpos : 0 < l.length := by omega
    obtain ⟨r0, hr0⟩ : ∃ r, l[0]? = some r := ⟨l[0], List.getElem?_eq_getElem hpos⟩
    obtain ⟨b, o, cap, rfl, hlc, hcm, hcs⟩ := hR.form hpos
    rw [← hn] at hlc
    unfold maxLen at hcm
    have hn63 : (n : Int) ≤ 9223372036854775807 := by omega
    have HL : Hid (∀ W i r, Below w.heap.size w W → l[i]? = some r → (wbLoad ⟨b, o + i * 4, none⟩).run Try.prog W = .ok (wbV r) W) := fun W i r hb hr => by
      exact run_wbLoad (fun j u hu => by have := hcs j u hu; rw [hb.cell (World.block_lt_of_cell? _ _ this)]; exact this) hr
    rw [← hn]
    unfold IdxPost
    clear hC hR hn hlc hcm hr0 hcs
    go_enter Try.func35, Try.ntmps35
    go_wp2
    go_loopw [5, 8] (fun _ t wr => ∃ i : Nat, i ≤ n ∧ t = .int .i64 i ∧ Hid (Clear Pr l i) ∧ Below w.heap.size w wr) (fun _ t _ => n - (intOf t).toNat)
    case atStart => exact ⟨0, Nat.zero_le _, rfl, Clear.zero _ _, Below.refl _ _⟩
    case round =>
      obtain ⟨i, hi, rfl, HF, hB⟩ := hrel
      by_cases hlt : i < n
      · have hltI : (i : Int) < n := by omega
        obtain ⟨r, hr⟩ : ∃ r, l[i]? = some r := ⟨l[i]'(by rw [← HN.out]; exact hlt), List.getElem?_eq_getElem _⟩
        have hx := HL.out wr i r hB hr
        have hc := HC.out i r wr hr hB
        have hld := hx
        have HB := Lib.hid hr
        clear hr hx
        cases hp : Pr r with
        | true =>
          rw [hp] at hc
          have HP := Lib.hid hp
          clear hp
          have HD := Lib.hid hc
          clear hc
          go_wp2_with (go_at_fn g; refine HD.out.mono ?_; rintro e w' ⟨rfl, hi'⟩)
          go_ret
          exact ⟨by rw [(idx_some HF.out HB.out HP.out).1]; rfl, hB.trans (hi'.mono hB.size)⟩
        | false =>
          rw [hp] at hc
          have HP := Lib.hid hp
          clear hp
          have HD := Lib.hid hc
          clear hc
          go_wp2_with (go_at_fn g; refine HD.out.mono ?_; rintro e w' ⟨rfl, hi'⟩)
          go_roundw
          case rel => exact ⟨i + 1, by omega, by go_num, HF.out.next HB.out HP.out, hB.trans (hi'.mono hB.size)⟩
          case measure => simp [intOf]; omega
      · obtain rfl : i = n := by omega
        go_wp2
        go_ret
        exact ⟨by rw [(idx_none (by rw [← HN.out]; exact HF.out)).1]; rfl, hB⟩

theorem hasW_any (l : List Wb) (v : Value) (g : Nat) (cb : Array Value) (Pr : Wb → Bool) (w : World) (hR : RdW w v l) (eg : ∀ args w, (callFunc g args).run Try.prog w = .ok (.enter g args) w)
    (hC : ∀ (i : Nat) r W, l[i]? = some r → Below w.heap.size w W → Calls Try.prog g (#[wbV r] ++ cb) W fun e w' => e = .returned (.bool (Pr r)) ∧ Below W.heap.size W w') :
    Calls Try.prog 27 #[v, .func (.func g) #[] cb] w fun e w' => e = .returned (.bool (l.any Pr)) ∧ Below w.heap.size w w' := by
  have C := idxW_any l v g cb Pr w hR eg hC
  obtain ⟨h1, h2⟩ := idx_ge Pr l
  clear hC hR eg
  cases ha : l.any Pr with
  | true =>
    have hd : 0 ≤ idxOf Pr l := h1 ha
    have HC := Lib.hid C
    clear C h1 h2 ha
    obtain ⟨z, hz⟩ : ∃ z, z = idxOf Pr l := ⟨_, rfl⟩
    unfold IdxPost at HC
    rw [← hz] at HC hd
    clear hz
    go_enter Try.func27, Try.ntmps27
    go_wp2_with (with_reducible refine HC.out.mono ?_; rintro e w' ⟨rfl, hb⟩)
    go_ret
    exact ⟨rfl, hb⟩
  | false =>
    rw [IdxPost_eq, h2 ha] at C
    have HC := Lib.hid C
    clear C h1 h2 ha
    go_enter Try.func27, Try.ntmps27
    go_wp2_with (with_reducible refine HC.out.mono ?_; rintro e w' ⟨rfl, hb⟩)
    go_ret
    exact ⟨rfl, hb⟩


set_option maxHeartbeats 1000000 in
theorem right1_any (b : Wb) (p : Int) (B : Nat) (w : World) (h0 : w.cell? ⟨B, 0, none⟩ = some (.int .i64 p)) :
    Calls Try.prog 28 #[wbV b, .pointer (some ⟨B, 0, none⟩)] w fun e w' => e = .returned (.bool (wrongE p b)) ∧ Below w.heap.size w w' := by
  have C := rightE_any b p (w.alloc (.cells (wbA b) 31))
  have HC := Lib.hid C
  have HB := below1 w (.cells (wbA b) 31)
  have hlt := World.block_lt_of_cell? _ _ h0
  simp only at hlt
  have hld := box_wb (Box.new 31 w (wbA b))
  have hbd := fun w => run_blBuild b p w
  unfold wrongE
  unfold wbV wbA blV at *
  clear C
  go_enter Try.func28, Try.ntmps28
  go_wp2_with (go_at_call 29; refine HC.out.mono ?_; rintro e w' ⟨rfl, hb⟩)
  go_ret
  exact ⟨rfl, HB.trans (hb.mono (by simp))⟩

set_option maxHeartbeats 1000000 in
set_option maxRecDepth 100000 in
theorem right_any (l : List Wb) (v : Value) (p : Int) (w : World) (hR : RdW w v l) :
    Calls Try.prog 11 #[v, .int .i64 p] w fun e w' => e = .returned (.bool (rightB l p)) ∧ Below w.heap.size w w' := by
  have HB := below1 w (.cells #[.int .i64 p] 3)
  have C := hasW_any l v 28 #[.pointer (some ⟨w.heap.size, 0, none⟩)] (wrongE p) (w.alloc (.cells #[.int .i64 p] 3)) (hR.later HB)
    (enters_of Try.func28 (by kernel_rfl) rfl) (fun i r W hr hB => right1_any r p _ W (keep_cell (World.cell?_alloc_at _ _ _ _ rfl) hB))
  obtain ⟨a, cap, hv, -, -⟩ := hR.len
  unfold rightB
  obtain ⟨z, hz⟩ : ∃ z, z = l.any (wrongE p) := ⟨_, rfl⟩
  rw [← hz] at C ⊢
  obtain ⟨n, hn⟩ : ∃ n, n = l.length := ⟨_, rfl⟩
  rw [← hn] at hv ⊢
  subst hv
  have HC := Lib.hid C
  clear C hR hn hz
  by_cases h1 : 1 ≤ n
  · by_cases h2 : n ≤ 32
    · by_cases h3 : 1 ≤ p
      · by_cases h4 : p ≤ 16
        · rw [decide_eq_true h1, decide_eq_true h2, decide_eq_true h3, decide_eq_true h4]
          go_enter Try.func11, Try.ntmps11
          go_wp2_with (go_at_call 27; refine HC.out.mono ?_; rintro e w' ⟨rfl, hb⟩)
          go_ret
          exact ⟨rfl, HB.trans (hb.mono (by simp))⟩
        · rw [decide_eq_false h4, Bool.and_false, Bool.false_and]
          go_enter Try.func11, Try.ntmps11
          go_wp2
          go_ret
          exact ⟨rfl, HB⟩
      · rw [decide_eq_false h3, Bool.and_false, Bool.false_and, Bool.false_and]
        go_enter Try.func11, Try.ntmps11
        go_wp2
        go_ret
        exact ⟨rfl, HB⟩
    · rw [decide_eq_false h2, Bool.and_false, Bool.false_and, Bool.false_and, Bool.false_and]
      go_enter Try.func11, Try.ntmps11
      go_wp2
      go_ret
      exact ⟨rfl, HB⟩
  · rw [decide_eq_false h1, Bool.false_and, Bool.false_and, Bool.false_and, Bool.false_and]
    go_enter Try.func11, Try.ntmps11
    go_wp2
    go_ret
    exact ⟨rfl, HB⟩
end Go.Proofs.Ytkpdkpfmljcllaa.Wear
