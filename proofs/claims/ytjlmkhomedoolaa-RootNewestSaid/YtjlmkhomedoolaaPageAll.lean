/- page.sized, Room, all, Blank; slices.IndexFunc and ContainsFunc at bytes by all's function; the document's Room and Blank. -/
import Derived.Test.YtjlmkhomedoolaaPageP
import Derived.Test.YtjlmkhomedoolaaSumOpen
import Derived.Test.YtjlmkhomedoolaaSumGd
import Derived.LoopTactic
import Derived.Shelf.Abstract
namespace Go.Proofs.Ytjlmkhomedoolaa.Page
open Go.RowKit Go.Sort Go.Shelf

theorem ret_bool {a b : Bool} (h : a = b) : Ending.returned (.bool a) = .returned (.bool b) := by rw [h]
set_option maxHeartbeats 400000 in
theorem sized_any (n : Int) (w : World) : Calls Try.prog 26 #[.int .i64 n] w fun e w' => e = .returned (.bool (sizedB n)) ∧ w = w' := by
  by_cases h1 : 24 ≤ n
  · by_cases h2 : n ≤ 256
    · have HF : Hid (sizedB n = true) := sized_iff.2 ⟨h1, h2⟩
      rw [HF.out]
      go_enter Try.func26, Try.ntmps26
      go_wp2
      go_ret
      exact ⟨rfl, rfl⟩
    · have HF : Hid (sizedB n = false) := by show _ = _; simp [sizedB]; omega
      rw [HF.out]
      go_enter Try.func26, Try.ntmps26
      go_wp2
      go_ret
      exact ⟨rfl, rfl⟩
  · have HF : Hid (sizedB n = false) := by show _ = _; simp [sizedB]; omega
    rw [HF.out]
    go_enter Try.func26, Try.ntmps26
    go_wp2
    go_ret
    exact ⟨rfl, rfl⟩
set_option maxHeartbeats 400000 in
theorem room_any (n : Int) (w : World) : Calls Try.prog 21 #[.int .i64 n] w fun e w' => e = .returned (.int .i64 (roomI n)) ∧ w = w' := by
  have C := Lib.hid (sized_any n w)
  cases h : sizedB n with
  | true =>
    rw [h] at C
    have h2 := sized_iff.1 h
    have HF : Hid (roomI n = n - 16) := room_of h
    obtain ⟨h3, h4⟩ := h2
    clear h
    rw [HF.out]
    go_enter Try.func21, Try.ntmps21
    go_wp2_with fail
    refine C.out.mono ?_
    rintro e w' ⟨rfl, rfl⟩
    go_wp2
    go_ret
    exact ⟨rfl, rfl⟩
  | false =>
    rw [h] at C
    have HF : Hid (roomI n = 0) := by show _ = _; unfold roomI; rw [h]; rfl
    clear h
    rw [HF.out]
    go_enter Try.func21, Try.ntmps21
    go_wp2_with fail
    refine C.out.mono ?_
    rintro e w' ⟨rfl, rfl⟩
    go_wp2
    go_ret
    exact ⟨rfl, rfl⟩
theorem byte_ne {x y : UInt8} (h : x ≠ y) : ((x.toNat : Int) != (y.toNat : Int)) = true := by
  rw [bne_iff_ne]; intro e; exact h (UInt8.toNat_inj.1 (by omega))
set_option maxHeartbeats 400000 in
theorem isnt_any (x y : UInt8) (b : Nat) (w : World) (hc : w.cell? ⟨b, 0, none⟩ = some (byV x)) : Calls Try.prog 41 #[byV y, .pointer (some ⟨b, 0, none⟩)] w fun e w' => e = .returned (.bool (y != x)) ∧ w = w' := by
  have HQ : Hid ((y != x) = ((y.toNat : Int) != (x.toNat : Int))) := by
    show _ = _
    by_cases h : y = x
    · subst h; simp
    · rw [byte_ne h]; exact bne_iff_ne.2 h
  unfold byV at *
  rw [HQ.out]
  obtain ⟨n, hn⟩ : ∃ n, y.toNat = n := ⟨_, rfl⟩
  obtain ⟨m, hm⟩ : ∃ m, x.toNat = m := ⟨_, rfl⟩
  rw [hn]
  rw [hm] at hc ⊢
  clear hn hm HQ
  go_enter Try.func41, Try.ntmps41
  go_wp2
  go_ret
  exact ⟨rfl, rfl⟩

/-- Where a search ends: -1, or the place of the first one that is another byte. -/
def IdxAt (l : List UInt8) (x : UInt8) (z : Int) : Prop := (allB l x = true ∧ z = -1) ∨ (allB l x = false ∧ 0 ≤ z)
def Same (l : List UInt8) (x : UInt8) (i : Nat) : Prop := ∀ (j : Nat) y, j < i → l[j]? = some y → y = x
theorem same_all {l : List UInt8} {x : UInt8} (h : Same l x l.length) : allB l x = true := all_iff.2 fun y hy => by
  obtain ⟨j, hj, e⟩ := List.getElem_of_mem hy
  exact h j y hj (by rw [List.getElem?_eq_getElem hj, e])
theorem same_not {l : List UInt8} {x y : UInt8} {i : Nat} (h : l[i]? = some y) (hne : y ≠ x) : allB l x = false := all_not (List.mem_of_getElem? h) hne
theorem Same.next {l : List UInt8} {x : UInt8} {i : Nat} (h : Same l x i) (hx : l[i]? = some x) : Same l x (i + 1) := fun j y hj hy => by
  by_cases e : j = i
  · subst e; rw [hx] at hy; exact (Option.some.inj hy).symm
  · exact h j y (by omega) hy

set_option maxHeartbeats 1000000 in
set_option maxRecDepth 100000 in
theorem index_any (l : List UInt8) (v : Value) (x : UInt8) (b : Nat) (w : World) (hR : RdB w v l) (hc : w.cell? ⟨b, 0, none⟩ = some (byV x)) :
    Calls Try.prog 43 #[v, .func (.func 41) #[] #[.pointer (some ⟨b, 0, none⟩)]] w fun e w' => ∃ z, e = .returned (.int .i64 z) ∧ IdxAt l x z ∧ w = w' := by
  have HC := Lib.hid (fun y => isnt_any x y b w hc)
  obtain ⟨n, hn⟩ : ∃ n, n = l.length := ⟨_, rfl⟩
  have HN := Lib.hid hn
  have eg : ∀ args W, (callFunc 41 args).run Try.prog W = .ok (.enter 41 args) W := enters_of Try.func41 (by kernel_rfl) rfl
  by_cases h0 : n = 0
  · obtain ⟨a, cap, hv, -, -⟩ := hR.len
    rw [← hn, h0] at hv
    subst hv
    have HE : Hid (IdxAt l x (-1)) := .inl ⟨same_all (fun j y hj => absurd hj (by omega)), rfl⟩
    clear hc hR hn h0
    go_enter Try.func43, Try.ntmps43
    go_wp2
    go_loop [5, 8] (fun _ t => t = .int .i64 0) (fun _ _ => 0)
    case atStart => exact rfl
    case round =>
      subst hrel
      go_wp2
      go_ret
      exact ⟨_, rfl, HE.out, rfl⟩
  · have hlm := hR.len
    obtain ⟨bb, o, cap, hv, hcs⟩ := hR.form (by omega)
    rw [← hn] at hv
    subst hv
    obtain ⟨_, _, hlm1, hlm2, hlm3⟩ := hlm
    unfold maxLen at hlm3
    have hn63 : (n : Int) ≤ 9223372036854775807 := by omega
    have HL := Lib.hid hcs
    clear hc hR hn hcs hlm1 hlm2 hlm3
    go_enter Try.func43, Try.ntmps43
    go_wp2
    go_loop [5, 8] (fun _ t => ∃ i : Nat, i ≤ n ∧ t = .int .i64 i ∧ Hid (Same l x i)) (fun _ t => n - (intOf t).toNat)
    case atStart => exact ⟨0, Nat.zero_le _, rfl, fun j y hj => absurd hj (Nat.not_lt_zero _)⟩
    case round =>
      obtain ⟨i, hi, rfl, HF⟩ := hrel
      by_cases hlt : i < n
      · have hltI : (i : Int) < n := by omega
        obtain ⟨y, hy⟩ : ∃ y, l[i]? = some y := ⟨l[i]'(by rw [← HN.out]; exact hlt), List.getElem?_eq_getElem _⟩
        have hld : w.cell? ⟨bb, o + i, none⟩ = some (.int .u8 (y.toNat : Int)) := HL.out i y hy
        have hcc := HC.out y
        unfold byV at hcc
        obtain ⟨k, hk⟩ : ∃ k, y.toNat = k := ⟨_, rfl⟩
        rw [hk] at hld hcc
        by_cases hp : y = x
        · have HP : Hid (Same l x (i + 1)) := HF.out.next (by rw [hy, hp])
          have hq : (y != x) = false := by rw [hp]; exact bne_self_eq_false x
          rw [hq] at hcc
          have HD := Lib.hid hcc
          clear hcc hp hq hy hk
          go_wp2_with (go_at_fn 41; refine HD.out.mono ?_; rintro e w' ⟨rfl, rfl⟩)
          go_round
          case rel => exact ⟨i + 1, by omega, by go_num, HP⟩
          case measure => simp [intOf]; omega
        · have HP : Hid (IdxAt l x (i : Int)) := .inr ⟨same_not hy hp, by omega⟩
          have hq : (y != x) = true := bne_iff_ne.2 hp
          rw [hq] at hcc
          have HD := Lib.hid hcc
          clear hcc hp hq hy hk
          go_wp2_with (go_at_fn 41; refine HD.out.mono ?_; rintro e w' ⟨rfl, rfl⟩)
          go_ret
          exact ⟨_, rfl, HP.out, rfl⟩
      · obtain rfl : i = n := by omega
        have HE : Hid (IdxAt l x (-1)) := .inl ⟨same_all (by rw [← HN.out]; exact HF.out), rfl⟩
        go_wp2
        go_ret
        exact ⟨_, rfl, HE.out, rfl⟩
set_option maxHeartbeats 400000 in
theorem contains_any (l : List UInt8) (v : Value) (x : UInt8) (b : Nat) (w : World) (hR : RdB w v l) (hc : w.cell? ⟨b, 0, none⟩ = some (byV x)) :
    Calls Try.prog 40 #[v, .func (.func 41) #[] #[.pointer (some ⟨b, 0, none⟩)]] w fun e w' => e = .returned (.bool (!allB l x)) ∧ w = w' := by
  have HC := Lib.hid (index_any l v x b w hR hc)
  clear hR hc
  go_enter Try.func40, Try.ntmps40
  go_wp2_with fail
  refine HC.out.mono ?_
  rintro e w' ⟨z, rfl, hz, rfl⟩
  have HZ : Hid ((!allB l x) = decide (0 ≤ z)) := by
    show _ = _
    rcases hz with ⟨h1, h2⟩ | ⟨h1, h2⟩
    · rw [h1, h2]; rfl
    · rw [h1]; exact (decide_eq_true h2).symm
  clear hz
  go_wp2
  go_ret
  exact ⟨ret_bool HZ.out.symm, rfl⟩
set_option maxHeartbeats 400000 in
theorem all_any (l : List UInt8) (v : Value) (x : UInt8) (w : World) (hR : RdB w v l) :
    Calls Try.prog 34 #[v, byV x] w fun e w' => e = .returned (.bool (allB l x)) ∧ Below w.heap.size w w' := by
  have hal : Below w.heap.size w (w.alloc (.cells #[byV x] 5)) := (Below.refl _ _).alloc (Nat.le_refl _) _
  have HC := Lib.hid (contains_any l v x w.heap.size (w.alloc (.cells #[byV x] 5)) (hR.later hal) (by rw [World.cell?_alloc_at _ _ _ _ rfl]; rfl))
  have HB := Lib.hid hal
  obtain ⟨c, hcc⟩ : ∃ c, allB l x = c := ⟨_, rfl⟩
  rw [hcc] at HC ⊢
  clear hcc
  clear hR hal
  unfold byV at *
  go_enter Try.func34, Try.ntmps34
  go_wp2_with fail
  refine HC.out.mono ?_
  rintro e w' ⟨rfl, rfl⟩
  go_wp2
  go_ret
  exact ⟨rfl, HB.out⟩
set_option maxHeartbeats 400000 in
theorem blank_any (l : List UInt8) (v : Value) (w : World) (hR : RdB w v l) :
    Calls Try.prog 28 #[v] w fun e w' => e = .returned (.bool (allB l 255)) ∧ Below w.heap.size w w' := by
  have HC := all_any l v 255 w hR
  have e : byV 255 = .int .u8 255 := rfl
  rw [e] at HC
  have HC := Lib.hid HC
  clear hR e
  go_enter Try.func28, Try.ntmps28
  go_wp2_with fail
  refine HC.out.mono ?_
  rintro e w' ⟨rfl, hb⟩
  have HB := Lib.hid hb
  clear hb
  go_wp2
  go_ret
  exact ⟨rfl, HB.out⟩

end Go.Proofs.Ytjlmkhomedoolaa.Page
