/- slices.Concat at bytes, of however many slices. -/
import Derived.Test.YtjlmkhomedoolaaPageMay
namespace Go.Proofs.Ytjlmkhomedoolaa.Page
open Go.RowKit Go.Sort
attribute [local go_sem ↓] slice_bytes

def cat (ls : Nat → List UInt8) : Nat → List UInt8
  | 0 => []
  | k + 1 => cat ls k ++ ls k
theorem cat_succ (ls : Nat → List UInt8) (k : Nat) : cat ls (k + 1) = cat ls k ++ ls k := rfl
theorem cat_mono (ls : Nat → List UInt8) {k n : Nat} (h : k ≤ n) : (cat ls k).length ≤ (cat ls n).length := by
  induction n with
  | zero => have : k = 0 := by omega
            subst this; exact Nat.le_refl _
  | succ n ih =>
    by_cases e : k = n + 1
    · subst e; exact Nat.le_refl _
    · have := ih (by omega)
      rw [cat_succ, List.length_append]; omega

set_option maxHeartbeats 1000000 in
theorem concat_any (b n : Nat) (vs : Nat → Value) (ls : Nat → List UInt8) (w : World) (hR : ∀ i, i < n → RdB w (vs i) (ls i) ∧ w.cell? ⟨b, i, none⟩ = some (vs i)) (hn : n ≤ 1000) (hT : (cat ls n).length ≤ 1000000) :
    Calls Try.prog 24 #[.slice (some ⟨b, 0, none⟩) n n] w fun e w' => ∃ v, e = .returned v ∧ OwnB w' w.heap.size v (cat ls n) ∧ Below w.heap.size w w' := by
  have HG : Hid (Calls Try.prog 33 #[.slice none 0 0, .int .i64 ((cat ls n).length : Int)] w fun e w' => ∃ v, e = .returned v ∧ OwnB w' w.heap.size v [] ∧ Below w.heap.size w w') := grow_any _ hT w
  have HR : Hid (∀ W, Below w.heap.size w W → w.heap.size ≤ W.heap.size ∧ ∀ i, i < n → RdB W (vs i) (ls i) ∧ W.cell? ⟨b, i, none⟩ = some (vs i)) := fun W hW =>
    ⟨hW.size, fun i hi => ⟨(hR i hi).1.later hW, cell_keep (hR i hi).2 hW⟩⟩
  have HN : Hid (∀ k, k ≤ n → (cat ls k).length ≤ 1000000) := fun k hk => Nat.le_trans (cat_mono ls hk) hT
  have HL : Hid (∀ i, i < n → ∃ a cap, vs i = .slice a (ls i).length cap) := fun i hi => by
    obtain ⟨a, cap, h, -⟩ := (hR i hi).1.len
    exact ⟨a, cap, h⟩
  have HS : Hid (∀ k, (cat ls (k + 1)).length = (cat ls k).length + (ls k).length) := fun k => by rw [cat_succ, List.length_append]
  have H0 : Hid ((cat ls 0).length = 0) := rfl
  clear hR hT
  obtain ⟨B, hB⟩ : ∃ B, w.heap.size = B := ⟨_, rfl⟩
  rw [hB] at HG HR ⊢
  clear hB
  go_enter Try.func24, Try.ntmps24
  go_wp2
  go_loop [3, 11] (fun t i => ∃ k : Nat, k ≤ n ∧ i = .int .i64 k ∧ t = .int .i64 ((cat ls k).length : Int)) (fun _ i => n - (intOf i).toNat)
  case atStart => exact ⟨0, Nat.zero_le _, rfl, by rw [H0.out]; rfl⟩
  case round =>
    obtain ⟨k, hk, rfl, rfl⟩ := hrel
    by_cases hlt : k < n
    · have hltI : (k : Int) < n := by omega
      obtain ⟨a, cap, hv⟩ := HL.out k hlt
      have hc := ((HR.out w (Below.refl _ _)).2 k hlt).2
      have b1 := HN.out k hk
      have b2 := HN.out (k + 1) hlt
      have HSK := Lib.hid (HS.out k)
      rw [HS.out k] at b2
      rw [hv] at hc
      obtain ⟨t, ht⟩ : ∃ t, (cat ls k).length = t := ⟨_, rfl⟩
      obtain ⟨m, hm⟩ : ∃ m, (ls k).length = m := ⟨_, rfl⟩
      rw [ht] at b1 b2 HSK ⊢
      rw [hm] at b2 hc HSK
      clear hv ht hm
      go_wp2
      go_round
      case rel => exact ⟨k + 1, hlt, by go_num, by rw [HSK.out]; go_num⟩
      case measure => simp [intOf]; omega
    · obtain rfl : k = n := by omega
      go_wp2_with fail
      refine HG.out.mono ?_
      rintro e w1 ⟨v, rfl, ho, hb⟩
      have HO := Lib.hid (And.intro ho hb)
      clear ho hb
      go_wp2
      go_loopw [6, 27] (fun u i wr => ∃ j : Nat, j ≤ k ∧ i = .int .i64 j ∧ OwnB wr B u (cat ls j) ∧ Below B w wr) (fun _ i _ => k - (intOf i).toNat)
      case atStart => exact ⟨0, Nat.zero_le _, rfl, HO.out.1, HO.out.2⟩
      case round =>
        obtain ⟨j, hj, rfl, ho, hb⟩ := hrel
        obtain ⟨hs, hr⟩ := HR.out wr hb
        have HB := Lib.hid hb
        by_cases hjk : j < k
        · have hjI : (j : Int) < k := by omega
          obtain ⟨hr1, hc⟩ := hr j hjk
          have HW := Lib.hid (And.intro ho (And.intro hr1 hs))
          have HA : Hid ((cat ls j).length + (ls j).length ≤ 1000000) := by
            have := HN.out (j + 1) hjk
            rw [HS.out j] at this; exact this
          clear ho hb hs hr hr1
          go_wp2_with (at_builtin; refine wpList_appendB rfl _ _ rfl rfl rfl HW.out.1 HW.out.2.1 HW.out.2.2 HA.out ?_; intro v' w' hx hy)
          have HX := Lib.hid (And.intro hx (HB.out.trans (HW.out.1.below hy HW.out.2.2)))
          clear hx hy
          go_roundw
          case rel => exact ⟨j + 1, hjk, by go_num, HX.out.1, HX.out.2⟩
          case measure => simp [intOf]; omega
        · obtain rfl : j = k := by omega
          have FIN := Lib.hid (And.intro ho hb)
          clear ho hb hs hr
          go_wp2
          go_ret
          exact ⟨_, rfl, FIN.out⟩
end Go.Proofs.Ytjlmkhomedoolaa.Page
