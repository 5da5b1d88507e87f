/- bad.good: the numbers below many that aren't bad. -/
import Derived.Test.YteifldppipnodaaBadRight
namespace Go.Proofs.Yteifldppipnodaa.Bad
open Go.RowKit Go.Sort
attribute [local go_sem ↓] slice_ints

def freeL (bads : List Nat) (n : Nat) : List Nat := (List.range n).filter fun x => !decide (x ∈ bads)
theorem free_succ (bads : List Nat) (n : Nat) : freeL bads (n + 1) = freeL bads n ++ (if n ∈ bads then [] else [n]) := by
  unfold freeL
  rw [List.range_succ, List.filter_append]
  congr 1
  by_cases h : n ∈ bads <;> simp [h]
theorem free_length (bads : List Nat) (n : Nat) : (freeL bads n).length ≤ n := by
  have := List.length_filter_le (fun x => !decide (x ∈ bads)) (List.range n)
  rw [List.length_range] at this
  exact this
theorem one_new (W : World) (x : Nat) : RdN (W.alloc (.cells #[.int .i64 (x : Int)] 3)) (.slice (some ⟨W.heap.size, 0, none⟩) 1 1) [x] := by
  rcases OwnN.made W [x] with h | h
  · exact h.rd
  · exact absurd (by unfold maxLen; simp) h
theorem SetN.grew {w w' : World} {base B n : Nat} {v : Value} {l m : List Nat} (h : SetN w B n l) (ho : OwnN w base v m) (hg : w.grownBy w' v.ownBlock) (hB : B < base) : SetN w' B n l :=
  World.ownsMap.kept h hg fun he => by have := (World.ownsRow.lt ho B he.symm).1; omega

set_option maxHeartbeats 2000000 in
set_option maxRecDepth 100000 in
theorem good_any (many : Nat) (bads : List Nat) (v : Value) (w : World) (hv : RdN w v bads) (hm : many ≤ 255) (hb : ∀ x ∈ bads, x < many) (hl : bads.length ≤ 1000) :
    Calls Try.prog 13 #[.int .i64 (many : Int), v] w fun e w' => ∃ u, e = .returned u ∧ OwnN w' w.heap.size u (freeL bads many) ∧ Below w.heap.size w w' := by
  have HV := Lib.hid hv
  have HS := Lib.hid hb
  obtain ⟨a, p, e, -⟩ := hv.len
  obtain ⟨n, hn⟩ : ∃ n, bads.length = n := ⟨_, rfl⟩
  have HN := Lib.hid hn
  rw [hn] at e hl
  subst e
  have hmm := @run_makeMap Try.prog
  have HB0 : Hid (SetN (w.alloc (.map #[] 0)) w.heap.size 0 [] ∧ Below w.heap.size w (w.alloc (.map #[] 0)) ∧ w.heap.size + 1 ≤ (w.alloc (.map #[] 0)).heap.size) := ⟨SetN.made w, (Below.refl _ _).alloc (Nat.le_refl _) _, by simp⟩
  obtain ⟨B, hB⟩ : ∃ B, w.heap.size = B := ⟨_, rfl⟩
  rw [hB] at HB0 ⊢
  have HBE := Lib.hid hB
  clear hv hb hn
  go_enter Try.func13, Try.ntmps13
  go_wp2
  clear hB
  go_loopw [15] (fun i wr => ∃ k : Nat, k ≤ n ∧ i = .int .i64 k ∧ SetN wr B k (bads.take k) ∧ Below B w wr ∧ B + 1 ≤ wr.heap.size) (fun i _ => n - (intOf i).toNat)
  case atStart => exact ⟨0, Nat.zero_le _, rfl, HB0.out⟩
  case round =>
    obtain ⟨k, hk, rfl, hs, hb, hz⟩ := hrel
    have HW := Lib.hid (And.intro hs (And.intro hb hz))
    clear hs hb hz
    by_cases hlt : k < n
    · have hltI : (k : Int) < n := by omega
      obtain ⟨b0, o0, p0, e0, hc⟩ := HV.out.form (by rw [HN.out]; omega)
      rw [HN.out] at e0
      cases e0
      obtain ⟨x, hx⟩ : ∃ x, bads[k]? = some x := ⟨_, List.getElem?_eq_getElem (by rw [HN.out]; exact hlt)⟩
      have HX := Lib.hid hx
      have hcell := keep_cell (hc k x hx) (show Below w.heap.size w wr by rw [HBE.out]; exact HW.out.2.1)
      have hsm : x < many := HS.out x (List.mem_of_getElem? hx)
      have d1 : decide ((0 : Int) ≤ x) = true := by simp
      have d2 : decide ((x : Int) < many) = true := by simp; omega
      unfold nV at hcell
      clear hx hc
      go_wp2_with (first
        | (at_mapUpdate; refine wpList_note rfl _ _ _ rfl rfl rfl rfl HW.out.1 (by omega) (by omega) ?_; intro w5 h1 h2)
        | go_in)
      have HE5 := Lib.hid (And.intro h1 h2)
      clear h1 h2 hcell
      go_roundw
      case rel =>
        refine ⟨k + 1, hlt, by go_num, ?_, HW.out.2.1.grown HE5.out.2 (by have := HW.out.2.2; omega) (fun j hj => by cases hj; exact Nat.le_refl _), Nat.le_trans HW.out.2.2 HE5.out.2.size⟩
        rw [take_next HX.out]
        exact HE5.out.1
      case measure => simp [intOf]; omega
    · obtain rfl : k = n := by omega
      have HI : Hid (SetN wr B k bads ∧ Below B w wr ∧ B + 1 ≤ wr.heap.size) := by
        refine ⟨?_, HW.out.2⟩
        have := HW.out.1
        rw [List.take_of_length_le (by rw [HN.out]; exact Nat.le_refl _)] at this
        exact this
      clear HW
      go_wp2
      go_loopw [8, 31] (fun u i wr => ∃ j : Nat, j ≤ many ∧ i = .int .i64 j ∧ OwnN wr (B + 1) u (freeL bads j) ∧ SetN wr B k bads ∧ Below B w wr ∧ B + 1 ≤ wr.heap.size) (fun _ i _ => many - (intOf i).toNat)
      case atStart => exact ⟨0, Nat.zero_le _, rfl, OwnN.nil _ _, HI.out⟩
      case round =>
        obtain ⟨j, hj, rfl, ho, hs, hb, hz⟩ := hrel
        have HW := Lib.hid (And.intro ho (And.intro hs (And.intro hb hz)))
        clear ho hs hb hz
        by_cases hlt : j < many
        · have hltI : (j : Int) < many := by omega
          have HF := free_succ bads j
          have hal : Below wr.heap.size wr (wr.alloc (.cells #[] 50)) := (Below.refl _ _).alloc (Nat.le_refl _) _
          have HA : Hid (OwnN (wr.alloc (.cells #[] 50)) (B + 1) u8 (freeL bads j) ∧ SetN (wr.alloc (.cells #[] 50)) B k bads ∧ Below B w (wr.alloc (.cells #[] 50)) ∧ B + 1 ≤ (wr.alloc (.cells #[] 50)).heap.size) :=
            ⟨HW.out.1.later hal, HW.out.2.1.later hal, HW.out.2.2.1.alloc (by have := HW.out.2.2.2; omega) _, Nat.le_trans HW.out.2.2.2 hal.size⟩
          clear hal
          by_cases hin : j ∈ bads
          · rw [if_pos hin, List.append_nil] at HF
            have HD : Hid (decide (j ∈ bads) = true) := decide_eq_true hin
            have HFF := Lib.hid HF
            clear HF hin
            go_wp2_with (first
              | (at_lookup; refine wpList_known rfl _ _ rfl rfl rfl HW.out.2.1 (by omega) true HD.out ?_)
              | go_in)
            go_roundw
            case rel => exact ⟨j + 1, hlt, by go_num, by rw [HFF.out]; exact HA.out.1, HA.out.2⟩
            case measure => simp [intOf]; omega
          · rw [if_neg hin] at HF
            have HD : Hid (decide (j ∈ bads) = false) := decide_eq_false hin
            have HFF := Lib.hid HF
            clear HF hin
            have HO : Hid (OwnN ((wr.alloc (.cells #[] 50)).alloc (.cells #[.int .i64 (j : Int)] 3)) (B + 1) u8 (freeL bads j) ∧ RdN ((wr.alloc (.cells #[] 50)).alloc (.cells #[.int .i64 (j : Int)] 3)) (.slice (some ⟨wr.heap.size + 1, 0, none⟩) 1 1) [j] ∧ B + 1 ≤ ((wr.alloc (.cells #[] 50)).alloc (.cells #[.int .i64 (j : Int)] 3)).heap.size ∧ SetN ((wr.alloc (.cells #[] 50)).alloc (.cells #[.int .i64 (j : Int)] 3)) B k bads ∧ Below B w ((wr.alloc (.cells #[] 50)).alloc (.cells #[.int .i64 (j : Int)] 3))) := by
              obtain ⟨W, hW⟩ : ∃ W, W = wr.alloc (.cells #[] 50) := ⟨_, rfl⟩
              have hsz : wr.heap.size + 1 = W.heap.size := by rw [hW]; simp
              rw [← hW] at HA ⊢
              rw [hsz]
              have hal : Below W.heap.size W (W.alloc (.cells #[.int .i64 (j : Int)] 3)) := (Below.refl _ _).alloc (Nat.le_refl _) _
              exact ⟨HA.out.1.later hal, one_new W j, Nat.le_trans HA.out.2.2.2 hal.size, HA.out.2.1.later hal, HA.out.2.2.1.alloc (by have := HA.out.2.2.2; omega) _⟩
            clear HA
            have HLE := Lib.hid (free_length bads j)
            go_wp2_with (first
              | (at_lookup; refine wpList_known rfl _ _ rfl rfl rfl HW.out.2.1 (by omega) false HD.out ?_)
              | (at_builtin; refine wpList_appendN rfl _ _ rfl rfl rfl HO.out.1 HO.out.2.1 HO.out.2.2.1 (by have := HLE.out; simp; omega) ?_; intro v' w' hx hy)
              | go_in)
            have HX : Hid (OwnN w' (B + 1) v' (freeL bads j ++ [j]) ∧ SetN w' B k bads ∧ Below B w w' ∧ B + 1 ≤ w'.heap.size) :=
              ⟨hx, HO.out.2.2.2.1.grew HO.out.1 hy (Nat.lt_succ_self _), HO.out.2.2.2.2.grown hy (by have := HO.out.2.2.1; omega) (fun i hi => by have := (World.ownsRow.lt HO.out.1 i hi).1; omega), Nat.le_trans HO.out.2.2.1 hy.size⟩
            clear hx hy HO
            go_roundw
            case rel => exact ⟨j + 1, hlt, by go_num, by rw [HFF.out]; exact HX.out.1, HX.out.2⟩
            case measure => simp [intOf]; omega
        · obtain rfl : j = many := by omega
          have FIN : Hid (OwnN wr B u8 (freeL bads j) ∧ Below B w wr) := ⟨HW.out.1.mono (Nat.le_succ _), HW.out.2.2.1⟩
          clear HW
          go_wp2
          go_ret
          exact ⟨_, rfl, FIN.out⟩
end Go.Proofs.Yteifldppipnodaa.Bad
