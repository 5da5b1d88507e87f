/- The document's Short of layer 6. -/
import Derived.Test.YtilgppijmkcomaaChipRef
namespace Go.Proofs.Ytilgppijmkcomaa.Chip
open Go.RowKit Go.Sort Go.Shelf

theorem short_no {c : Chp} {i : Nat} {b : Blk} (hb : c.blocks[i]? = some b) (h : shortBlk b = false) : shortB c = false := by
  unfold shortB
  have : c.blocks.all shortBlk = false := by
    rw [List.all_eq_false]
    exact ⟨b, List.mem_of_getElem? hb, by rw [h]; decide⟩
  rw [this, Bool.and_false]
theorem short_long {b : Blk} {k : Nat} {p : List UInt8} (hp : b.pages[k]? = some p) (h : 300 < p.length) : shortBlk b = false := by
  unfold shortBlk
  have : (b.pages.all fun p => decide (p.length ≤ 300)) = false := by
    rw [List.all_eq_false]
    exact ⟨p, List.mem_of_getElem? hp, by simp; omega⟩
  rw [this, Bool.and_false]

set_option maxHeartbeats 4000000 in
set_option maxRecDepth 100000 in
theorem short_any (c : Chp) (v : Value) (w : World) (hR : RdC w v c) :
    Calls Try.prog 13 #[v] w fun e w' => e = .returned (.bool (shortB c)) ∧ Below w.heap.size w w' := by
  obtain ⟨vb, vf, rfl, hK, hF⟩ := hR
  obtain ⟨a, cap, hvb, hle, hmax⟩ := hK.len
  obtain ⟨f, fcap, hvf, hlf, hmf⟩ := RdRow.len hF
  have hb : Below w.heap.size w (w.alloc (.cells (chipCells c vb vf) 27)) := (Below.refl _ _).alloc (Nat.le_refl _) _
  have hbx := Box.new w (chipCells c vb vf)
  have c1 : (w.alloc (.cells (chipCells c vb vf) 27)).cell? ⟨w.heap.size, 2, none⟩ = some vb := by rw [hbx.cell]; rfl
  have hKW := hK.later hb
  obtain ⟨W, hW⟩ : ∃ W, W = w.alloc (.cells (chipCells c vb vf) 27) := ⟨_, rfl⟩
  rw [← hW] at hb c1 hKW
  have HW := Lib.hid hW
  have HB := Lib.hid hb
  have HK := Lib.hid hKW
  obtain ⟨n, hn⟩ : ∃ n, n = c.blocks.length := ⟨_, rfl⟩
  obtain ⟨q, hq⟩ : ∃ q, q = c.faults.length := ⟨_, rfl⟩
  unfold maxLen at hmax hmf
  have hn63 : (n : Int) ≤ 9223372036854775807 := by omega
  have hq63 : (q : Int) ≤ 9223372036854775807 := by omega
  rw [← hn] at hvb
  rw [← hq] at hvf
  have HN := Lib.hid hn
  have HQ := Lib.hid hq
  have HS : Hid (shortB c = (decide (c.blocks.length ≤ 40) && decide (c.faults.length ≤ 80) && c.blocks.all shortBlk)) := rfl
  obtain ⟨z, hz⟩ : ∃ z, z = shortB c := ⟨_, rfl⟩
  have HZ := Lib.hid hz
  rw [← hz]
  unfold chipCells at HW
  unfold chipV
  subst hvb hvf
  clear hK hF hb hbx hKW hW hn hq hz hle hmax hlf hmf
  by_cases h40 : n ≤ 40
  · have h40I : (n : Int) ≤ 40 := by omega
    by_cases h80 : q ≤ 80
    · have h80I : (q : Int) ≤ 80 := by omega
      clear h80
      go_enter Try.func13, Try.ntmps13
      go_wp2
      rw [← HW.out]
      go_loop [3, 4] (fun t _ => ∃ i : Nat, i ≤ n ∧ t = .int .i64 i ∧ Hid (∀ (j : Nat) b, j < i → c.blocks[j]? = some b → shortBlk b = true)) (fun t _ => n - (intOf t).toNat)
      case atStart => exact ⟨0, Nat.zero_le _, rfl, fun j b hj => absurd hj (Nat.not_lt_zero _)⟩
      case round =>
        obtain ⟨i, hi, rfl, HA⟩ := hrel
        by_cases hlt : i < n
        · have hltI : (i : Int) < n := by omega
          have hi0 : (0 : Int) ≤ i := by omega
          obtain ⟨b, hb⟩ : ∃ b, c.blocks[i]? = some b := ⟨c.blocks[i]'(by rw [← HN.out]; exact hlt), List.getElem?_eq_getElem _⟩
          obtain ⟨bb, bo, cb, x, hvb, hx, -, cx, -⟩ := at_blk HK.out hb
          rw [← HN.out] at hvb
          simp only [Value.slice.injEq, true_and] at hvb
          obtain ⟨rfl, rfl⟩ := hvb
          obtain ⟨ax, cpx, hxv, hxl, hxm⟩ := hx.len
          obtain ⟨m, hm⟩ : ∃ m, m = b.pages.length := ⟨_, rfl⟩
          unfold maxLen at hxm
          have hm63 : (m : Int) ≤ 9223372036854775807 := by omega
          rw [← hm] at hxv
          have HM := Lib.hid hm
          have HBI := Lib.hid hb
          have HX := Lib.hid hx
          subst hxv
          clear hm hb hx hxl hxm
          by_cases h20 : m ≤ 20
          · have h20I : (m : Int) ≤ 20 := by omega
            go_wp2
            go_loop [4] (fun t => ∃ k : Nat, k ≤ m ∧ t = .int .i64 k ∧ Hid (∀ (j : Nat) p, j < k → b.pages[j]? = some p → p.length ≤ 300)) (fun t => m - (intOf t).toNat)
            case atStart => exact ⟨0, Nat.zero_le _, rfl, fun j b hj => absurd hj (Nat.not_lt_zero _)⟩
            case round =>
              obtain ⟨k, hk, rfl, HAK⟩ := hrel
              by_cases hlt2 : k < m
              · have hlt2I : (k : Int) < m := by omega
                have hk0 : (0 : Int) ≤ k := by omega
                obtain ⟨p, hp⟩ : ∃ p, b.pages[k]? = some p := ⟨b.pages[k]'(by rw [← HM.out]; exact hlt2), List.getElem?_eq_getElem _⟩
                obtain ⟨bp, po, cp, y, hxa, cy, hy⟩ := at_pg HX.out hp
                rw [← HM.out] at hxa
                simp only [Value.slice.injEq, true_and] at hxa
                obtain ⟨rfl, rfl⟩ := hxa
                obtain ⟨ay, cpy, hyv, hyl, hym⟩ := hy.len
                obtain ⟨s, hs⟩ : ∃ s, s = p.length := ⟨_, rfl⟩
                unfold maxLen at hym
                have hs63 : (s : Int) ≤ 9223372036854775807 := by omega
                rw [← hs] at hyv
                have HPI := Lib.hid hp
                have HSL := Lib.hid hs
                subst hyv
                clear hp hy hs hyl hym
                by_cases h300 : s ≤ 300
                · have h300I : (s : Int) ≤ 300 := by omega
                  have HNX : Hid (∀ (j : Nat) p, j < k + 1 → b.pages[j]? = some p → p.length ≤ 300) := fun j p' hj hp' => by
                    by_cases e : j = k
                    · subst e; rw [HPI.out] at hp'; cases hp'; have := HSL.out; omega
                    · exact HAK.out j p' (by omega) hp'
                  go_wp2
                  go_round
                  case rel => exact ⟨k + 1, by omega, by go_num, HNX⟩
                  case measure => simp [intOf]; omega
                · have h300I : (300 : Int) < s := by omega
                  have HZF : Hid (z = false) := by show _ = _; rw [HZ.out]; exact short_no HBI.out (short_long HPI.out (by have := HSL.out; omega))
                  go_wp2
                  go_ret
                  exact ⟨by rw [HZF.out]; rfl, HB.out⟩
              · obtain rfl : k = m := by omega
                have HNX : Hid (∀ (j : Nat) b, j < i + 1 → c.blocks[j]? = some b → shortBlk b = true) := fun j b' hj hb' => by
                  by_cases e : j = i
                  · subst e
                    rw [HBI.out] at hb'; cases hb'
                    unfold shortBlk
                    rw [Bool.and_eq_true, decide_eq_true_eq, List.all_eq_true]
                    refine ⟨by have := HM.out; omega, fun p hp => ?_⟩
                    obtain ⟨r, hr⟩ := List.mem_iff_getElem?.1 hp
                    have hrl := (List.getElem?_eq_some_iff.1 hr).1
                    simpa using HAK.out r p (by have := HM.out; omega) hr
                  · exact HA.out j b' (by omega) hb'
                go_wp2
                go_round
                case rel => exact ⟨i + 1, by omega, by go_num, HNX⟩
                case measure => simp [intOf]; omega
          · have h20I : (20 : Int) < m := by omega
            have HZF : Hid (z = false) := by
              show _ = _
              rw [HZ.out]
              refine short_no HBI.out ?_
              unfold shortBlk
              rw [decide_eq_false (by have := HM.out; omega)]; rfl
            go_wp2
            go_ret
            exact ⟨by rw [HZF.out]; rfl, HB.out⟩
        · obtain rfl : i = n := by omega
          have HZT : Hid (z = true) := by
            show _ = _
            rw [HZ.out, HS.out, decide_eq_true (by rw [← HN.out]; exact h40), decide_eq_true (by have := HQ.out; omega)]
            rw [Bool.true_and, Bool.true_and, List.all_eq_true]
            intro b hb
            obtain ⟨r, hr⟩ := List.mem_iff_getElem?.1 hb
            exact HA.out r b (by rw [HN.out]; exact (List.getElem?_eq_some_iff.1 hr).1) hr
          go_wp2
          go_ret
          exact ⟨by rw [HZT.out]; rfl, HB.out⟩
    · have h80I : (80 : Int) < q := by omega
      have HZF : Hid (z = false) := by show _ = _; rw [HZ.out, HS.out, show decide (c.faults.length ≤ 80) = false from decide_eq_false (by rw [← HQ.out]; exact h80), Bool.and_false]; rfl
      go_enter Try.func13, Try.ntmps13
      go_wp2
      go_ret
      exact ⟨by rw [HZF.out]; rfl, by rw [← HW.out]; exact HB.out⟩
  · have h40I : (40 : Int) < n := by omega
    have HZF : Hid (z = false) := by show _ = _; rw [HZ.out, HS.out, decide_eq_false (by rw [← HN.out]; exact h40)]; rfl
    go_enter Try.func13, Try.ntmps13
    go_wp2
    go_ret
    exact ⟨by rw [HZF.out]; rfl, by rw [← HW.out]; exact HB.out⟩
end Go.Proofs.Ytilgppijmkcomaa.Chip
