/- The statement TableHalves, walked: at whatever routes and changes. -/
import Derived.Test.YtcpdpcfejpbdpaaTHalves
namespace Go.Proofs.Ytcpdpcfejpbdpaa.tableHalves
open Go.RowKit Go.Sort Go.Shelf
attribute [local go_sem ↓] loadVar_key loadVar_pre loadVar_route storeVar_pre storeVar_route build_pre build_route build_key build_change buildSlice_rows buildSlice_chs binOp_rtEql

set_option maxHeartbeats 1000000 in
set_option maxRecDepth 100000 in
theorem walk_no (l : List Rt) (n na nb : Nat) (r : Rt) (a aa ab : Option Addr) (cap capa capb : Nat) (w : World) (hR : Rd w (.slice a n cap) l) (hn : n ≤ maxLen) (hna : na ≤ maxLen) (hnb : nb ≤ maxLen)
    (hno : ¬ n ≤ 200 ∨ ¬ na ≤ 20 ∨ ¬ nb ≤ 20 ∨ rightB l = false) :
    Calls Try.prog 6 #[.slice a n cap, .slice aa na capa, .slice ab nb capb, .agg (rc r)] w fun e w' => e = .returned (.bool true) ∧ Below w.heap.size w w' := by
  have hb0 : Below w.heap.size w (w.alloc (.cells (rc r) 34)) := (Below.refl _ _).alloc (Nat.le_refl _) _
  have HB0 := Lib.hid hb0
  have H1 := Lib.hid (awake_any (w.alloc (.cells (rc r) 34)))
  have HR := Lib.hid hR
  unfold maxLen at hn hna hnb
  clear hR hb0
  by_cases h1 : n ≤ 200
  · have h1I : (n : Int) ≤ 200 := by omega
    by_cases h2 : na ≤ 20
    · have h2I : (na : Int) ≤ 20 := by omega
      by_cases h3 : nb ≤ 20
      · have h3I : (nb : Int) ≤ 20 := by omega
        have hr : rightB l = false := by
          rcases hno with h | h | h | h
          · exact absurd h1 h
          · exact absurd h2 h
          · exact absurd h3 h
          · exact h
        have H2 : Hid (∀ W, Rd W (.slice a n cap) l → Calls Try.prog 14 #[.slice a n cap] W fun e w' => e = .returned (.bool false) ∧ Below W.heap.size W w') := fun W h => by
          have := right_any l _ W h
          rw [hr] at this; exact this
        clear hno hr h1 h2 h3 hn hna hnb
        go_enter Try.func6, Try.ntmps6
        go_wp2_with fail
        refine H1.out.mono ?_
        rintro e1 w1 ⟨rfl, h1⟩
        have HW1 : Hid (Below w.heap.size w w1) := HB0.out.trans (h1.mono HB0.out.size)
        clear h1
        go_wp2_with fail
        refine (H2.out _ (HR.out.later HW1.out)).mono ?_
        rintro e1 w2 ⟨rfl, h2⟩
        have HW2 : Hid (Below w.heap.size w w2) := HW1.out.trans (h2.mono HW1.out.size)
        clear h2
        go_wp2
        go_ret
        exact ⟨rfl, HW2.out⟩
      · have h3I : (20 : Int) < nb := by omega
        clear hno h1 h2 h3 hn hna hnb
        go_enter Try.func6, Try.ntmps6
        go_wp2_with fail
        refine H1.out.mono ?_
        rintro e1 w1 ⟨rfl, h1⟩
        have HW1 : Hid (Below w.heap.size w w1) := HB0.out.trans (h1.mono HB0.out.size)
        clear h1
        go_wp2
        go_ret
        exact ⟨rfl, HW1.out⟩
    · have h2I : (20 : Int) < na := by omega
      clear hno h1 h2 hn hna hnb
      go_enter Try.func6, Try.ntmps6
      go_wp2_with fail
      refine H1.out.mono ?_
      rintro e1 w1 ⟨rfl, h1⟩
      have HW1 : Hid (Below w.heap.size w w1) := HB0.out.trans (h1.mono HB0.out.size)
      clear h1
      go_wp2
      go_ret
      exact ⟨rfl, HW1.out⟩
  · have h1I : (200 : Int) < n := by omega
    clear hno h1 hn hna hnb
    go_enter Try.func6, Try.ntmps6
    go_wp2_with fail
    refine H1.out.mono ?_
    rintro e1 w1 ⟨rfl, h1⟩
    have HW1 : Hid (Below w.heap.size w w1) := HB0.out.trans (h1.mono HB0.out.size)
    clear h1
    go_wp2
    go_ret
    exact ⟨rfl, HW1.out⟩

theorem walkAll (l : List Rt) (ca cb : List Ch) (r : Rt) (v va vb : Value) (w : World) (hR : Rd w v l) (hA : RdC w va ca) (hB : RdC w vb cb) :
    Calls Try.prog 6 #[v, va, vb, .agg (rc r)] w fun e w' => e = .returned (.bool true) ∧ Below w.heap.size w w' := by
  obtain ⟨a, cap, hv, h1⟩ := rd_len hR
  obtain ⟨aa, capa, hva, h2⟩ := rdC_len hA
  obtain ⟨ab, capb, hvb, h3⟩ := rdC_len hB
  by_cases hc : l.length ≤ 200 ∧ ca.length ≤ 20 ∧ cb.length ≤ 20 ∧ rightB l = true
  · obtain ⟨g1, g2, g3, g4⟩ := hc
    exact walk l ca cb r v va vb w hR hA hB g1 g2 g3 ((right_iff l).1 g4).2
  · have hno : ¬ l.length ≤ 200 ∨ ¬ ca.length ≤ 20 ∨ ¬ cb.length ≤ 20 ∨ rightB l = false := by
      by_cases g1 : l.length ≤ 200
      · by_cases g2 : ca.length ≤ 20
        · by_cases g3 : cb.length ≤ 20
          · refine .inr (.inr (.inr ?_))
            cases h : rightB l with
            | false => rfl
            | true => exact absurd ⟨g1, g2, g3, h⟩ hc
          · exact .inr (.inr (.inl g3))
        · exact .inr (.inl g2)
      · exact .inl g1
    rw [hv] at hR
    rw [hv, hva, hvb]
    exact walk_no l _ _ _ r a aa ab cap capa capb w hR h1 h2 h3 hno
end Go.Proofs.Ytcpdpcfejpbdpaa.tableHalves
