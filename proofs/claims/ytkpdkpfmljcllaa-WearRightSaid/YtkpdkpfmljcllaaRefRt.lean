/- The document's own Right: what it hands back. -/
import Derived.Test.YtkpdkpfmljcllaaRefSuch
namespace Go.Proofs.Ytkpdkpfmljcllaa.Wear
open Go.RowKit Go.Sort Go.Shelf
attribute [local go_sem ↓] loadVar_wb storeVar_wb loadVar_bl storeVar_bl build_bl build_wb

theorem any_clear {l : List Wb} {p : Int} (h : Clear (wrongE p) l l.length) : l.any (wrongE p) = false := (idx_none h).2
theorem any_at {l : List Wb} {p : Int} {i : Nat} {b : Wb} (h : l[i]? = some b) (hb : wrongE p b = true) : l.any (wrongE p) = true := List.any_eq_true.2 ⟨b, List.mem_of_getElem? h, hb⟩
theorem wrong_true {p : Int} {b : Wb} (h : ¬ (0 ≤ b.live ∧ b.live ≤ b.used ∧ b.used ≤ p ∧ 0 ≤ b.worn ∧ b.worn ≤ 1099511627776)) : wrongE p b = true := by
  unfold wrongE
  cases hr : rightE p b with
  | false => rfl
  | true => exact absurd (rightE_iff.1 hr) h
theorem wrong_false {p : Int} {b : Wb} (h : 0 ≤ b.live ∧ b.live ≤ b.used ∧ b.used ≤ p ∧ 0 ≤ b.worn ∧ b.worn ≤ 1099511627776) : wrongE p b = false := by
  unfold wrongE
  rw [rightE_iff.2 h]; rfl

set_option maxHeartbeats 4000000 in
set_option maxRecDepth 100000 in
theorem rright_any (l : List Wb) (v : Value) (p : Int) (w : World) (hR : RdW w v l) :
    Calls Try.prog 12 #[v, .int .i64 p] w fun e w' => e = .returned (.bool (rightB l p)) ∧ Below w.heap.size w w' := by
  obtain ⟨a, cap0, hv, -, -⟩ := hR.len
  obtain ⟨n, hn⟩ : ∃ n, l.length = n := ⟨_, rfl⟩
  have HE : Hid (rightB l p = (decide (1 ≤ n) && decide (n ≤ 32) && decide (1 ≤ p) && decide (p ≤ 16) && !l.any (wrongE p))) := by show _ = _; rw [← hn]; rfl
  rw [HE.out]
  rw [hn] at hv
  by_cases h1 : 1 ≤ n
  · by_cases h2 : n ≤ 32
    · by_cases h3 : 1 ≤ p
      · by_cases h4 : p ≤ 16
        · rw [decide_eq_true h1, decide_eq_true h2, decide_eq_true h3, decide_eq_true h4]
          obtain ⟨B, o, cap, hv2, -, -, hcs⟩ := hR.form (by omega)
          rw [hn] at hv2
          have HN := Lib.hid hn
          have HC : Hid (∀ W' (i : Nat) y, Below w.heap.size w W' → l[i]? = some y → W'.cell? ⟨B, o + i * 4, none⟩ = some (.int .i64 y.live) ∧ W'.cell? ⟨B, o + i * 4 + 1, none⟩ = some (.int .i64 y.used) ∧ W'.cell? ⟨B, o + i * 4 + 2, none⟩ = some (.int .i64 y.worn) ∧ W'.cell? ⟨B, o + i * 4 + 3, none⟩ = some (.bool y.bad)) := fun W' i y hb hy =>
            four_cells (fun j u hu => keep_cell (hcs j u hu) hb) hy
          subst hv2
          obtain ⟨Z, hZ⟩ : ∃ Z, Z = (true && true && true && true && !l.any (wrongE p)) := ⟨_, rfl⟩
          rw [← hZ]
          have HZ := Lib.hid hZ
          have hn63 : (n : Int) ≤ 32 := by omega
          have d1 : ((n : Int) == 0) = false := by simp; omega
          have d2 : decide ((32 : Int) < n) = false := by simp; omega
          have d3 : decide (p < 1) = false := by simp; omega
          have d4 : decide (16 < p) = false := by simp; omega
          clear hR hv hn hcs HE hZ
          go_enter Try.func12, Try.ntmps12
          go_wp2
          go_loopw [5] (fun t wr => ∃ i : Nat, i ≤ n ∧ t = .int .i64 i ∧ Hid (Clear (wrongE p) l i) ∧ Hid (Below w.heap.size w wr)) (fun t _ => n - (intOf t).toNat)
          case atStart => exact ⟨0, Nat.zero_le _, rfl, Clear.zero _ _, Below.refl _ _⟩
          case round =>
          obtain ⟨i, hi, rfl, HCL, HWR⟩ := hrel
          by_cases hlt : i < n
          · have hltI : (i : Int) < n := by omega
            have hi0 : (0 : Int) ≤ i := by omega
            obtain ⟨xi, hxi⟩ : ∃ x, l[i]? = some x := ⟨l[i]'(by rw [HN.out]; exact hlt), List.getElem?_eq_getElem _⟩
            have HV : Hid (∀ (d : Nat) (os : Array Obj), Below w.heap.size w (grow (redrawn wr d) os)) := fun d os => HWR.out.trans ((below_regrown wr d os).mono HWR.out.size)
            have c0 := fun (d : Nat) (os : Array Obj) => (HC.out (grow (redrawn wr d) os) i xi (HV.out d os) hxi).1
            have c1 := fun (d : Nat) (os : Array Obj) => (HC.out (grow (redrawn wr d) os) i xi (HV.out d os) hxi).2.1
            have c2 := fun (d : Nat) (os : Array Obj) => (HC.out (grow (redrawn wr d) os) i xi (HV.out d os) hxi).2.2.1
            have HXI := Lib.hid hxi
            clear hxi HC
            go_upto_region 6 with fail
            go_cut [71] from 22 to 71 (fun t wx => t = .bool (wrongE p xi) ∧ Hid (Below w.heap.size w wx))
            case first =>
              by_cases g1 : xi.live < 0
              · have q1 : decide (xi.live < 0) = true := decide_eq_true g1
                have HE : Hid (wrongE p xi = true) := wrong_true (by omega)
                refine wp_region_quiet_below (by kernel_rfl) (by kernel_rfl) ?_
                repeat (go_big_quiet_step (fail))
                refine wpQuiet_nil fun w9 hw9 => ?_
                have HB9 : Hid (Below w.heap.size w w9) := by
                  obtain ⟨z, rfl⟩ := hw9
                  exact HWR.out.trans ((below_regrown wr z.d z.os).mono HWR.out.size)
                clear hw9
                go_wp2
                go_meet
                exact ⟨by rw [HE.out], HB9⟩
              · have q1 : decide (xi.live < 0) = false := decide_eq_false g1
                by_cases g2 : xi.used < xi.live
                · have q2 : decide (xi.used < xi.live) = true := decide_eq_true g2
                  have HE : Hid (wrongE p xi = true) := wrong_true (by omega)
                  refine wp_region_quiet_below (by kernel_rfl) (by kernel_rfl) ?_
                  repeat (go_big_quiet_step (fail))
                  refine wpQuiet_nil fun w9 hw9 => ?_
                  have HB9 : Hid (Below w.heap.size w w9) := by
                    obtain ⟨z, rfl⟩ := hw9
                    exact HWR.out.trans ((below_regrown wr z.d z.os).mono HWR.out.size)
                  clear hw9
                  go_wp2
                  go_meet
                  exact ⟨by rw [HE.out], HB9⟩
                · have q2 : decide (xi.used < xi.live) = false := decide_eq_false g2
                  by_cases g3 : p < xi.used
                  · have q3 : decide (p < xi.used) = true := decide_eq_true g3
                    have HE : Hid (wrongE p xi = true) := wrong_true (by omega)
                    refine wp_region_quiet_below (by kernel_rfl) (by kernel_rfl) ?_
                    repeat (go_big_quiet_step (fail))
                    refine wpQuiet_nil fun w9 hw9 => ?_
                    have HB9 : Hid (Below w.heap.size w w9) := by
                      obtain ⟨z, rfl⟩ := hw9
                      exact HWR.out.trans ((below_regrown wr z.d z.os).mono HWR.out.size)
                    clear hw9
                    go_wp2
                    go_meet
                    exact ⟨by rw [HE.out], HB9⟩
                  · have q3 : decide (p < xi.used) = false := decide_eq_false g3
                    by_cases g4 : xi.worn < 0
                    · have q4 : decide (xi.worn < 0) = true := decide_eq_true g4
                      have HE : Hid (wrongE p xi = true) := wrong_true (by omega)
                      refine wp_region_quiet_below (by kernel_rfl) (by kernel_rfl) ?_
                      repeat (go_big_quiet_step (fail))
                      refine wpQuiet_nil fun w9 hw9 => ?_
                      have HB9 : Hid (Below w.heap.size w w9) := by
                        obtain ⟨z, rfl⟩ := hw9
                        exact HWR.out.trans ((below_regrown wr z.d z.os).mono HWR.out.size)
                      clear hw9
                      go_wp2
                      go_meet
                      exact ⟨by rw [HE.out], HB9⟩
                    · have q4 : decide (xi.worn < 0) = false := decide_eq_false g4
                      by_cases g5 : 1099511627776 < xi.worn
                      · have q5 : decide (1099511627776 < xi.worn) = true := decide_eq_true g5
                        have HE : Hid (wrongE p xi = true) := wrong_true (by omega)
                        refine wp_region_quiet_below (by kernel_rfl) (by kernel_rfl) ?_
                        repeat (go_big_quiet_step (fail))
                        refine wpQuiet_nil fun w9 hw9 => ?_
                        have HB9 : Hid (Below w.heap.size w w9) := by
                          obtain ⟨z, rfl⟩ := hw9
                          exact HWR.out.trans ((below_regrown wr z.d z.os).mono HWR.out.size)
                        clear hw9
                        go_wp2
                        go_meet
                        exact ⟨by rw [HE.out], HB9⟩
                      · have q5 : decide (1099511627776 < xi.worn) = false := decide_eq_false g5
                        have HE : Hid (wrongE p xi = false) := wrong_false (by omega)
                        refine wp_region_quiet_below (by kernel_rfl) (by kernel_rfl) ?_
                        repeat (go_big_quiet_step (fail))
                        refine wpQuiet_nil fun w9 hw9 => ?_
                        have HB9 : Hid (Below w.heap.size w w9) := by
                          obtain ⟨z, rfl⟩ := hw9
                          exact HWR.out.trans ((below_regrown wr z.d z.os).mono HWR.out.size)
                        clear hw9
                        go_wp2
                        go_meet
                        exact ⟨by rw [HE.out], HB9⟩
            case rest =>
            rename_i wc
            obtain ⟨rfl, HW2⟩ := hcut
            clear c0 c1 c2 HV HWR
            cases hw : wrongE p xi with
            | true =>
              have HX2 := Lib.hid hw
              go_wp2
              go_ret
              exact ⟨ret_bool (by rw [HZ.out, any_at HXI.out HX2.out]; rfl), HW2.out⟩
            | false =>
              have HX2 := Lib.hid hw
              go_wp2
              go_roundw
              case rel => exact ⟨i + 1, by omega, by go_num, HCL.out.next HXI.out HX2.out, HW2⟩
              case measure => simp [intOf]; omega
          · obtain rfl : i = n := by omega
            go_wp2
            go_ret
            exact ⟨ret_bool (by rw [HZ.out, any_clear (by rw [HN.out]; exact HCL.out)]; rfl), HWR.out⟩
        · rw [decide_eq_false h4, Bool.and_false, Bool.false_and]
          have d4 : decide (16 < p) = true := by simp; omega
          subst hv
          clear hR HE hn
          go_enter Try.func12, Try.ntmps12
          go_wp2
          go_ret
          exact ⟨rfl, Below.refl _ _⟩
      · rw [decide_eq_false h3, Bool.and_false, Bool.false_and, Bool.false_and]
        subst hv
        clear hR HE hn
        go_enter Try.func12, Try.ntmps12
        go_wp2
        go_ret
        exact ⟨rfl, Below.refl _ _⟩
    · rw [decide_eq_false h2, Bool.and_false, Bool.false_and, Bool.false_and, Bool.false_and]
      have d1 : ((n : Int) == 0) = false := by simp; omega
      subst hv
      clear hR HE hn
      go_enter Try.func12, Try.ntmps12
      go_wp2
      go_ret
      exact ⟨rfl, Below.refl _ _⟩
  · rw [decide_eq_false h1, Bool.false_and, Bool.false_and, Bool.false_and, Bool.false_and]
    obtain rfl : n = 0 := by omega
    subst hv
    clear hR HE hn
    go_enter Try.func12, Try.ntmps12
    go_wp2
    go_ret
    exact ⟨rfl, Below.refl _ _⟩
end Go.Proofs.Ytkpdkpfmljcllaa.Wear
