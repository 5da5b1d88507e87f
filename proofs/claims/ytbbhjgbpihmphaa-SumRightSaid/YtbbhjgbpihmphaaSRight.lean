/- The statement SumRight, walked: every call of it hands back true. -/
import Derived.Test.YtbbhjgbpihmphaaSumRefO
namespace Go.Proofs.Ytbbhjgbpihmphaa.sumRight
open Go.RowKit Go.Sort
attribute [local go_sem ↓] slice_bytes text_bytes eq_text ne_text

set_option maxHeartbeats 8000000 in
set_option maxRecDepth 100000 in
theorem walk_good (la lb : List UInt8) (va vb : Value) (n : Nat) (many : Int) (w : World) (hn : n < 18446744073709551616) (hA : RdB w va la) (hB : RdB w vb lb) (h1 : la.length ≤ 2000) (h2 : lb.length ≤ 2000) :
    Calls Try.prog 3 #[va, vb, .int .u64 (n : Int), .int .i64 many] w fun e w' => e = .returned (.bool true) ∧ Below w.heap.size w w' := by
  have H1 := Lib.hid (awake_any w)
  have HR := Lib.hid (And.intro hA hB)
  have HO : Hid (∀ W, RdB W vb lb → Calls Try.prog 8 #[vb] W fun e w' => ∃ v', e = .returned (.tuple #[v', .int .i64 (openL lb).2]) ∧ OwnB w' W.heap.size v' (openL lb).1 ∧ Below W.heap.size W w') := fun W h => open_any lb vb W h (by omega)
  have HQ : Hid (∀ W, RdB W vb lb → Calls Try.prog 9 #[vb] W fun e w' => ∃ v', e = .returned (.tuple #[v', .int .i64 (openL lb).2]) ∧ RdB w' v' (openL lb).1 ∧ Below W.heap.size W w') := fun W h => ropen_any lb vb W h (by omega)
  have HON : Hid (∀ W, RdB W vb lb → Calls Try.prog 12 #[.int .u32 ((ofC la : Nat) : Int), vb] W fun e w' => e = .returned (.int .u32 ((ofC (la ++ lb) : Nat) : Int)) ∧ W = w') := fun W h => by
    have := on_any (ofC la) (onC_lt _ _) lb vb W h
    rwa [show onC (ofC la) lb = ofC (la ++ lb) from onC_append (by decide) la lb] at this
  have HSE : Hid (∀ W, RdB W va la → Calls Try.prog 17 #[va] W fun e w' => ∃ v', e = .returned v' ∧ OwnB w' W.heap.size v' (la ++ sealB la) ∧ Below W.heap.size W w') := fun W h => sealed_any la va W h (by omega)
  have HRS : Hid (∀ W, RdB W va la → Calls Try.prog 18 #[va] W fun e w' => ∃ v', e = .returned v' ∧ OwnB w' W.heap.size v' (la ++ sealB la) ∧ Below W.heap.size W w') := fun W h => rsealed_any la va W h (by omega)
  have HPU := Lib.hid (fun W => put_any n many W)
  have HRP := Lib.hid (fun W => rput_any n hn many W)
  obtain ⟨E, hE⟩ : ∃ E, (openL lb).2 = E := ⟨_, rfl⟩
  obtain ⟨L, hL⟩ : ∃ L, (openL lb).1 = L := ⟨_, rfl⟩
  rw [hE, hL] at HO HQ
  obtain ⟨aa, ca, hva, -⟩ := hA.len
  obtain ⟨ab, cb, hvb, -⟩ := hB.len
  have hal : ∀ W : World, Below W.heap.size W (W.alloc (.cells #[] 5)) := fun W => (Below.refl _ _).alloc (Nat.le_refl _) _
  have hmk : ∀ W : World, OwnB (W.alloc (.cells #[] 5)) W.heap.size (.slice (some ⟨W.heap.size, 0, none⟩) 0 0) [] := fun W => World.ownsRow_made W #[] 0 (Nat.le_refl _) (Nat.zero_le _) rfl
  have HAL := Lib.hid hal
  have HMK := Lib.hid hmk
  have HLE := Lib.hid (And.intro h1 h2)
  obtain ⟨na, hna⟩ : ∃ na, la.length = na := ⟨_, rfl⟩
  obtain ⟨nb, hnb⟩ : ∃ nb, lb.length = nb := ⟨_, rfl⟩
  rw [hna] at hva h1
  rw [hnb] at hvb h2
  have h1I : ¬ (2000 : Int) < na := by omega
  have h2I : ¬ (2000 : Int) < nb := by omega
  have d1 : decide ((2000 : Int) < na) = false := by simp; omega
  have d2 : decide ((2000 : Int) < nb) = false := by simp; omega
  subst hva
  subst hvb
  clear hA hB hE hL hal hmk hna hnb h1 h2
  go_enter Try.func3, Try.ntmps3
  go_wp2_with fail
  refine H1.out.mono ?_
  rintro e w1 ⟨rfl, hb1⟩
  have B1 := Lib.hid hb1
  clear hb1
  go_wp2_with fail
  refine (HO.out _ (HR.out.2.later B1.out)).mono ?_
  rintro e w2 ⟨vx, rfl, ho, hb⟩
  have B2 := Lib.hid (B1.out.trans (hb.mono B1.out.size))
  have X2 := Lib.hid ho.rd
  clear ho hb
  go_wp2_with fail
  refine (HQ.out _ (HR.out.2.later B2.out)).mono ?_
  rintro e w3 ⟨vy, rfl, ho, hb⟩
  have B3 := Lib.hid (B2.out.trans (hb.mono B2.out.size))
  have X3 := Lib.hid (X2.out.later hb)
  have Y3 := Lib.hid ho
  clear ho hb
  have B4 := Lib.hid (B3.out.trans ((HAL.out w3).mono B3.out.size))
  have O4 := Lib.hid (And.intro (HMK.out w3) (HAL.out w3).size)
  have HN1 : Hid (([] : List UInt8).length + la.length ≤ 1000000) := by show _ ≤ _; have := HLE.out; simp; omega
  have HN2 : Hid (la.length + lb.length ≤ 1000000) := by show _ ≤ _; have := HLE.out; omega
  have STEP : Hid (∀ v5 w5, OwnB w5 w3.heap.size v5 ([] ++ la) → (w3.alloc (.cells #[] 5)).grownBy w5 (Value.slice (some ⟨w3.heap.size, 0, none⟩) 0 0).ownBlock → OwnB w5 w3.heap.size v5 la ∧ Below w3.heap.size w3 w5 ∧ Below w.heap.size w w5) := fun v5 w5 hx hy => by
    rw [List.nil_append] at hx
    have hg : Below w3.heap.size w3 w5 := (HAL.out w3).trans ((HMK.out w3).below hy (HAL.out w3).size)
    exact ⟨hx, hg, B3.out.trans (hg.mono B3.out.size)⟩
  go_wp2_with (first | (at_builtin; refine wpList_appendB rfl (.tmp 34) (.tmp 35) rfl rfl rfl O4.out.1 (HR.out.1.later B4.out) O4.out.2 HN1.out ?_; intro v5 w5 hx hy; have O5 := Lib.hid (STEP.out v5 w5 hx hy); clear hx hy) | (at_builtin; refine wpList_appendB rfl (.tmp 36) (.tmp 37) rfl rfl rfl O5.out.1 (HR.out.2.later O5.out.2.2) O5.out.2.1.size HN2.out ?_; intro v6 w6 hx hy; have O6 := Lib.hid (And.intro hx (O5.out.2.1.trans (O5.out.1.below hy O5.out.2.1.size))); clear hx hy))
  have B6 := Lib.hid (B3.out.trans (O6.out.2.mono B3.out.size))
  have R6 := Lib.hid (And.intro (HR.out.1.later B6.out) (HR.out.2.later B6.out))
  have X6 := Lib.hid (And.intro (X3.out.later O6.out.2) (Y3.out.later O6.out.2))
  refine region_slots (by kernel_rfl) (by kernel_rfl) (Gof [Gd.eq (.slice ab nb cb), Gd.eq (.int .u32 ((ofC lb : Nat) : Int)), Gd.eq (.slice ab nb cb), Gd.eq (.int .u32 ((ofC lb : Nat) : Int)), Gd.eq (.bool true), Gd.eq (.bool true), Gd.eq (.slice aa na ca), Gd.eq (.int .u32 ((ofC la : Nat) : Int)), Gd.eq (.slice ab nb cb), Gd.eq (.int .u32 ((ofC (la ++ lb) : Nat) : Int)), Gd.eq (v6), Gd.eq (.int .u32 ((ofC (la ++ lb) : Nat) : Int)), Gd.eq (.bool true), Gd.eq (.bool true), Gd.eq (.bool true), Gd.eq (.int .u64 (n : Int)), Gd.eq (.int .i64 many), Gd.rd (putL n many), Gd.eq (.string (bs (putL n many))), Gd.eq (.int .u64 (n : Int)), Gd.eq (.int .i64 many), Gd.rd (putL n many), Gd.eq (.string (bs (putL n many))), Gd.eq (.bool true), Gd.eq (.bool true), Gd.eq (.bool true), Gd.eq (.slice ab nb cb), Gd.eq (.int .u64 ((getB lb : Nat) : Int)), Gd.eq (.slice ab nb cb), Gd.eq (.int .u64 ((getB lb : Nat) : Int)), Gd.eq (.bool true), Gd.eq (.bool true), Gd.eq (.bool true), Gd.eq (.slice aa na ca), Gd.rd (la ++ sealB la), Gd.eq (.string (bs (la ++ sealB la))), Gd.eq (.slice aa na ca), Gd.rd (la ++ sealB la), Gd.eq (.string (bs (la ++ sealB la))), Gd.eq (.bool true), Gd.eq (.bool true), Gd.eq (.bool true), Gd.eq (vx), Gd.eq (.string (bs L)), Gd.eq (vy), Gd.eq (.string (bs L)), Gd.eq (.bool true), Gd.eq (.bool true), Gd.eq (.bool true), Gd.eq (.int .i64 E), Gd.eq (.int .i64 E), Gd.eq (.bool true), Gd.eq (.bool true), Gd.eq (.bool true)]) (Gof_st _) (steps_all ?_) ?_
  · dsimp only
    refine StepsFrom.cons ?s0 (StepsFrom.cons ?s1 (StepsFrom.cons ?s2 (StepsFrom.cons ?s3 (StepsFrom.cons ?s4 (StepsFrom.cons ?s5 (StepsFrom.cons ?s6 (StepsFrom.cons ?s7 (StepsFrom.cons ?s8 (StepsFrom.cons ?s9 (StepsFrom.cons ?s10 (StepsFrom.cons ?s11 (StepsFrom.cons ?s12 (StepsFrom.cons ?s13 (StepsFrom.cons ?s14 (StepsFrom.cons ?s15 (StepsFrom.cons ?s16 (StepsFrom.cons ?s17 (StepsFrom.cons ?s18 (StepsFrom.cons ?s19 (StepsFrom.cons ?s20 (StepsFrom.cons ?s21 (StepsFrom.cons ?s22 (StepsFrom.cons ?s23 (StepsFrom.cons ?s24 (StepsFrom.cons ?s25 (StepsFrom.cons ?s26 (StepsFrom.cons ?s27 (StepsFrom.cons ?s28 (StepsFrom.cons ?s29 (StepsFrom.cons ?s30 (StepsFrom.cons ?s31 (StepsFrom.cons ?s32 (StepsFrom.cons ?s33 (StepsFrom.cons ?s34 (StepsFrom.cons ?s35 (StepsFrom.cons ?s36 (StepsFrom.cons ?s37 (StepsFrom.cons ?s38 (StepsFrom.cons ?s39 (StepsFrom.cons ?s40 (StepsFrom.cons ?s41 (StepsFrom.cons ?s42 (StepsFrom.cons ?s43 (StepsFrom.cons ?s44 (StepsFrom.cons ?s45 (StepsFrom.cons ?s46 (StepsFrom.cons ?s47 (StepsFrom.cons ?s48 (StepsFrom.cons ?s49 (StepsFrom.cons ?s50 (StepsFrom.cons ?s51 (StepsFrom.cons ?s52 (StepsFrom.cons ?s53 StepsFrom.nil)))))))))))))))))))))))))))))))))))))))))))))))))))))
    case s0 =>
      intro ac wc hU
      have e1 : slot ac 1 = .slice ab nb cb := (hU.keep 1 (by kernel_rfl)).trans rfl
      refine step_val (wanted_none rfl) (run_move rfl) ?_
      show (Gd.eq (.slice ab nb cb)).p _ wc
      exact (by rw [eval_tmp]; exact e1)
    case s1 =>
      intro ac wc hU
      have e39 : (Gd.eq (.slice ab nb cb)).p (slot ac 39) wc := hU.dep 0 39 (by kernel_rfl)
      refine step_call (wanted_none rfl) (f := 10) (args := #[(.slice ab nb cb)]) ?_ ?_
      · have e39 : slot ac 39 = .slice ab nb cb := e39
        simp [execOp, resolve, invoke, eval_tmp, e39] <;> go_simp
      · refine (of_any lb _ wc (R6.out.2.later hU.below)).mono ?_
        rintro e w' ⟨rfl, rfl⟩; exact ⟨_, rfl, Below.refl _ _, rfl⟩
    case s2 =>
      intro ac wc hU
      have e1 : slot ac 1 = .slice ab nb cb := (hU.keep 1 (by kernel_rfl)).trans rfl
      refine step_val (wanted_none rfl) (run_move rfl) ?_
      show (Gd.eq (.slice ab nb cb)).p _ wc
      exact (by rw [eval_tmp]; exact e1)
    case s3 =>
      intro ac wc hU
      have e41 : (Gd.eq (.slice ab nb cb)).p (slot ac 41) wc := hU.dep 2 41 (by kernel_rfl)
      refine step_call (wanted_none rfl) (f := 11) (args := #[(.slice ab nb cb)]) ?_ ?_
      · have e41 : slot ac 41 = .slice ab nb cb := e41
        simp [execOp, resolve, invoke, eval_tmp, e41] <;> go_simp
      · refine (rof_any lb _ wc (R6.out.2.later hU.below)).mono ?_
        rintro e w' ⟨rfl, rfl⟩; exact ⟨_, rfl, Below.refl _ _, rfl⟩
    case s4 =>
      intro ac wc hU
      have e40 : (Gd.eq (.int .u32 ((ofC lb : Nat) : Int))).p (slot ac 40) wc := hU.dep 1 40 (by kernel_rfl)
      have e42 : (Gd.eq (.int .u32 ((ofC lb : Nat) : Int))).p (slot ac 42) wc := hU.dep 3 42 (by kernel_rfl)
      refine step_val (wanted_none rfl) (v := .bool true) ?_ rfl
      have e40 : slot ac 40 = .int .u32 ((ofC lb : Nat) : Int) := e40
      have e42 : slot ac 42 = .int .u32 ((ofC lb : Nat) : Int) := e42
      simp [execOp, eval_tmp, e40, e42] <;> go_simp
    case s5 =>
      intro ac wc hU
      have e43 : (Gd.eq (.bool true)).p (slot ac 43) wc := hU.dep 4 43 (by kernel_rfl)
      refine step_val (wanted_none rfl) (run_move rfl) ?_
      show (Gd.eq (.bool true)).p _ wc
      exact (by rw [eval_tmp]; exact e43)
    case s6 =>
      intro ac wc hU
      have e0 : slot ac 0 = .slice aa na ca := (hU.keep 0 (by kernel_rfl)).trans rfl
      have e44 : (Gd.eq (.bool true)).p (slot ac 44) wc := hU.dep 5 44 (by kernel_rfl)
      refine step_val ((wanted_some rfl rfl e44).trans rfl) (run_move rfl) ?_
      show (Gd.eq (.slice aa na ca)).p _ wc
      exact (by rw [eval_tmp]; exact e0)
    case s7 =>
      intro ac wc hU
      have e45 : (Gd.eq (.slice aa na ca)).p (slot ac 45) wc := hU.dep 6 45 (by kernel_rfl)
      have e44 : (Gd.eq (.bool true)).p (slot ac 44) wc := hU.dep 5 44 (by kernel_rfl)
      refine step_call ((wanted_some rfl rfl e44).trans rfl) (f := 10) (args := #[(.slice aa na ca)]) ?_ ?_
      · have e45 : slot ac 45 = .slice aa na ca := e45
        simp [execOp, resolve, invoke, eval_tmp, e45] <;> go_simp
      · refine (of_any la _ wc (R6.out.1.later hU.below)).mono ?_
        rintro e w' ⟨rfl, rfl⟩; exact ⟨_, rfl, Below.refl _ _, rfl⟩
    case s8 =>
      intro ac wc hU
      have e1 : slot ac 1 = .slice ab nb cb := (hU.keep 1 (by kernel_rfl)).trans rfl
      have e44 : (Gd.eq (.bool true)).p (slot ac 44) wc := hU.dep 5 44 (by kernel_rfl)
      refine step_val ((wanted_some rfl rfl e44).trans rfl) (run_move rfl) ?_
      show (Gd.eq (.slice ab nb cb)).p _ wc
      exact (by rw [eval_tmp]; exact e1)
    case s9 =>
      intro ac wc hU
      have e46 : (Gd.eq (.int .u32 ((ofC la : Nat) : Int))).p (slot ac 46) wc := hU.dep 7 46 (by kernel_rfl)
      have e47 : (Gd.eq (.slice ab nb cb)).p (slot ac 47) wc := hU.dep 8 47 (by kernel_rfl)
      have e44 : (Gd.eq (.bool true)).p (slot ac 44) wc := hU.dep 5 44 (by kernel_rfl)
      refine step_call ((wanted_some rfl rfl e44).trans rfl) (f := 12) (args := #[(.int .u32 ((ofC la : Nat) : Int)), (.slice ab nb cb)]) ?_ ?_
      · have e46 : slot ac 46 = .int .u32 ((ofC la : Nat) : Int) := e46
        have e47 : slot ac 47 = .slice ab nb cb := e47
        simp [execOp, resolve, invoke, eval_tmp, e46, e47] <;> go_simp
      · refine (HON.out wc (R6.out.2.later hU.below)).mono ?_
        rintro e w' ⟨rfl, rfl⟩; exact ⟨_, rfl, Below.refl _ _, rfl⟩
    case s10 =>
      intro ac wc hU
      have e13 : slot ac 13 = v6 := (hU.keep 13 (by kernel_rfl)).trans rfl
      have e44 : (Gd.eq (.bool true)).p (slot ac 44) wc := hU.dep 5 44 (by kernel_rfl)
      refine step_val ((wanted_some rfl rfl e44).trans rfl) (run_move rfl) ?_
      show (Gd.eq (v6)).p _ wc
      exact (by rw [eval_tmp]; exact e13)
    case s11 =>
      intro ac wc hU
      have e49 : (Gd.eq (v6)).p (slot ac 49) wc := hU.dep 10 49 (by kernel_rfl)
      have e44 : (Gd.eq (.bool true)).p (slot ac 44) wc := hU.dep 5 44 (by kernel_rfl)
      refine step_call ((wanted_some rfl rfl e44).trans rfl) (f := 11) (args := #[(v6)]) ?_ ?_
      · have e49 : slot ac 49 = v6 := e49
        simp [execOp, resolve, invoke, eval_tmp, e49] <;> go_simp
      · refine (rof_any (la ++ lb) _ wc (O6.out.1.rd.later hU.below)).mono ?_
        rintro e w' ⟨rfl, rfl⟩; exact ⟨_, rfl, Below.refl _ _, rfl⟩
    case s12 =>
      intro ac wc hU
      have e48 : (Gd.eq (.int .u32 ((ofC (la ++ lb) : Nat) : Int))).p (slot ac 48) wc := hU.dep 9 48 (by kernel_rfl)
      have e50 : (Gd.eq (.int .u32 ((ofC (la ++ lb) : Nat) : Int))).p (slot ac 50) wc := hU.dep 11 50 (by kernel_rfl)
      have e44 : (Gd.eq (.bool true)).p (slot ac 44) wc := hU.dep 5 44 (by kernel_rfl)
      refine step_val ((wanted_some rfl rfl e44).trans rfl) (v := .bool true) ?_ rfl
      have e48 : slot ac 48 = .int .u32 ((ofC (la ++ lb) : Nat) : Int) := e48
      have e50 : slot ac 50 = .int .u32 ((ofC (la ++ lb) : Nat) : Int) := e50
      simp [execOp, eval_tmp, e48, e50] <;> go_simp
    case s13 =>
      intro ac wc hU
      have e44 : (Gd.eq (.bool true)).p (slot ac 44) wc := hU.dep 5 44 (by kernel_rfl)
      have e51 : (Gd.eq (.bool true)).p (slot ac 51) wc := hU.dep 12 51 (by kernel_rfl)
      refine step_val (wanted_none rfl) (run_pick (b := true) rfl (by rw [eval_tmp]; exact e44)) ?_
      show (Gd.eq (.bool true)).p (if true = true then _ else _) wc
      rw [if_pos rfl]
      exact (by rw [eval_tmp]; exact e51)
    case s14 =>
      intro ac wc hU
      have e52 : (Gd.eq (.bool true)).p (slot ac 52) wc := hU.dep 13 52 (by kernel_rfl)
      refine step_val (wanted_none rfl) (run_move rfl) ?_
      show (Gd.eq (.bool true)).p _ wc
      exact (by rw [eval_tmp]; exact e52)
    case s15 =>
      intro ac wc hU
      have e2 : slot ac 2 = .int .u64 (n : Int) := (hU.keep 2 (by kernel_rfl)).trans rfl
      have e53 : (Gd.eq (.bool true)).p (slot ac 53) wc := hU.dep 14 53 (by kernel_rfl)
      refine step_val ((wanted_some rfl rfl e53).trans rfl) (run_move rfl) ?_
      show (Gd.eq (.int .u64 (n : Int))).p _ wc
      exact (by rw [eval_tmp]; exact e2)
    case s16 =>
      intro ac wc hU
      have e3 : slot ac 3 = .int .i64 many := (hU.keep 3 (by kernel_rfl)).trans rfl
      have e53 : (Gd.eq (.bool true)).p (slot ac 53) wc := hU.dep 14 53 (by kernel_rfl)
      refine step_val ((wanted_some rfl rfl e53).trans rfl) (run_move rfl) ?_
      show (Gd.eq (.int .i64 many)).p _ wc
      exact (by rw [eval_tmp]; exact e3)
    case s17 =>
      intro ac wc hU
      have e54 : (Gd.eq (.int .u64 (n : Int))).p (slot ac 54) wc := hU.dep 15 54 (by kernel_rfl)
      have e55 : (Gd.eq (.int .i64 many)).p (slot ac 55) wc := hU.dep 16 55 (by kernel_rfl)
      have e53 : (Gd.eq (.bool true)).p (slot ac 53) wc := hU.dep 14 53 (by kernel_rfl)
      refine step_call ((wanted_some rfl rfl e53).trans rfl) (f := 13) (args := #[(.int .u64 (n : Int)), (.int .i64 many)]) ?_ ?_
      · have e54 : slot ac 54 = .int .u64 (n : Int) := e54
        have e55 : slot ac 55 = .int .i64 many := e55
        simp [execOp, resolve, invoke, eval_tmp, e54, e55] <;> go_simp
      · refine (HPU.out wc).mono ?_
        rintro e w' ⟨v', rfl, ho, hb⟩; exact ⟨v', rfl, hb, ho.rd⟩
    case s18 =>
      intro ac wc hU
      have e56 : (Gd.rd (putL n many)).p (slot ac 56) wc := hU.dep 17 56 (by kernel_rfl)
      have e53 : (Gd.eq (.bool true)).p (slot ac 53) wc := hU.dep 14 53 (by kernel_rfl)
      refine step_val ((wanted_some rfl rfl e53).trans rfl) (run_conv rfl (by rw [eval_tmp]; exact run_text e56)) rfl
    case s19 =>
      intro ac wc hU
      have e2 : slot ac 2 = .int .u64 (n : Int) := (hU.keep 2 (by kernel_rfl)).trans rfl
      have e53 : (Gd.eq (.bool true)).p (slot ac 53) wc := hU.dep 14 53 (by kernel_rfl)
      refine step_val ((wanted_some rfl rfl e53).trans rfl) (run_move rfl) ?_
      show (Gd.eq (.int .u64 (n : Int))).p _ wc
      exact (by rw [eval_tmp]; exact e2)
    case s20 =>
      intro ac wc hU
      have e3 : slot ac 3 = .int .i64 many := (hU.keep 3 (by kernel_rfl)).trans rfl
      have e53 : (Gd.eq (.bool true)).p (slot ac 53) wc := hU.dep 14 53 (by kernel_rfl)
      refine step_val ((wanted_some rfl rfl e53).trans rfl) (run_move rfl) ?_
      show (Gd.eq (.int .i64 many)).p _ wc
      exact (by rw [eval_tmp]; exact e3)
    case s21 =>
      intro ac wc hU
      have e58 : (Gd.eq (.int .u64 (n : Int))).p (slot ac 58) wc := hU.dep 19 58 (by kernel_rfl)
      have e59 : (Gd.eq (.int .i64 many)).p (slot ac 59) wc := hU.dep 20 59 (by kernel_rfl)
      have e53 : (Gd.eq (.bool true)).p (slot ac 53) wc := hU.dep 14 53 (by kernel_rfl)
      refine step_call ((wanted_some rfl rfl e53).trans rfl) (f := 14) (args := #[(.int .u64 (n : Int)), (.int .i64 many)]) ?_ ?_
      · have e58 : slot ac 58 = .int .u64 (n : Int) := e58
        have e59 : slot ac 59 = .int .i64 many := e59
        simp [execOp, resolve, invoke, eval_tmp, e58, e59] <;> go_simp
      · refine (HRP.out wc).mono ?_
        rintro e w' ⟨v', rfl, ho, hb⟩; exact ⟨v', rfl, hb, ho.rd⟩
    case s22 =>
      intro ac wc hU
      have e60 : (Gd.rd (putL n many)).p (slot ac 60) wc := hU.dep 21 60 (by kernel_rfl)
      have e53 : (Gd.eq (.bool true)).p (slot ac 53) wc := hU.dep 14 53 (by kernel_rfl)
      refine step_val ((wanted_some rfl rfl e53).trans rfl) (run_conv rfl (by rw [eval_tmp]; exact run_text e60)) rfl
    case s23 =>
      intro ac wc hU
      have e57 : (Gd.eq (.string (bs (putL n many)))).p (slot ac 57) wc := hU.dep 18 57 (by kernel_rfl)
      have e61 : (Gd.eq (.string (bs (putL n many)))).p (slot ac 61) wc := hU.dep 22 61 (by kernel_rfl)
      have e53 : (Gd.eq (.bool true)).p (slot ac 53) wc := hU.dep 14 53 (by kernel_rfl)
      refine step_val ((wanted_some rfl rfl e53).trans rfl) (v := .bool true) ?_ rfl
      have e57 : slot ac 57 = .string (bs (putL n many)) := e57
      have e61 : slot ac 61 = .string (bs (putL n many)) := e61
      have tq := run_textEq (putL n many) (putL n many) wc
      rw [decide_eq_true rfl] at tq
      simp [execOp, eval_tmp, e57, e61] <;> go_simp
    case s24 =>
      intro ac wc hU
      have e53 : (Gd.eq (.bool true)).p (slot ac 53) wc := hU.dep 14 53 (by kernel_rfl)
      have e62 : (Gd.eq (.bool true)).p (slot ac 62) wc := hU.dep 23 62 (by kernel_rfl)
      refine step_val (wanted_none rfl) (run_pick (b := true) rfl (by rw [eval_tmp]; exact e53)) ?_
      show (Gd.eq (.bool true)).p (if true = true then _ else _) wc
      rw [if_pos rfl]
      exact (by rw [eval_tmp]; exact e62)
    case s25 =>
      intro ac wc hU
      have e63 : (Gd.eq (.bool true)).p (slot ac 63) wc := hU.dep 24 63 (by kernel_rfl)
      refine step_val (wanted_none rfl) (run_move rfl) ?_
      show (Gd.eq (.bool true)).p _ wc
      exact (by rw [eval_tmp]; exact e63)
    case s26 =>
      intro ac wc hU
      have e1 : slot ac 1 = .slice ab nb cb := (hU.keep 1 (by kernel_rfl)).trans rfl
      have e64 : (Gd.eq (.bool true)).p (slot ac 64) wc := hU.dep 25 64 (by kernel_rfl)
      refine step_val ((wanted_some rfl rfl e64).trans rfl) (run_move rfl) ?_
      show (Gd.eq (.slice ab nb cb)).p _ wc
      exact (by rw [eval_tmp]; exact e1)
    case s27 =>
      intro ac wc hU
      have e65 : (Gd.eq (.slice ab nb cb)).p (slot ac 65) wc := hU.dep 26 65 (by kernel_rfl)
      have e64 : (Gd.eq (.bool true)).p (slot ac 64) wc := hU.dep 25 64 (by kernel_rfl)
      refine step_call ((wanted_some rfl rfl e64).trans rfl) (f := 15) (args := #[(.slice ab nb cb)]) ?_ ?_
      · have e65 : slot ac 65 = .slice ab nb cb := e65
        simp [execOp, resolve, invoke, eval_tmp, e65] <;> go_simp
      · refine (get_any lb _ wc (R6.out.2.later hU.below)).mono ?_
        rintro e w' ⟨rfl, rfl⟩; exact ⟨_, rfl, Below.refl _ _, rfl⟩
    case s28 =>
      intro ac wc hU
      have e1 : slot ac 1 = .slice ab nb cb := (hU.keep 1 (by kernel_rfl)).trans rfl
      have e64 : (Gd.eq (.bool true)).p (slot ac 64) wc := hU.dep 25 64 (by kernel_rfl)
      refine step_val ((wanted_some rfl rfl e64).trans rfl) (run_move rfl) ?_
      show (Gd.eq (.slice ab nb cb)).p _ wc
      exact (by rw [eval_tmp]; exact e1)
    case s29 =>
      intro ac wc hU
      have e67 : (Gd.eq (.slice ab nb cb)).p (slot ac 67) wc := hU.dep 28 67 (by kernel_rfl)
      have e64 : (Gd.eq (.bool true)).p (slot ac 64) wc := hU.dep 25 64 (by kernel_rfl)
      refine step_call ((wanted_some rfl rfl e64).trans rfl) (f := 16) (args := #[(.slice ab nb cb)]) ?_ ?_
      · have e67 : slot ac 67 = .slice ab nb cb := e67
        simp [execOp, resolve, invoke, eval_tmp, e67] <;> go_simp
      · refine (rget_any lb _ wc (R6.out.2.later hU.below)).mono ?_
        rintro e w' ⟨rfl, rfl⟩; exact ⟨_, rfl, Below.refl _ _, rfl⟩
    case s30 =>
      intro ac wc hU
      have e66 : (Gd.eq (.int .u64 ((getB lb : Nat) : Int))).p (slot ac 66) wc := hU.dep 27 66 (by kernel_rfl)
      have e68 : (Gd.eq (.int .u64 ((getB lb : Nat) : Int))).p (slot ac 68) wc := hU.dep 29 68 (by kernel_rfl)
      have e64 : (Gd.eq (.bool true)).p (slot ac 64) wc := hU.dep 25 64 (by kernel_rfl)
      refine step_val ((wanted_some rfl rfl e64).trans rfl) (v := .bool true) ?_ rfl
      have e66 : slot ac 66 = .int .u64 ((getB lb : Nat) : Int) := e66
      have e68 : slot ac 68 = .int .u64 ((getB lb : Nat) : Int) := e68
      simp [execOp, eval_tmp, e66, e68] <;> go_simp
    case s31 =>
      intro ac wc hU
      have e64 : (Gd.eq (.bool true)).p (slot ac 64) wc := hU.dep 25 64 (by kernel_rfl)
      have e69 : (Gd.eq (.bool true)).p (slot ac 69) wc := hU.dep 30 69 (by kernel_rfl)
      refine step_val (wanted_none rfl) (run_pick (b := true) rfl (by rw [eval_tmp]; exact e64)) ?_
      show (Gd.eq (.bool true)).p (if true = true then _ else _) wc
      rw [if_pos rfl]
      exact (by rw [eval_tmp]; exact e69)
    case s32 =>
      intro ac wc hU
      have e70 : (Gd.eq (.bool true)).p (slot ac 70) wc := hU.dep 31 70 (by kernel_rfl)
      refine step_val (wanted_none rfl) (run_move rfl) ?_
      show (Gd.eq (.bool true)).p _ wc
      exact (by rw [eval_tmp]; exact e70)
    case s33 =>
      intro ac wc hU
      have e0 : slot ac 0 = .slice aa na ca := (hU.keep 0 (by kernel_rfl)).trans rfl
      have e71 : (Gd.eq (.bool true)).p (slot ac 71) wc := hU.dep 32 71 (by kernel_rfl)
      refine step_val ((wanted_some rfl rfl e71).trans rfl) (run_move rfl) ?_
      show (Gd.eq (.slice aa na ca)).p _ wc
      exact (by rw [eval_tmp]; exact e0)
    case s34 =>
      intro ac wc hU
      have e72 : (Gd.eq (.slice aa na ca)).p (slot ac 72) wc := hU.dep 33 72 (by kernel_rfl)
      have e71 : (Gd.eq (.bool true)).p (slot ac 71) wc := hU.dep 32 71 (by kernel_rfl)
      refine step_call ((wanted_some rfl rfl e71).trans rfl) (f := 17) (args := #[(.slice aa na ca)]) ?_ ?_
      · have e72 : slot ac 72 = .slice aa na ca := e72
        simp [execOp, resolve, invoke, eval_tmp, e72] <;> go_simp
      · refine (HSE.out wc (R6.out.1.later hU.below)).mono ?_
        rintro e w' ⟨v', rfl, ho, hb⟩; exact ⟨v', rfl, hb, ho.rd⟩
    case s35 =>
      intro ac wc hU
      have e73 : (Gd.rd (la ++ sealB la)).p (slot ac 73) wc := hU.dep 34 73 (by kernel_rfl)
      have e71 : (Gd.eq (.bool true)).p (slot ac 71) wc := hU.dep 32 71 (by kernel_rfl)
      refine step_val ((wanted_some rfl rfl e71).trans rfl) (run_conv rfl (by rw [eval_tmp]; exact run_text e73)) rfl
    case s36 =>
      intro ac wc hU
      have e0 : slot ac 0 = .slice aa na ca := (hU.keep 0 (by kernel_rfl)).trans rfl
      have e71 : (Gd.eq (.bool true)).p (slot ac 71) wc := hU.dep 32 71 (by kernel_rfl)
      refine step_val ((wanted_some rfl rfl e71).trans rfl) (run_move rfl) ?_
      show (Gd.eq (.slice aa na ca)).p _ wc
      exact (by rw [eval_tmp]; exact e0)
    case s37 =>
      intro ac wc hU
      have e75 : (Gd.eq (.slice aa na ca)).p (slot ac 75) wc := hU.dep 36 75 (by kernel_rfl)
      have e71 : (Gd.eq (.bool true)).p (slot ac 71) wc := hU.dep 32 71 (by kernel_rfl)
      refine step_call ((wanted_some rfl rfl e71).trans rfl) (f := 18) (args := #[(.slice aa na ca)]) ?_ ?_
      · have e75 : slot ac 75 = .slice aa na ca := e75
        simp [execOp, resolve, invoke, eval_tmp, e75] <;> go_simp
      · refine (HRS.out wc (R6.out.1.later hU.below)).mono ?_
        rintro e w' ⟨v', rfl, ho, hb⟩; exact ⟨v', rfl, hb, ho.rd⟩
    case s38 =>
      intro ac wc hU
      have e76 : (Gd.rd (la ++ sealB la)).p (slot ac 76) wc := hU.dep 37 76 (by kernel_rfl)
      have e71 : (Gd.eq (.bool true)).p (slot ac 71) wc := hU.dep 32 71 (by kernel_rfl)
      refine step_val ((wanted_some rfl rfl e71).trans rfl) (run_conv rfl (by rw [eval_tmp]; exact run_text e76)) rfl
    case s39 =>
      intro ac wc hU
      have e74 : (Gd.eq (.string (bs (la ++ sealB la)))).p (slot ac 74) wc := hU.dep 35 74 (by kernel_rfl)
      have e77 : (Gd.eq (.string (bs (la ++ sealB la)))).p (slot ac 77) wc := hU.dep 38 77 (by kernel_rfl)
      have e71 : (Gd.eq (.bool true)).p (slot ac 71) wc := hU.dep 32 71 (by kernel_rfl)
      refine step_val ((wanted_some rfl rfl e71).trans rfl) (v := .bool true) ?_ rfl
      have e74 : slot ac 74 = .string (bs (la ++ sealB la)) := e74
      have e77 : slot ac 77 = .string (bs (la ++ sealB la)) := e77
      have tq := run_textEq (la ++ sealB la) (la ++ sealB la) wc
      rw [decide_eq_true rfl] at tq
      simp [execOp, eval_tmp, e74, e77] <;> go_simp
    case s40 =>
      intro ac wc hU
      have e71 : (Gd.eq (.bool true)).p (slot ac 71) wc := hU.dep 32 71 (by kernel_rfl)
      have e78 : (Gd.eq (.bool true)).p (slot ac 78) wc := hU.dep 39 78 (by kernel_rfl)
      refine step_val (wanted_none rfl) (run_pick (b := true) rfl (by rw [eval_tmp]; exact e71)) ?_
      show (Gd.eq (.bool true)).p (if true = true then _ else _) wc
      rw [if_pos rfl]
      exact (by rw [eval_tmp]; exact e78)
    case s41 =>
      intro ac wc hU
      have e79 : (Gd.eq (.bool true)).p (slot ac 79) wc := hU.dep 40 79 (by kernel_rfl)
      refine step_val (wanted_none rfl) (run_move rfl) ?_
      show (Gd.eq (.bool true)).p _ wc
      exact (by rw [eval_tmp]; exact e79)
    case s42 =>
      intro ac wc hU
      have e9 : slot ac 9 = vx := (hU.keep 9 (by kernel_rfl)).trans rfl
      have e80 : (Gd.eq (.bool true)).p (slot ac 80) wc := hU.dep 41 80 (by kernel_rfl)
      refine step_val ((wanted_some rfl rfl e80).trans rfl) (run_move rfl) ?_
      show (Gd.eq (vx)).p _ wc
      exact (by rw [eval_tmp]; exact e9)
    case s43 =>
      intro ac wc hU
      have e81 : (Gd.eq (vx)).p (slot ac 81) wc := hU.dep 42 81 (by kernel_rfl)
      have e80 : (Gd.eq (.bool true)).p (slot ac 80) wc := hU.dep 41 80 (by kernel_rfl)
      refine step_val ((wanted_some rfl rfl e80).trans rfl) (run_conv rfl (by rw [eval_tmp, show slot ac 81 = _ from e81]; exact run_text (X6.out.1.later hU.below))) rfl
    case s44 =>
      intro ac wc hU
      have e11 : slot ac 11 = vy := (hU.keep 11 (by kernel_rfl)).trans rfl
      have e80 : (Gd.eq (.bool true)).p (slot ac 80) wc := hU.dep 41 80 (by kernel_rfl)
      refine step_val ((wanted_some rfl rfl e80).trans rfl) (run_move rfl) ?_
      show (Gd.eq (vy)).p _ wc
      exact (by rw [eval_tmp]; exact e11)
    case s45 =>
      intro ac wc hU
      have e83 : (Gd.eq (vy)).p (slot ac 83) wc := hU.dep 44 83 (by kernel_rfl)
      have e80 : (Gd.eq (.bool true)).p (slot ac 80) wc := hU.dep 41 80 (by kernel_rfl)
      refine step_val ((wanted_some rfl rfl e80).trans rfl) (run_conv rfl (by rw [eval_tmp, show slot ac 83 = _ from e83]; exact run_text (X6.out.2.later hU.below))) rfl
    case s46 =>
      intro ac wc hU
      have e82 : (Gd.eq (.string (bs L))).p (slot ac 82) wc := hU.dep 43 82 (by kernel_rfl)
      have e84 : (Gd.eq (.string (bs L))).p (slot ac 84) wc := hU.dep 45 84 (by kernel_rfl)
      have e80 : (Gd.eq (.bool true)).p (slot ac 80) wc := hU.dep 41 80 (by kernel_rfl)
      refine step_val ((wanted_some rfl rfl e80).trans rfl) (v := .bool true) ?_ rfl
      have e82 : slot ac 82 = .string (bs L) := e82
      have e84 : slot ac 84 = .string (bs L) := e84
      have tq := run_textEq (L) (L) wc
      rw [decide_eq_true rfl] at tq
      simp [execOp, eval_tmp, e82, e84] <;> go_simp
    case s47 =>
      intro ac wc hU
      have e80 : (Gd.eq (.bool true)).p (slot ac 80) wc := hU.dep 41 80 (by kernel_rfl)
      have e85 : (Gd.eq (.bool true)).p (slot ac 85) wc := hU.dep 46 85 (by kernel_rfl)
      refine step_val (wanted_none rfl) (run_pick (b := true) rfl (by rw [eval_tmp]; exact e80)) ?_
      show (Gd.eq (.bool true)).p (if true = true then _ else _) wc
      rw [if_pos rfl]
      exact (by rw [eval_tmp]; exact e85)
    case s48 =>
      intro ac wc hU
      have e86 : (Gd.eq (.bool true)).p (slot ac 86) wc := hU.dep 47 86 (by kernel_rfl)
      refine step_val (wanted_none rfl) (run_move rfl) ?_
      show (Gd.eq (.bool true)).p _ wc
      exact (by rw [eval_tmp]; exact e86)
    case s49 =>
      intro ac wc hU
      have e10 : slot ac 10 = .int .i64 E := (hU.keep 10 (by kernel_rfl)).trans rfl
      have e87 : (Gd.eq (.bool true)).p (slot ac 87) wc := hU.dep 48 87 (by kernel_rfl)
      refine step_val ((wanted_some rfl rfl e87).trans rfl) (run_move rfl) ?_
      show (Gd.eq (.int .i64 E)).p _ wc
      exact (by rw [eval_tmp]; exact e10)
    case s50 =>
      intro ac wc hU
      have e12 : slot ac 12 = .int .i64 E := (hU.keep 12 (by kernel_rfl)).trans rfl
      have e87 : (Gd.eq (.bool true)).p (slot ac 87) wc := hU.dep 48 87 (by kernel_rfl)
      refine step_val ((wanted_some rfl rfl e87).trans rfl) (run_move rfl) ?_
      show (Gd.eq (.int .i64 E)).p _ wc
      exact (by rw [eval_tmp]; exact e12)
    case s51 =>
      intro ac wc hU
      have e88 : (Gd.eq (.int .i64 E)).p (slot ac 88) wc := hU.dep 49 88 (by kernel_rfl)
      have e89 : (Gd.eq (.int .i64 E)).p (slot ac 89) wc := hU.dep 50 89 (by kernel_rfl)
      have e87 : (Gd.eq (.bool true)).p (slot ac 87) wc := hU.dep 48 87 (by kernel_rfl)
      refine step_val ((wanted_some rfl rfl e87).trans rfl) (v := .bool true) ?_ rfl
      have e88 : slot ac 88 = .int .i64 E := e88
      have e89 : slot ac 89 = .int .i64 E := e89
      simp [execOp, eval_tmp, e88, e89] <;> go_simp
    case s52 =>
      intro ac wc hU
      have e87 : (Gd.eq (.bool true)).p (slot ac 87) wc := hU.dep 48 87 (by kernel_rfl)
      have e90 : (Gd.eq (.bool true)).p (slot ac 90) wc := hU.dep 51 90 (by kernel_rfl)
      refine step_val (wanted_none rfl) (run_pick (b := true) rfl (by rw [eval_tmp]; exact e87)) ?_
      show (Gd.eq (.bool true)).p (if true = true then _ else _) wc
      rw [if_pos rfl]
      exact (by rw [eval_tmp]; exact e90)
    case s53 =>
      intro ac wc hU
      have e91 : (Gd.eq (.bool true)).p (slot ac 91) wc := hU.dep 52 91 (by kernel_rfl)
      refine step_val (wanted_none rfl) (run_assign rfl) ?_
      show (Gd.eq (.bool true)).p _ wc
      exact (by rw [eval_tmp]; exact e91)
  · intro ac wc hU
    have e8 : slot ac 8 = .bool true := hU.last 53 8 (by kernel_rfl)
    have hd : ac.defers = [] := hU.defers.trans rfl
    have FIN := Lib.hid (B6.out.trans (hU.below.mono B6.out.size))
    clear hU
    go_wp2
    exact ret_slot (by kernel_rfl) e8 hd ⟨rfl, FIN.out⟩

set_option maxHeartbeats 400000 in
theorem walk_no (aa ab : Option Addr) (na nb ca cb n : Nat) (many : Int) (w : World) (h : ¬ (na ≤ 2000 ∧ nb ≤ 2000)) (_h1 : na ≤ maxLen) (_h2 : nb ≤ maxLen) :
    Calls Try.prog 3 #[.slice aa na ca, .slice ab nb cb, .int .u64 (n : Int), .int .i64 many] w fun e w' => e = .returned (.bool true) ∧ Below w.heap.size w w' := by
  have H1 := Lib.hid (awake_any w)
  unfold maxLen at _h1 _h2
  by_cases h1 : na ≤ 2000
  · have h2I : (2000 : Int) < nb := by omega
    have h1I : ¬ (2000 : Int) < na := by omega
    have d1 : decide ((2000 : Int) < na) = false := by simp; omega
    have d2 : decide ((2000 : Int) < nb) = true := by simp; omega
    clear h h1
    go_enter Try.func3, Try.ntmps3
    go_wp2_with fail
    refine H1.out.mono ?_
    rintro e w1 ⟨rfl, hb1⟩
    have B1 := Lib.hid hb1
    clear hb1
    go_wp2
    go_ret
    exact ⟨rfl, B1.out⟩
  · have h1I : (2000 : Int) < na := by omega
    have d1 : decide ((2000 : Int) < na) = true := by simp; omega
    clear h h1
    go_enter Try.func3, Try.ntmps3
    go_wp2_with fail
    refine H1.out.mono ?_
    rintro e w1 ⟨rfl, hb1⟩
    have B1 := Lib.hid hb1
    clear hb1
    go_wp2
    go_ret
    exact ⟨rfl, B1.out⟩
theorem walkAll (la lb : List UInt8) (va vb : Value) (n : Nat) (many : Int) (w : World) (hn : n < 18446744073709551616) (hA : RdB w va la) (hB : RdB w vb lb) :
    Calls Try.prog 3 #[va, vb, .int .u64 (n : Int), .int .i64 many] w fun e w' => e = .returned (.bool true) ∧ Below w.heap.size w w' := by
  by_cases h : la.length ≤ 2000 ∧ lb.length ≤ 2000
  · exact walk_good la lb va vb n many w hn hA hB h.1 h.2
  · obtain ⟨aa, ca, rfl, h1, h2⟩ := hA.len
    obtain ⟨ab, cb, rfl, h3, h4⟩ := hB.len
    exact walk_no aa ab _ _ ca cb n many w h (by omega) (by omega)
end Go.Proofs.Ytbbhjgbpihmphaa.sumRight
