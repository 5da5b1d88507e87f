/- The statement SumNumbers, walked: every call of it hands back true. -/
import Derived.Test.YtbbhjgbpihmphaaSumAwake
import Derived.Test.YtbbhjgbpihmphaaSumGd
namespace Go.Proofs.Ytbbhjgbpihmphaa.sumNumbers
open Go.RowKit Go.Sort
attribute [local go_sem ↓] slice_bytes text_bytes eq_text ne_text

theorem pow_byte (k : Nat) : (256 : Nat) ^ k = 2 ^ (8 * k) := by rw [Nat.pow_mul]
set_option maxHeartbeats 2000000 in
set_option maxRecDepth 100000 in
theorem walk (n m : Nat) (l : List UInt8) (v : Value) (w : World) (hn : n < 18446744073709551616) (hm : m < 256) (hR : RdB w v l) :
    Calls Try.prog 5 #[.int .u64 (n : Int), .int .u8 (m : Int), v] w fun e w' => e = .returned (.bool true) ∧ Below w.heap.size w w' := by
  obtain ⟨k, hk⟩ : ∃ k, m % 8 + 1 = k := ⟨_, rfl⟩
  have hk8 : k ≤ 8 := by omega
  have hk1 : 1 ≤ k := by omega
  have H1 := Lib.hid (awake_any w)
  have HP : Hid (∀ W, Calls Try.prog 13 #[.int .u64 (n : Int), .int .i64 (k : Int)] W fun e w' => ∃ v', e = .returned v' ∧ OwnB w' W.heap.size v' (putB n k) ∧ Below W.heap.size W w') := fun W => by
    have := put_any n k W
    unfold putL at this
    rwa [if_pos (by omega), Int.toNat_natCast] at this
  have HQ : Hid (∀ W, Calls Try.prog 13 #[.int .u64 (n : Int), .int .i64 9] W fun e w' => ∃ v', e = .returned v' ∧ OwnB w' W.heap.size v' [] ∧ Below W.heap.size W w') := fun W => by
    have := put_any n 9 W
    unfold putL at this
    rwa [if_neg (by omega)] at this
  have HG : Hid (∀ W u, RdB W u (putB n k) → Calls Try.prog 15 #[u] W fun e w' => e = .returned (.int .u64 ((n % 256 ^ k : Nat) : Int)) ∧ W = w') := fun W u h => by
    have := get_any _ u W h
    rwa [get_put n hk8] at this
  obtain ⟨r, hr⟩ : ∃ r, n % 256 ^ k = r := ⟨_, rfl⟩
  rw [hr] at HG
  have HPL := Lib.hid (putB_length n k)
  obtain ⟨a, cap, hv, hcap, hmax⟩ := hR.len
  obtain ⟨q, hq⟩ : ∃ q, min l.length 8 = q := ⟨_, rfl⟩
  obtain ⟨u, hs, ru⟩ := slice_head hR (k := q) (by omega)
  have HL := Lib.hid (show (l.take q).length = q by rw [List.length_take]; omega)
  obtain ⟨a2, cap2, hu, -⟩ := ru.len
  rw [HL.out] at hu
  have hkI : (m : Int) % 8 + 1 = (k : Int) := by omega
  have hk8I : (k : Int) ≤ 8 := by omega
  have hk1I : (1 : Int) ≤ k := by omega
  obtain ⟨N, hN⟩ : ∃ N, l.length = N := ⟨_, rfl⟩
  rw [hN] at hv hq
  have hqc : ((N : Int) ≤ 8 ∧ ∀ W, (bytesSlice v none (some (.int .i64 (N : Int)))).run Try.prog W = .ok u W) ∨ (¬ (N : Int) ≤ 8 ∧ ∀ W, (bytesSlice v none (some (.int .i64 8))).run Try.prog W = .ok u W) := by
    by_cases h : N ≤ 8
    · exact .inl ⟨by omega, fun W => hs _ W (by omega)⟩
    · exact .inr ⟨by omega, fun W => hs _ W (by omega)⟩
  have HKI := Lib.hid hkI
  subst hv
  subst hu
  have HRU := Lib.hid ru
  have hq8 : q ≤ 8 := by omega
  have HQ8 := Lib.hid hq8
  obtain ⟨l', hl'⟩ : ∃ l', l.take q = l' := ⟨_, rfl⟩
  rw [hl'] at HRU HL
  have HPQ : Hid (∀ W, Calls Try.prog 13 #[.int .u64 ((getB l' : Nat) : Int), .int .i64 (q : Int)] W fun e w' => ∃ v', e = .returned v' ∧ OwnB w' W.heap.size v' l' ∧ Below W.heap.size W w') := fun W => by
    have := put_any (getB l') q W
    unfold putL at this
    by_cases h0 : q = 0
    · rw [if_neg (by omega)] at this
      have e : l' = [] := List.length_eq_zero_iff.1 (by rw [HL.out]; exact h0)
      rw [e]; rw [e] at this; exact this
    · rw [if_pos (by omega), Int.toNat_natCast] at this
      have e := put_get (l := l') (by rw [HL.out]; exact hq8)
      rw [HL.out] at e
      rwa [e] at this
  clear hR ru hk hs hcap hmax hN hq hl' hkI
  have hcase : ((k : Int) < 8 ∧ IntKind.u64.wrap ((2 : Int) ^ (8 * k)) = ((256 ^ k : Nat) : Int)) ∨ (¬ (k : Int) < 8 ∧ r = n) := by
    by_cases h8 : k < 8
    · refine .inl ⟨by omega, ?_⟩
      have h1 : (2 : Int) ^ (8 * k) = ((256 ^ k : Nat) : Int) := by rw [pow_byte, Int.natCast_pow]; rfl
      have h2 : 256 ^ k < 18446744073709551616 := Nat.pow_lt_pow_right (a := 256) (by decide) h8
      have h3 : IntKind.u64.wrap ((256 ^ k : Nat) : Int) = ((256 ^ k : Nat) : Int) % 18446744073709551616 := by simp [IntKind.wrap, IntKind.bits, IntKind.signed]
      rw [h1, h3]
      generalize 256 ^ k = p at *
      omega
    · obtain rfl : k = 8 := by omega
      exact .inr ⟨by omega, by rw [← hr]; exact Nat.mod_eq_of_lt hn⟩
  obtain ⟨P, hP⟩ : ∃ P, 256 ^ k = P := ⟨_, rfl⟩
  have hP0 : 0 < P := by rw [← hP]; exact Nat.pow_pos (by decide)
  rw [hP] at hcase hr
  have hrem : (n : Int) % (P : Int) = (r : Int) := by rw [← hr, Int.natCast_emod]
  have hPI : ¬ ((P : Int) = 0) := by omega
  clear hP hr hP0
  rcases hcase with ⟨h8I, hwr⟩ | ⟨h8I, rfl⟩ <;> rcases hqc with ⟨hN8, hs1⟩ | ⟨hN8, hs1⟩
  all_goals
    go_enter Try.func5, Try.ntmps5
    go_wp2_with fail
    refine H1.out.mono ?_
    rintro e w1 ⟨rfl, hb1⟩
    have B1 := Lib.hid hb1
    clear hb1
    have hkI := HKI.out
    go_wp2_with fail
    refine (HP.out _).mono ?_
    rintro e w2 ⟨v2, rfl, ho, hb⟩
    have B2 := Lib.hid (B1.out.trans (hb.mono B1.out.size))
    have O2 := Lib.hid ho
    clear ho hb
    go_wp2_with fail
    refine (HG.out _ _ O2.out.rd).mono ?_
    rintro e w3 ⟨rfl, rfl⟩
    go_wp2_with fail
    refine (HP.out _).mono ?_
    rintro e w4 ⟨v4, rfl, ho, hb⟩
    have B4 := Lib.hid (B2.out.trans (hb.mono B2.out.size))
    obtain ⟨a4, c4, hv4, -⟩ := ho.rd.len
    rw [HPL.out] at hv4
    subst hv4
    clear ho hb
    go_wp2_with fail
    refine (HQ.out _).mono ?_
    rintro e w5 ⟨v5, rfl, ho, hb⟩
    have B5 := Lib.hid (B4.out.trans (hb.mono B4.out.size))
    obtain ⟨a5, c5, hv5, -⟩ := ho.rd.len
    subst hv5
    clear ho hb
    go_wp2_with fail
    have R5 := Lib.hid (HRU.out.later B5.out)
    have HPG : Hid (∀ W, Calls Try.prog 13 #[.int .u64 ((getB l' : Nat) : Int), .int .i64 (q : Int)] W fun e w' => ∃ v', e = .returned v' ∧ OwnB w' W.heap.size v' l' ∧ Below W.heap.size W w') := HPQ.out
    by_cases hq0 : q = 0
    · obtain rfl := hq0
      refine region_slots (by kernel_rfl) (by kernel_rfl) (Gof [Gd.eq (.slice a2 0 cap2), Gd.eq (.int .i64 0), Gd.eq (.bool true), Gd.eq (.bool true), Gd.any, Gd.any, Gd.any, Gd.any, Gd.any, Gd.any, Gd.any, Gd.any, Gd.any, Gd.eq (Value.bool true), Gd.eq (Value.bool true)]) (Gof_st _) (steps_all ?_) ?_
      · dsimp only
        refine StepsFrom.cons ?s0 (StepsFrom.cons ?s1 (StepsFrom.cons ?s2 (StepsFrom.cons ?s3 (StepsFrom.cons ?s4 (StepsFrom.cons ?s5 (StepsFrom.cons ?s6 (StepsFrom.cons ?s7 (StepsFrom.cons ?s8 (StepsFrom.cons ?s9 (StepsFrom.cons ?s10 (StepsFrom.cons ?s11 (StepsFrom.cons ?s12 (StepsFrom.cons ?s13 (StepsFrom.cons ?s14 StepsFrom.nil))))))))))))))
        case s0 =>
          intro a w hU
          have e2 : slot a 2 = .slice a2 0 cap2 := (hU.keep 2 (by kernel_rfl)).trans rfl
          refine step_val (wanted_none rfl) (run_move rfl) ?_
          show (Gd.eq (.slice a2 0 cap2)).p _ w
          exact (by rw [eval_tmp]; exact e2)
        case s1 =>
          intro a w hU
          have e49 : (Gd.eq (.slice a2 0 cap2)).p (slot a 49) w := hU.dep 0 49 (by kernel_rfl)
          refine step_val (wanted_none rfl) (v := .int .i64 0) ?_ rfl
          have e49 : slot a 49 = .slice a2 0 cap2 := e49
          simp [execOp, resolve, invoke, builtin, eval_tmp, e49] <;> go_simp
        case s2 =>
          intro a w hU
          have e50 : (Gd.eq (.int .i64 0)).p (slot a 50) w := hU.dep 1 50 (by kernel_rfl)
          refine step_val (wanted_none rfl) (v := .bool true) ?_ rfl
          have e50 : slot a 50 = .int .i64 0 := e50
          simp [execOp, eval_tmp, eval_const, e50] <;> go_simp
        case s3 =>
          intro a w hU
          have e51 : (Gd.eq (.bool true)).p (slot a 51) w := hU.dep 2 51 (by kernel_rfl)
          refine step_val (wanted_none rfl) (run_move rfl) ?_
          show (Gd.eq (.bool true)).p _ w
          exact (by rw [eval_tmp]; exact e51)
        case s4 =>
          intro a w hU
          have e2 : slot a 2 = .slice a2 0 cap2 := (hU.keep 2 (by kernel_rfl)).trans rfl
          have e52 : (Gd.eq (.bool true)).p (slot a 52) w := hU.dep 3 52 (by kernel_rfl)
          exact step_skip ((wanted_some rfl rfl e52).trans rfl) trivial
        case s5 =>
          intro a w hU
          have e53 : (Gd.any).p (slot a 53) w := hU.dep 4 53 (by kernel_rfl)
          have e52 : (Gd.eq (.bool true)).p (slot a 52) w := hU.dep 3 52 (by kernel_rfl)
          exact step_skip ((wanted_some rfl rfl e52).trans rfl) trivial
        case s6 =>
          intro a w hU
          have e2 : slot a 2 = .slice a2 0 cap2 := (hU.keep 2 (by kernel_rfl)).trans rfl
          have e52 : (Gd.eq (.bool true)).p (slot a 52) w := hU.dep 3 52 (by kernel_rfl)
          exact step_skip ((wanted_some rfl rfl e52).trans rfl) trivial
        case s7 =>
          intro a w hU
          have e55 : (Gd.any).p (slot a 55) w := hU.dep 6 55 (by kernel_rfl)
          have e52 : (Gd.eq (.bool true)).p (slot a 52) w := hU.dep 3 52 (by kernel_rfl)
          exact step_skip ((wanted_some rfl rfl e52).trans rfl) trivial
        case s8 =>
          intro a w hU
          have e54 : (Gd.any).p (slot a 54) w := hU.dep 5 54 (by kernel_rfl)
          have e56 : (Gd.any).p (slot a 56) w := hU.dep 7 56 (by kernel_rfl)
          have e52 : (Gd.eq (.bool true)).p (slot a 52) w := hU.dep 3 52 (by kernel_rfl)
          exact step_skip ((wanted_some rfl rfl e52).trans rfl) trivial
        case s9 =>
          intro a w hU
          have e57 : (Gd.any).p (slot a 57) w := hU.dep 8 57 (by kernel_rfl)
          have e52 : (Gd.eq (.bool true)).p (slot a 52) w := hU.dep 3 52 (by kernel_rfl)
          exact step_skip ((wanted_some rfl rfl e52).trans rfl) trivial
        case s10 =>
          intro a w hU
          have e2 : slot a 2 = .slice a2 0 cap2 := (hU.keep 2 (by kernel_rfl)).trans rfl
          have e52 : (Gd.eq (.bool true)).p (slot a 52) w := hU.dep 3 52 (by kernel_rfl)
          exact step_skip ((wanted_some rfl rfl e52).trans rfl) trivial
        case s11 =>
          intro a w hU
          have e59 : (Gd.any).p (slot a 59) w := hU.dep 10 59 (by kernel_rfl)
          have e52 : (Gd.eq (.bool true)).p (slot a 52) w := hU.dep 3 52 (by kernel_rfl)
          exact step_skip ((wanted_some rfl rfl e52).trans rfl) trivial
        case s12 =>
          intro a w hU
          have e58 : (Gd.any).p (slot a 58) w := hU.dep 9 58 (by kernel_rfl)
          have e60 : (Gd.any).p (slot a 60) w := hU.dep 11 60 (by kernel_rfl)
          have e52 : (Gd.eq (.bool true)).p (slot a 52) w := hU.dep 3 52 (by kernel_rfl)
          exact step_skip ((wanted_some rfl rfl e52).trans rfl) trivial
        case s13 =>
          intro a w hU
          have e52 : (Gd.eq (.bool true)).p (slot a 52) w := hU.dep 3 52 (by kernel_rfl)
          have e61 : (Gd.any).p (slot a 61) w := hU.dep 12 61 (by kernel_rfl)
          refine step_val (wanted_none rfl) (run_pick (b := true) rfl (by rw [eval_tmp]; exact e52)) ?_
          show (Gd.eq (Value.bool true)).p (if true = true then _ else _) w
          rw [if_pos rfl]
          exact (rfl)
        case s14 =>
          intro a w hU
          have e62 : (Gd.eq (Value.bool true)).p (slot a 62) w := hU.dep 13 62 (by kernel_rfl)
          refine step_val (wanted_none rfl) (run_assign rfl) ?_
          show (Gd.eq (Value.bool true)).p _ w
          exact (by rw [eval_tmp]; exact e62)
      · intro a w hU
        have e6 : slot a 6 = .bool true := hU.last 14 6 (by kernel_rfl)
        have hd : a.defers = [] := hU.defers.trans rfl
        have FIN := Lib.hid (B5.out.trans (hU.below.mono B5.out.size))
        clear hU
        go_wp2
        exact ret_slot (by kernel_rfl) e6 hd ⟨rfl, FIN.out⟩
    · refine region_slots (by kernel_rfl) (by kernel_rfl) (Gof [Gd.eq (.slice a2 q cap2), Gd.eq (.int .i64 (q : Int)), Gd.eq (.bool false), Gd.eq (.bool false), Gd.eq (.slice a2 q cap2), Gd.eq (.int .u64 ((getB l' : Nat) : Int)), Gd.eq (.slice a2 q cap2), Gd.eq (.int .i64 (q : Int)), Gd.rd l', Gd.eq (.string (bs l')), Gd.rd l', Gd.eq (.string (bs l')), Gd.eq (.bool true), Gd.eq (.bool true), Gd.eq (.bool true)]) (Gof_st _) (steps_all ?_) ?_
      · dsimp only
        refine StepsFrom.cons ?s0 (StepsFrom.cons ?s1 (StepsFrom.cons ?s2 (StepsFrom.cons ?s3 (StepsFrom.cons ?s4 (StepsFrom.cons ?s5 (StepsFrom.cons ?s6 (StepsFrom.cons ?s7 (StepsFrom.cons ?s8 (StepsFrom.cons ?s9 (StepsFrom.cons ?s10 (StepsFrom.cons ?s11 (StepsFrom.cons ?s12 (StepsFrom.cons ?s13 (StepsFrom.cons ?s14 StepsFrom.nil))))))))))))))
        case s0 =>
          intro a w hU
          have e2 : slot a 2 = .slice a2 q cap2 := (hU.keep 2 (by kernel_rfl)).trans rfl
          refine step_val (wanted_none rfl) (run_move rfl) ?_
          show (Gd.eq (.slice a2 q cap2)).p _ w
          exact (by rw [eval_tmp]; exact e2)
        case s1 =>
          intro a w hU
          have e49 : (Gd.eq (.slice a2 q cap2)).p (slot a 49) w := hU.dep 0 49 (by kernel_rfl)
          refine step_val (wanted_none rfl) (v := .int .i64 (q : Int)) ?_ rfl
          have e49 : slot a 49 = .slice a2 q cap2 := e49
          simp [execOp, resolve, invoke, builtin, eval_tmp, e49] <;> go_simp
        case s2 =>
          intro a w hU
          have e50 : (Gd.eq (.int .i64 (q : Int))).p (slot a 50) w := hU.dep 1 50 (by kernel_rfl)
          refine step_val (wanted_none rfl) (v := .bool false) ?_ rfl
          have e50 : slot a 50 = .int .i64 (q : Int) := e50
          simp [execOp, eval_tmp, eval_const, e50] <;> go_simp
        case s3 =>
          intro a w hU
          have e51 : (Gd.eq (.bool false)).p (slot a 51) w := hU.dep 2 51 (by kernel_rfl)
          refine step_val (wanted_none rfl) (run_move rfl) ?_
          show (Gd.eq (.bool false)).p _ w
          exact (by rw [eval_tmp]; exact e51)
        case s4 =>
          intro a w hU
          have e2 : slot a 2 = .slice a2 q cap2 := (hU.keep 2 (by kernel_rfl)).trans rfl
          have e52 : (Gd.eq (.bool false)).p (slot a 52) w := hU.dep 3 52 (by kernel_rfl)
          refine step_val ((wanted_some rfl rfl e52).trans rfl) (run_move rfl) ?_
          show (Gd.eq (.slice a2 q cap2)).p _ w
          exact (by rw [eval_tmp]; exact e2)
        case s5 =>
          intro a w hU
          have e53 : (Gd.eq (.slice a2 q cap2)).p (slot a 53) w := hU.dep 4 53 (by kernel_rfl)
          have e52 : (Gd.eq (.bool false)).p (slot a 52) w := hU.dep 3 52 (by kernel_rfl)
          refine step_call ((wanted_some rfl rfl e52).trans rfl) (f := 15) (args := #[(.slice a2 q cap2)]) ?_ ?_
          · have e53 : slot a 53 = .slice a2 q cap2 := e53
            simp [execOp, resolve, invoke, eval_tmp, e53] <;> go_simp
          · refine (get_any l' _ w (R5.out.later hU.below)).mono ?_
            rintro e w' ⟨rfl, rfl⟩; exact ⟨_, rfl, Below.refl _ _, rfl⟩
        case s6 =>
          intro a w hU
          have e2 : slot a 2 = .slice a2 q cap2 := (hU.keep 2 (by kernel_rfl)).trans rfl
          have e52 : (Gd.eq (.bool false)).p (slot a 52) w := hU.dep 3 52 (by kernel_rfl)
          refine step_val ((wanted_some rfl rfl e52).trans rfl) (run_move rfl) ?_
          show (Gd.eq (.slice a2 q cap2)).p _ w
          exact (by rw [eval_tmp]; exact e2)
        case s7 =>
          intro a w hU
          have e55 : (Gd.eq (.slice a2 q cap2)).p (slot a 55) w := hU.dep 6 55 (by kernel_rfl)
          have e52 : (Gd.eq (.bool false)).p (slot a 52) w := hU.dep 3 52 (by kernel_rfl)
          refine step_val ((wanted_some rfl rfl e52).trans rfl) (v := .int .i64 (q : Int)) ?_ rfl
          have e55 : slot a 55 = .slice a2 q cap2 := e55
          simp [execOp, resolve, invoke, builtin, eval_tmp, e55] <;> go_simp
        case s8 =>
          intro a w hU
          have e54 : (Gd.eq (.int .u64 ((getB l' : Nat) : Int))).p (slot a 54) w := hU.dep 5 54 (by kernel_rfl)
          have e56 : (Gd.eq (.int .i64 (q : Int))).p (slot a 56) w := hU.dep 7 56 (by kernel_rfl)
          have e52 : (Gd.eq (.bool false)).p (slot a 52) w := hU.dep 3 52 (by kernel_rfl)
          refine step_call ((wanted_some rfl rfl e52).trans rfl) (f := 13) (args := #[(.int .u64 ((getB l' : Nat) : Int)), (.int .i64 (q : Int))]) ?_ ?_
          · have e54 : slot a 54 = .int .u64 ((getB l' : Nat) : Int) := e54
            have e56 : slot a 56 = .int .i64 (q : Int) := e56
            simp [execOp, resolve, invoke, eval_tmp, e54, e56] <;> go_simp
          · refine (HPG.out w).mono ?_
            rintro e w' ⟨v', rfl, ho, hb⟩; exact ⟨v', rfl, hb, ho.rd⟩
        case s9 =>
          intro a w hU
          have e57 : (Gd.rd l').p (slot a 57) w := hU.dep 8 57 (by kernel_rfl)
          have e52 : (Gd.eq (.bool false)).p (slot a 52) w := hU.dep 3 52 (by kernel_rfl)
          refine step_val ((wanted_some rfl rfl e52).trans rfl) (run_conv rfl (by rw [eval_tmp]; exact run_text e57)) rfl
        case s10 =>
          intro a w hU
          have e2 : slot a 2 = .slice a2 q cap2 := (hU.keep 2 (by kernel_rfl)).trans rfl
          have e52 : (Gd.eq (.bool false)).p (slot a 52) w := hU.dep 3 52 (by kernel_rfl)
          refine step_val ((wanted_some rfl rfl e52).trans rfl) (run_move rfl) ?_
          show RdB w (a.eval (.tmp 2)) l'
          rw [eval_tmp, e2]
          exact R5.out.later hU.below
        case s11 =>
          intro a w hU
          have e59 : (Gd.rd l').p (slot a 59) w := hU.dep 10 59 (by kernel_rfl)
          have e52 : (Gd.eq (.bool false)).p (slot a 52) w := hU.dep 3 52 (by kernel_rfl)
          refine step_val ((wanted_some rfl rfl e52).trans rfl) (run_conv rfl (by rw [eval_tmp]; exact run_text e59)) rfl
        case s12 =>
          intro a w hU
          have e58 : (Gd.eq (.string (bs l'))).p (slot a 58) w := hU.dep 9 58 (by kernel_rfl)
          have e60 : (Gd.eq (.string (bs l'))).p (slot a 60) w := hU.dep 11 60 (by kernel_rfl)
          have e52 : (Gd.eq (.bool false)).p (slot a 52) w := hU.dep 3 52 (by kernel_rfl)
          refine step_val ((wanted_some rfl rfl e52).trans rfl) (v := .bool true) ?_ rfl
          have e58 : slot a 58 = .string (bs l') := e58
          have e60 : slot a 60 = .string (bs l') := e60
          have tq := run_textEq l' l' w
          rw [decide_eq_true rfl] at tq
          simp [execOp, eval_tmp, e58, e60] <;> go_simp
        case s13 =>
          intro a w hU
          have e52 : (Gd.eq (.bool false)).p (slot a 52) w := hU.dep 3 52 (by kernel_rfl)
          have e61 : (Gd.eq (.bool true)).p (slot a 61) w := hU.dep 12 61 (by kernel_rfl)
          refine step_val (wanted_none rfl) (run_pick (b := false) rfl (by rw [eval_tmp]; exact e52)) ?_
          show (Gd.eq (.bool true)).p (if false = true then _ else _) w
          rw [if_neg (by decide)]
          exact (by rw [eval_tmp]; exact e61)
        case s14 =>
          intro a w hU
          have e62 : (Gd.eq (.bool true)).p (slot a 62) w := hU.dep 13 62 (by kernel_rfl)
          refine step_val (wanted_none rfl) (run_assign rfl) ?_
          show (Gd.eq (.bool true)).p _ w
          exact (by rw [eval_tmp]; exact e62)
      · intro a w hU
        have e6 : slot a 6 = .bool true := hU.last 14 6 (by kernel_rfl)
        have hd : a.defers = [] := hU.defers.trans rfl
        have FIN := Lib.hid (B5.out.trans (hU.below.mono B5.out.size))
        clear hU
        go_wp2
        exact ret_slot (by kernel_rfl) e6 hd ⟨rfl, FIN.out⟩
end Go.Proofs.Ytbbhjgbpihmphaa.sumNumbers
