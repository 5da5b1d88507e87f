/- The document's own Sealed and Open of layer 5. -/
import Derived.Test.YtkbnffjkilpdaaaSumRef
import Derived.Test.YtkbnffjkilpdaaaSumGd
namespace Go.Proofs.Ytkbnffjkilpdaaa
open Go.RowKit Go.Sort
attribute [local go_sem ↓] slice_bytes text_bytes eq_text ne_text

set_option maxHeartbeats 1000000 in
theorem rsealed_any (l : List UInt8) (v : Value) (w : World) (h : RdB w v l) (hn : l.length ≤ 900000) :
    Calls Try.prog 22 #[v] w fun e w' => ∃ v', e = .returned v' ∧ OwnB w' w.heap.size v' (l ++ sealB l) ∧ Below w.heap.size w w' := by
  have hal : Below w.heap.size w (w.alloc (.cells #[] 5)) := (Below.refl _ _).alloc (Nat.le_refl _) _
  have ho : OwnB (w.alloc (.cells #[] 5)) w.heap.size (.slice (some ⟨w.heap.size, 0, none⟩) 0 0) [] := World.ownsRow_made w #[] 0 (Nat.le_refl _) (Nat.zero_le _) rfl
  have HW := Lib.hid (And.intro ho (And.intro (h.later hal) (And.intro hal.size hal)))
  have HR := Lib.hid h
  have HN := Lib.hid hn
  have HP : Hid (∀ W, Calls Try.prog 21 #[.int .u64 ((ofC l : Nat) : Int), .int .i64 4] W fun e w' => ∃ v', e = .returned v' ∧ OwnB w' W.heap.size v' (sealB l) ∧ Below W.heap.size W w') := fun W => by
    have := rput_any (ofC l) (Nat.lt_trans (onC_lt _ _) (by decide)) 4 W
    rw [putL_four] at this
    exact this
  have hlt : ofC l < 4294967296 := onC_lt _ _
  have HO := Lib.hid (fun W hW => rof_any l v W hW)
  have HS := Lib.hid (sealB_length l)
  obtain ⟨c, hc⟩ : ∃ c, ofC l = c := ⟨_, rfl⟩
  rw [hc] at HP hlt HO
  obtain ⟨a, cap, hv, -⟩ := h.len
  subst hv
  clear h hn hal ho hc
  go_enter Try.func22, Try.ntmps22
  go_wp2_with (at_builtin; refine wpList_appendB rfl _ _ rfl rfl rfl HW.out.1 HW.out.2.1 HW.out.2.2.1 (by have := HN.out; simp; omega) ?_; intro v' w' hx hy)
  have hx' := hx
  rw [List.nil_append] at hx'
  have H1 := Lib.hid (And.intro hx' (HW.out.2.2.2.trans (HW.out.1.below hy HW.out.2.2.1)))
  clear hx hx' hy
  go_wp2_with fail
  refine (HO.out _ (HR.out.later H1.out.2)).mono ?_
  rintro e w2 ⟨rfl, rfl⟩
  go_wp2_with fail
  refine (HP.out _).mono ?_
  rintro e w3 ⟨v3, rfl, ho, hb⟩
  have H3 := Lib.hid (And.intro (H1.out.1.later hb) (And.intro ho.rd (And.intro (Nat.le_trans H1.out.2.size hb.size) (H1.out.2.trans (hb.mono H1.out.2.size)))))
  clear ho hb
  go_wp2_with (at_builtin; refine wpList_appendB rfl _ _ rfl rfl rfl H3.out.1 H3.out.2.1 H3.out.2.2.1 (by have := HN.out; rw [HS.out]; omega) ?_; intro v4 w4 hx hy)
  have FIN := Lib.hid (And.intro hx (H3.out.2.2.2.trans (H3.out.1.below hy H3.out.2.2.1)))
  clear hx hy
  go_wp2
  go_ret
  exact ⟨_, rfl, FIN.out⟩

theorem text_split (l : List UInt8) (m : Nat) (hm : l.length = m + 4) : (l.take m ++ sealB (l.take m) = l) ↔ l.drop m = sealB (l.take m) := by
  constructor
  · intro h
    have := congrArg (List.drop m) h
    rw [List.drop_append_of_le_length (by rw [List.length_take]; omega), List.drop_eq_nil_of_le (by rw [List.length_take]; omega), List.nil_append] at this
    exact this.symm
  · intro h
    rw [← h, List.take_append_drop]
set_option maxHeartbeats 400000 in
theorem ropen_short (a : Option Addr) (n cap : Nat) (w : World) (h : n < 4) : Calls Try.prog 26 #[.slice a n cap] w fun e w' => e = .returned (.tuple #[.slice none 0 0, .int .i64 3]) ∧ w = w' := by
  have hI : (n : Int) < 4 := by omega
  go_enter Try.func26, Try.ntmps26
  go_wp2
  go_ret2
  exact ⟨rfl, rfl⟩
set_option maxHeartbeats 1000000 in
theorem ropen_long (l : List UInt8) (v : Value) (w : World) (h : RdB w v l) (h4 : 4 ≤ l.length) (hn : l.length ≤ 900000) :
    Calls Try.prog 26 #[v] w fun e w' => ∃ v', e = .returned (.tuple #[v', .int .i64 (openL l).2]) ∧ RdB w' v' (openL l).1 ∧ Below w.heap.size w w' := by
  obtain ⟨m, hm⟩ : ∃ m, l.length = m + 4 := ⟨l.length - 4, by omega⟩
  obtain ⟨u1, s1, r1⟩ := slice_head h (k := m) (by omega)
  obtain ⟨a, cap, hv, -⟩ := h.len
  subst hv
  rw [hm] at s1
  have f1 := fun W => s1 (m : Int) W rfl
  have ha : IntKind.i64.wrap (((m + 4 : Nat) : Int) - 4) = (m : Int) := by
    rw [Int.natCast_add]
    show IntKind.i64.wrap ((m : Int) + 4 - 4) = m
    rw [show (m : Int) + 4 - 4 = m by omega]
    exact IntWalk.i64_in _ (by omega)
  have ha2 := Lib.hid (show ((m + 4 : Nat) : Int) - 4 = (m : Int) by omega)
  have hd : decide (((m + 4 : Nat) : Int) < 4) = false := by simp; omega
  have hI : (4 : Int) ≤ ((m + 4 : Nat) : Int) := by omega
  have hN9 : ((m + 4 : Nat) : Int) ≤ 900000 := by omega
  have HOP : Hid (openL l = if l.take m ++ sealB (l.take m) = l then (l.take m, 0) else ([], 4)) := by
    show _ = _
    unfold openL
    rw [if_neg (by omega), hm, Nat.add_sub_cancel]
    by_cases h5 : l.take m ++ sealB (l.take m) = l
    · rw [if_pos h5, if_pos ((text_split l m hm).1 h5)]
    · rw [if_neg h5, if_neg (fun h6 => h5 ((text_split l m hm).2 h6))]
  have HS : Hid (∀ W u, RdB W u (l.take m) → Calls Try.prog 22 #[u] W fun e w' => ∃ v', e = .returned v' ∧ OwnB w' W.heap.size v' (l.take m ++ sealB (l.take m)) ∧ Below W.heap.size W w') := fun W u hu => rsealed_any _ u W hu (by rw [List.length_take]; omega)
  have HR := Lib.hid (And.intro (show RdB w (.slice a l.length cap) l from h) r1)
  rw [hm] at HR
  rw [hm]
  obtain ⟨n, hnn⟩ : ∃ n, m + 4 = n := ⟨_, rfl⟩
  rw [hnn] at f1 ha ha2 hI hN9 hd HR ⊢
  have tn := fun W => run_textNe (l.take m ++ sealB (l.take m)) l W
  obtain ⟨d, hdd⟩ : ∃ d, decide (l.take m ++ sealB (l.take m) = l) = d := ⟨_, rfl⟩
  rw [hdd] at tn
  have HDD := Lib.hid hdd
  clear s1 r1 h hnn hn h4 hm hdd
  go_enter Try.func26, Try.ntmps26
  go_wp2
  refine region_slots (by kernel_rfl) (by kernel_rfl) (Gof [Gd.eq (.slice a n cap), Gd.eq (.slice a n cap), Gd.eq (.int .i64 (n : Int)), Gd.eq (.int .i64 (m : Int)), Gd.eq (u1), Gd.rd (l.take m ++ sealB (l.take m)), Gd.eq (.string (bs (l.take m ++ sealB (l.take m)))), Gd.eq (.slice a n cap), Gd.eq (.string (bs l)), Gd.eq (.bool (!d))]) (Gof_st _) (steps_all ?_) ?_
  · dsimp only
    refine StepsFrom.cons ?s0 (StepsFrom.cons ?s1 (StepsFrom.cons ?s2 (StepsFrom.cons ?s3 (StepsFrom.cons ?s4 (StepsFrom.cons ?s5 (StepsFrom.cons ?s6 (StepsFrom.cons ?s7 (StepsFrom.cons ?s8 (StepsFrom.cons ?s9 StepsFrom.nil)))))))))
    case s0 =>
      intro ac wc hU
      have e0 : slot ac 0 = .slice a n cap := (hU.keep 0 (by kernel_rfl)).trans rfl
      refine step_val (wanted_none rfl) (run_move rfl) ?_
      show (Gd.eq (.slice a n cap)).p _ wc
      exact (by rw [eval_tmp]; exact e0)
    case s1 =>
      intro ac wc hU
      have e0 : slot ac 0 = .slice a n cap := (hU.keep 0 (by kernel_rfl)).trans rfl
      refine step_val (wanted_none rfl) (run_move rfl) ?_
      show (Gd.eq (.slice a n cap)).p _ wc
      exact (by rw [eval_tmp]; exact e0)
    case s2 =>
      intro ac wc hU
      have e8 : (Gd.eq (.slice a n cap)).p (slot ac 8) wc := hU.dep 1 8 (by kernel_rfl)
      refine step_val (wanted_none rfl) (v := .int .i64 (n : Int)) ?_ rfl
      have e8 : slot ac 8 = .slice a n cap := e8
      simp [execOp, resolve, invoke, builtin, eval_tmp, e8] <;> go_simp
    case s3 =>
      intro ac wc hU
      have e9 : (Gd.eq (.int .i64 (n : Int))).p (slot ac 9) wc := hU.dep 2 9 (by kernel_rfl)
      refine step_val (wanted_none rfl) (v := .int .i64 (m : Int)) ?_ rfl
      have e9 : slot ac 9 = .int .i64 (n : Int) := e9
      simp [execOp, eval_tmp, eval_const, e9] <;> go_simp
    case s4 =>
      intro ac wc hU
      have e7 : (Gd.eq (.slice a n cap)).p (slot ac 7) wc := hU.dep 0 7 (by kernel_rfl)
      have e10 : (Gd.eq (.int .i64 (m : Int))).p (slot ac 10) wc := hU.dep 3 10 (by kernel_rfl)
      refine step_val (wanted_none rfl) (v := u1) ?_ rfl
      have e7 : slot ac 7 = .slice a n cap := e7
      have e10 : slot ac 10 = .int .i64 (m : Int) := e10
      simp [execOp, eval_tmp, e7, e10] <;> go_simp
    case s5 =>
      intro ac wc hU
      have e11 : (Gd.eq (u1)).p (slot ac 11) wc := hU.dep 4 11 (by kernel_rfl)
      refine step_call (wanted_none rfl) (f := 22) (args := #[(u1)]) ?_ ?_
      · have e11 : slot ac 11 = u1 := e11
        simp [execOp, resolve, invoke, eval_tmp, e11] <;> go_simp
      · refine (HS.out wc u1 (HR.out.2.later hU.below)).mono ?_
        rintro e w' ⟨v', rfl, ho, hb⟩; exact ⟨v', rfl, hb, ho.rd⟩
    case s6 =>
      intro ac wc hU
      have e12 : (Gd.rd (l.take m ++ sealB (l.take m))).p (slot ac 12) wc := hU.dep 5 12 (by kernel_rfl)
      refine step_val (wanted_none rfl) (run_conv rfl (by rw [eval_tmp]; exact run_text e12)) rfl
    case s7 =>
      intro ac wc hU
      have e0 : slot ac 0 = .slice a n cap := (hU.keep 0 (by kernel_rfl)).trans rfl
      refine step_val (wanted_none rfl) (run_move rfl) ?_
      show (Gd.eq (.slice a n cap)).p _ wc
      exact (by rw [eval_tmp]; exact e0)
    case s8 =>
      intro ac wc hU
      have e14 : (Gd.eq (.slice a n cap)).p (slot ac 14) wc := hU.dep 7 14 (by kernel_rfl)
      refine step_val (wanted_none rfl) (run_conv rfl (by rw [eval_tmp, show slot ac 14 = _ from e14]; exact run_text (HR.out.1.later hU.below))) rfl
    case s9 =>
      intro ac wc hU
      have e13 : (Gd.eq (.string (bs (l.take m ++ sealB (l.take m))))).p (slot ac 13) wc := hU.dep 6 13 (by kernel_rfl)
      have e15 : (Gd.eq (.string (bs l))).p (slot ac 15) wc := hU.dep 8 15 (by kernel_rfl)
      refine step_val (wanted_none rfl) (v := .bool (!d)) ?_ rfl
      have e13 : slot ac 13 = .string (bs (l.take m ++ sealB (l.take m))) := e13
      have e15 : slot ac 15 = .string (bs l) := e15
      simp [execOp, eval_tmp, e13, e15] <;> go_simp
  · intro ac wc hU
    have hlit := act_puts hU (by kernel_rfl) [7, 8, 9, 10, 11, 12, 13, 14, 15, 16] (by kernel_rfl)
    have f7 : slot ac 7 = .slice a n cap := hU.last 0 7 (by kernel_rfl)
    have f8 : slot ac 8 = .slice a n cap := hU.last 1 8 (by kernel_rfl)
    have f9 : slot ac 9 = .int .i64 (n : Int) := hU.last 2 9 (by kernel_rfl)
    have f10 : slot ac 10 = .int .i64 (m : Int) := hU.last 3 10 (by kernel_rfl)
    have f11 : slot ac 11 = u1 := hU.last 4 11 (by kernel_rfl)
    have f12 : (Gd.rd (l.take m ++ sealB (l.take m))).p (slot ac 12) wc := hU.last 5 12 (by kernel_rfl)
    have f13 : slot ac 13 = .string (bs (l.take m ++ sealB (l.take m))) := hU.last 6 13 (by kernel_rfl)
    have f14 : slot ac 14 = .slice a n cap := hU.last 7 14 (by kernel_rfl)
    have f15 : slot ac 15 = .string (bs l) := hU.last 8 15 (by kernel_rfl)
    have f16 : slot ac 16 = .bool (!d) := hU.last 9 16 (by kernel_rfl)
    have hB := hU.below
    simp only [puts, List.foldl, Act.put, List.setIfInBounds_toArray, List.set_cons_zero, List.set_cons_succ, f7, f8, f9, f10, f11, f13, f14, f15, f16] at hlit
    rw [hlit]
    clear hlit hU f7 f8 f9 f10 f11 f13 f14 f15 f16
    have HB := Lib.hid hB
    have HR2 := Lib.hid (And.intro (HR.out.2.later hB) hB)
    have ha := ha2.out
    clear f12 hB tn
    cases d with
    | true =>
      have HV : Hid (openL l = (l.take m, 0)) := HOP.out.trans (if_pos (of_decide_eq_true HDD.out))
      go_wp2
      go_ret2
      rw [HV.out]
      exact ⟨_, rfl, HR2.out⟩
    | false =>
      have HV : Hid (openL l = ([], 4)) := HOP.out.trans (if_neg (of_decide_eq_false HDD.out))
      go_wp2
      go_ret2
      rw [HV.out]
      exact ⟨_, rfl, (OwnB.nil _ 0).rd, HB.out⟩
theorem ropen_any (l : List UInt8) (v : Value) (w : World) (h : RdB w v l) (hn : l.length ≤ 900000) :
    Calls Try.prog 26 #[v] w fun e w' => ∃ v', e = .returned (.tuple #[v', .int .i64 (openL l).2]) ∧ RdB w' v' (openL l).1 ∧ Below w.heap.size w w' := by
  by_cases h4 : l.length < 4
  · obtain ⟨a, cap, hv, -⟩ := h.len
    subst hv
    have e : openL l = ([], 3) := by unfold openL; rw [if_pos h4]
    rw [e]
    refine (ropen_short a l.length cap w h4).mono ?_
    rintro e w1 ⟨rfl, rfl⟩
    exact ⟨_, rfl, (OwnB.nil _ 0).rd, Below.refl _ _⟩
  · exact ropen_long l v w h (by omega) hn
end Go.Proofs.Ytkbnffjkilpdaaa
