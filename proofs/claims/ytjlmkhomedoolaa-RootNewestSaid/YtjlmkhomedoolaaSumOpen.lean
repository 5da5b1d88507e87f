/- bytes.Equal and Clone at bytes; sum.Open. -/
import Derived.Test.YtjlmkhomedoolaaSumSeal
namespace Go.Proofs.Ytjlmkhomedoolaa
open Go.RowKit Go.Sort
attribute [local go_sem ↓] slice_bytes text_bytes eq_text ne_text

set_option maxHeartbeats 400000 in
theorem equal_any (l m : List UInt8) (u v : Value) (w : World) (hu : RdB w u l) (hv : RdB w v m) : Calls Try.prog 35 #[u, v] w fun e w' => e = .returned (.bool (decide (l = m))) ∧ w = w' := by
  have t1 := run_text hu
  have t2 := run_text hv
  have e := run_textEq l m w
  generalize decide (l = m) = d at *
  clear hu hv
  go_enter Try.func35, Try.ntmps35
  go_wp2
  go_ret
  exact ⟨rfl, rfl⟩

set_option maxHeartbeats 400000 in
theorem clone_any (l : List UInt8) (v : Value) (w : World) (h : RdB w v l) (hn : l.length ≤ 900000) : Calls Try.prog 36 #[v] w fun e w' => ∃ v', e = .returned v' ∧ OwnB w' w.heap.size v' l ∧ Below w.heap.size w w' := by
  have h0 := h
  obtain ⟨a, cap, hv, h2, h3, h4, -⟩ := h
  subst hv
  have q := fun W => Lib.run_eql_slice_nil (P := Try.prog) W 29 5 a l.length cap 0 0 Try.underlying29
  cases a with
  | none =>
    have hl : l = [] := List.length_eq_zero_iff.1 (by have := h4 rfl; omega)
    have HL := Lib.hid hl
    clear h0 h2 h3 h4 hl hn
    go_enter Try.func36, Try.ntmps36
    go_wp2
    go_ret
    exact ⟨_, rfl, by rw [HL.out]; exact OwnB.nil _ _, Below.refl _ _⟩
  | some ad =>
    have hal : Below w.heap.size w (w.alloc (.cells #[] 5)) := (Below.refl _ _).alloc (Nat.le_refl _) _
    have ho : OwnB (w.alloc (.cells #[] 5)) w.heap.size (.slice (some ⟨w.heap.size, 0, none⟩) 0 0) [] := World.ownsRow_made w #[] 0 (Nat.le_refl _) (Nat.zero_le _) rfl
    have HW := Lib.hid (And.intro ho (And.intro (h0.later hal) (And.intro hal.size (And.intro hn hal))))
    clear h0 h2 h3 h4 hn hal ho
    go_enter Try.func36, Try.ntmps36
    go_wp2_with (at_builtin; refine wpList_appendB rfl _ _ rfl rfl rfl HW.out.1 HW.out.2.1 HW.out.2.2.1 (by have := HW.out.2.2.2.1; simp; omega) ?_; intro v' w' hx hy)
    have hx' := hx
    rw [List.nil_append] at hx'
    have FIN := Lib.hid (And.intro hx' (HW.out.2.2.2.2.trans (HW.out.1.below hy HW.out.2.2.1)))
    clear hx hx' hy
    go_wp2
    go_ret
    exact ⟨_, rfl, FIN.out⟩

set_option maxHeartbeats 400000 in
theorem open_short (a : Option Addr) (n cap : Nat) (w : World) (h : n < 4) : Calls Try.prog 29 #[.slice a n cap] w fun e w' => e = .returned (.tuple #[.slice none 0 0, .int .i64 3]) ∧ w = w' := by
  have hI : (n : Int) < 4 := by omega
  go_enter Try.func29, Try.ntmps29
  go_wp2
  go_ret2
  exact ⟨rfl, rfl⟩
set_option maxHeartbeats 1000000 in
theorem open_long (l : List UInt8) (v : Value) (w : World) (h : RdB w v l) (h4 : 4 ≤ l.length) (hn : l.length ≤ 900000) :
    Calls Try.prog 29 #[v] w fun e w' => ∃ v', e = .returned (.tuple #[v', .int .i64 (openL l).2]) ∧ OwnB w' w.heap.size v' (openL l).1 ∧ Below w.heap.size w w' := by
  obtain ⟨m, hm⟩ : ∃ m, l.length = m + 4 := ⟨l.length - 4, by omega⟩
  obtain ⟨u1, s1, r1⟩ := slice_head h (k := m) (by omega)
  obtain ⟨u2, s2, r2⟩ := slice_tail h (k := m) (by omega)
  obtain ⟨a, cap, hv, -⟩ := h.len
  subst hv
  rw [hm] at s1 s2
  have f1 := fun W => s1 (m : Int) W rfl
  have f2 := fun W => s2 (m : Int) W rfl
  have ha : IntKind.i64.wrap (((m + 4 : Nat) : Int) - 4) = (m : Int) := by
    rw [Int.natCast_add]
    show IntKind.i64.wrap ((m : Int) + 4 - 4) = m
    rw [show (m : Int) + 4 - 4 = m by omega]
    exact IntWalk.i64_in _ (by omega)
  have hI : ¬ (((m + 4 : Nat) : Int) < 4) := by omega
  have hd : decide (((m + 4 : Nat) : Int) < 4) = false := by simp; omega
  have HN := Lib.hid hn
  have HOP : Hid (openL l = if l.drop m = sealB (l.take m) then (l.take m, 0) else ([], 4)) := by
    show _ = _
    unfold openL
    rw [if_neg (by omega), hm, Nat.add_sub_cancel]
  rw [hm]
  obtain ⟨n, hnn⟩ : ∃ n, m + 4 = n := ⟨_, rfl⟩
  rw [hnn] at f1 f2 ha hI hd ⊢
  have HR := Lib.hid (And.intro r1 r2)
  clear s1 s2 r1 r2 h hnn hn h4 hm
  go_enter Try.func29, Try.ntmps29
  go_wp2
  go_quiet (fail)
  rename_i nq
  have hq : Below w.heap.size w (w.drewN nq) := by
    exact ⟨rfl, rfl, rfl, Nat.le_refl _, fun _ _ => rfl⟩
  have HR2 := Lib.hid (And.intro (HR.out.1.later hq) (And.intro (HR.out.2.later hq) hq))
  obtain ⟨W, hW⟩ : ∃ W, w.drewN nq = W := ⟨_, rfl⟩
  rw [hW] at HR2 ⊢
  clear hq hW f1 f2 HR
  have H1 := Lib.hid (seal_any _ _ W HR2.out.1)
  go_wp2_with fail
  refine H1.out.mono ?_
  rintro e w1 ⟨v1, rfl, ho, hb⟩
  have HO := Lib.hid (And.intro ho hb)
  clear ho hb H1
  have H2 := Lib.hid (equal_any _ _ _ _ w1 (HR2.out.2.1.later HO.out.2) HO.out.1.rd)
  go_wp2_with fail
  refine H2.out.mono ?_
  rintro e w2 ⟨rfl, rfl⟩
  have HB := Lib.hid (HR2.out.2.2.trans (HO.out.2.mono HR2.out.2.2.size))
  by_cases hd : l.drop m = sealB (l.take m)
  · rw [decide_eq_true hd]
    have HV : Hid (openL l = (l.take m, 0)) := HOP.out.trans (if_pos hd)
    clear hd H2
    go_wp2_with fail
    refine (clone_any _ _ w1 (HR2.out.1.later HO.out.2) (by rw [List.length_take]; have := HN.out; omega)).mono ?_
    rintro e w2 ⟨v2, rfl, h1, h2⟩
    have FIN := Lib.hid (And.intro (h1.mono HB.out.size) (HB.out.trans (h2.mono HB.out.size)))
    clear h1 h2
    go_wp2
    go_ret2
    rw [HV.out]
    exact ⟨_, rfl, FIN.out⟩
  · rw [decide_eq_false hd]
    have HV : Hid (openL l = ([], 4)) := HOP.out.trans (if_neg hd)
    clear hd H2
    go_wp2
    go_ret2
    rw [HV.out]
    exact ⟨_, rfl, OwnB.nil _ _, HB.out⟩
theorem open_any (l : List UInt8) (v : Value) (w : World) (h : RdB w v l) (hn : l.length ≤ 900000) :
    Calls Try.prog 29 #[v] w fun e w' => ∃ v', e = .returned (.tuple #[v', .int .i64 (openL l).2]) ∧ OwnB w' w.heap.size v' (openL l).1 ∧ Below w.heap.size w w' := by
  by_cases h4 : l.length < 4
  · obtain ⟨a, cap, hv, -⟩ := h.len
    subst hv
    have e : openL l = ([], 3) := by unfold openL; rw [if_pos h4]
    rw [e]
    refine (open_short a l.length cap w h4).mono ?_
    rintro e w1 ⟨rfl, rfl⟩
    exact ⟨_, rfl, OwnB.nil _ _, Below.refl _ _⟩
  · exact open_long l v w h (by omega) hn
end Go.Proofs.Ytjlmkhomedoolaa
