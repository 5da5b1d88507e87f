/- slices.Clone, Grow and Concat at numbers. (Made of the text of bytes.) -/
import Derived.Test.YteifldppipnodaaInts
namespace Go.Proofs.Yteifldppipnodaa.Bad
open Go.RowKit Go.Sort
attribute [local go_sem ↓] slice_ints

theorem slice_nil (W : World) : (intsSlice (.slice none 0 0) none (some (.int .i64 0))).run Try.prog W = .ok (.slice none 0 0) W := by
  unfold intsSlice
  rw [run_slice_h W 23 none 0 0 underN .i64 0 (by omega) (by omega), elemN, sizeN]
  simp [Result.andThen, sliced]
theorem slice_none (W : World) (g n c : Nat) (hc : 0 < c) : (intsSlice (.slice (some ⟨g, 0, none⟩) n c) none (some (.int .i64 0))).run Try.prog W = .ok (.slice (some ⟨g, 0, none⟩) 0 c) W := by
  unfold intsSlice
  rw [run_slice_h W 23 (some ⟨g, 0, none⟩) n c underN .i64 0 (by omega) (by omega), elemN, sizeN]
  have hne : ¬ c = 0 := by omega
  simp [Result.andThen, sliced, hne, Addr.add]
set_option maxHeartbeats 400000 in
theorem grow_zero (w : World) : Calls Try.prog 22 #[.slice none 0 0, .int .i64 0] w fun e w' => e = .returned (.slice none 0 0) ∧ w = w' := by
  go_enter Try.func22, Try.ntmps22
  go_wp2
  go_ret
  exact ⟨rfl, rfl⟩
set_option maxHeartbeats 400000 in
theorem grow_pos (n : Nat) (h0 : 0 < n) (hn : n ≤ 1000000) (w : World) : Calls Try.prog 22 #[.slice none 0 0, .int .i64 (n : Int)] w fun e w' => ∃ v, e = .returned v ∧ OwnN w' w.heap.size v [] ∧ Below w.heap.size w w' := by
  obtain ⟨i0, e0, e1, e2, e3⟩ := info_parts infoN
  have hr : ∃ cap w1, (∀ ty, (Builtin.append_ #[23, 3] ty #[.slice none 0 0, .int .i64 (n : Int)]).run Try.prog w = .ok (.slice (some ⟨w.heap.size, 0, none⟩) n cap) w1) ∧ 0 < cap ∧ OwnN w1 w.heap.size (.slice (some ⟨w.heap.size, 0, none⟩) 0 cap) [] ∧ Below w.heap.size w w1 := by
    have hge := grownCap_ge w n 0 3
    have hle := grownCap_le_maxLen w n 0 3 (by unfold maxLen; omega)
    refine ⟨grownCap w n 0 3, _, fun ty => Lib.run_append_nil_zeros (P := Try.prog) w 23 3 ty 3 i0 (.int .i64 0) .i64 .i64 Try.underlying23 Try.underlying3 e0 e1 n h0 (by rw [e2]; decide) (by omega) (by rw [e3]; omega), by omega, ?_, ((Below.refl _ _).drew.alloc (Nat.le_refl _) _)⟩
    refine ⟨rfl, .inr ⟨w.heap.size, _, _, rfl, Nat.le_refl _, heap_alloc_new w.drew _, Nat.zero_le _, hle, ?_, by simp [cellsN]⟩⟩
    simp only [Array.size_append, size_zeroCells]
    have hs : (Value.int IntKind.i64 0).cells.size = 1 := rfl
    rw [hs]; omega
  obtain ⟨cap, w1, hr, hc, ho, hb⟩ := hr
  have s1 := slice_nil
  have s2 := fun W => slice_none W w.heap.size n cap hc
  obtain ⟨g, hg⟩ : ∃ g, w.heap.size = g := ⟨_, rfl⟩
  rw [hg] at hr ho hb s2 ⊢
  have FIN := Lib.hid (And.intro ho hb)
  have HR := Lib.hid hr
  clear ho hb hr hg
  go_enter Try.func22, Try.ntmps22
  go_wp2_with (at_builtin; refine Lib.wpList_append_run _ rfl _ _ 23 3 rfl _ _ rfl rfl _ _ (HR.out _) ?_)
  go_ret
  exact ⟨_, rfl, FIN.out⟩
theorem grow_any (n : Nat) (hn : n ≤ 1000000) (w : World) : Calls Try.prog 22 #[.slice none 0 0, .int .i64 (n : Int)] w fun e w' => ∃ v, e = .returned v ∧ OwnN w' w.heap.size v [] ∧ Below w.heap.size w w' := by
  cases n with
  | zero =>
    refine (grow_zero w).mono ?_
    rintro e w1 ⟨rfl, rfl⟩
    exact ⟨_, rfl, OwnN.nil _ _, Below.refl _ _⟩
  | succ n => exact grow_pos (n + 1) (by omega) hn w
set_option maxHeartbeats 1000000 in
theorem concat_two (b : Nat) (v0 v1 : Value) (l0 l1 : List Nat) (w : World) (h0 : RdN w v0 l0) (h1 : RdN w v1 l1) (c0 : w.cell? ⟨b, 0, none⟩ = some v0) (c1 : w.cell? ⟨b, 1, none⟩ = some v1) (hn : l0.length + l1.length ≤ 1000000) :
    Calls Try.prog 17 #[.slice (some ⟨b, 0, none⟩) 2 2] w fun e w' => ∃ v, e = .returned v ∧ OwnN w' w.heap.size v (l0 ++ l1) ∧ Below w.heap.size w w' := by
  have HG : Hid (Calls Try.prog 22 #[.slice none 0 0, .int .i64 ((l0.length : Int) + (l1.length : Int))] w fun e w' => ∃ v, e = .returned v ∧ OwnN w' w.heap.size v [] ∧ Below w.heap.size w w') := by
    have := grow_any (l0.length + l1.length) hn w
    rwa [Int.natCast_add] at this
  have hb : b < w.heap.size := World.block_lt_of_cell? _ _ c0
  have HR : Hid (∀ W, Below w.heap.size w W → RdN W v0 l0 ∧ RdN W v1 l1 ∧ W.cell? ⟨b, 0, none⟩ = some v0 ∧ W.cell? ⟨b, 1, none⟩ = some v1 ∧ w.heap.size ≤ W.heap.size) := fun W hW =>
    ⟨h0.later hW, h1.later hW, (hW.cell (p := ⟨b, 0, none⟩) hb).trans c0, (hW.cell (p := ⟨b, 1, none⟩) hb).trans c1, hW.size⟩
  have HN := Lib.hid hn
  obtain ⟨a0, k0, hv0, -⟩ := h0.len
  obtain ⟨a1, k1, hv1, -⟩ := h1.len
  obtain ⟨n0, hn0⟩ : ∃ n0, l0.length = n0 := ⟨_, rfl⟩
  obtain ⟨n1, hn1⟩ : ∃ n1, l1.length = n1 := ⟨_, rfl⟩
  rw [hn0] at hv0 hn HG
  rw [hn1] at hv1 hn HG
  subst hv0 hv1
  clear h0 h1 hb hn0 hn1
  obtain ⟨B, hB⟩ : ∃ B, w.heap.size = B := ⟨_, rfl⟩
  rw [hB] at HG HR ⊢
  clear hB
  go_enter Try.func17, Try.ntmps17
  go_wp2
  go_loop [3, 11] (fun t i => (i = .int .i64 0 ∧ t = .int .i64 0) ∨ (i = .int .i64 1 ∧ t = .int .i64 (n0 : Int)) ∨ (i = .int .i64 2 ∧ t = .int .i64 ((n0 : Int) + (n1 : Int)))) (fun _ i => 2 - (intOf i).toNat)
  case atStart => exact .inl ⟨rfl, rfl⟩
  case round =>
    rcases hrel with ⟨rfl, rfl⟩ | ⟨rfl, rfl⟩ | ⟨rfl, rfl⟩
    · go_wp2
      go_round
      case rel => exact .inr (.inl ⟨rfl, rfl⟩)
      case measure => simp [intOf]
    · go_wp2
      go_round
      case rel => exact .inr (.inr ⟨rfl, rfl⟩)
      case measure => simp [intOf]
    · clear c0 c1
      go_wp2_with fail
      refine HG.out.mono ?_
      rintro e w1 ⟨v, rfl, ho, hb⟩
      have HO := Lib.hid (And.intro ho hb)
      clear ho hb
      go_wp2
      go_loopw [6, 27] (fun u i wr => Below B w wr ∧ ((i = .int .i64 0 ∧ OwnN wr B u []) ∨ (i = .int .i64 1 ∧ OwnN wr B u l0) ∨ (i = .int .i64 2 ∧ OwnN wr B u (l0 ++ l1)))) (fun _ i _ => 2 - (intOf i).toNat)
      case atStart => exact ⟨HO.out.2, .inl ⟨rfl, HO.out.1⟩⟩
      case round =>
        obtain ⟨hbr, hr⟩ := hrel
        obtain ⟨r0, r1, c0, c1, hs⟩ := HR.out wr hbr
        have HBR := Lib.hid hbr
        rcases hr with ⟨rfl, ho⟩ | ⟨rfl, ho⟩ | ⟨rfl, ho⟩
        · have HW := Lib.hid (And.intro ho (And.intro r0 hs))
          clear hbr ho r0 r1 hs
          go_wp2_with (at_builtin; refine wpList_appendN rfl _ _ rfl rfl rfl HW.out.1 HW.out.2.1 HW.out.2.2 (by have := HN.out; simp; omega) ?_; intro v' w' hx hy)
          have hx' := hx
          rw [List.nil_append] at hx'
          have HX := Lib.hid (And.intro (HBR.out.trans (HW.out.1.below hy HW.out.2.2)) hx')
          clear hx hx' hy
          go_roundw
          case rel => exact ⟨HX.out.1, .inr (.inl ⟨rfl, HX.out.2⟩)⟩
          case measure => simp [intOf]
        · have HW := Lib.hid (And.intro ho (And.intro r1 hs))
          clear hbr ho r0 r1 hs
          go_wp2_with (at_builtin; refine wpList_appendN rfl _ _ rfl rfl rfl HW.out.1 HW.out.2.1 HW.out.2.2 HN.out ?_; intro v' w' hx hy)
          have HX := Lib.hid (And.intro (HBR.out.trans (HW.out.1.below hy HW.out.2.2)) hx)
          clear hx hy
          go_roundw
          case rel => exact ⟨HX.out.1, .inr (.inr ⟨rfl, HX.out.2⟩)⟩
          case measure => simp [intOf]
        · have FIN := Lib.hid (And.intro ho hbr)
          clear hbr ho r0 r1 hs
          go_wp2
          go_ret
          exact ⟨_, rfl, FIN.out⟩
set_option maxHeartbeats 400000 in
theorem clone_any (l : List Nat) (v : Value) (w : World) (h : RdN w v l) (hn : l.length ≤ 900000) : Calls Try.prog 21 #[v] w fun e w' => ∃ v', e = .returned v' ∧ OwnN w' w.heap.size v' l ∧ Below w.heap.size w w' := by
  have h0 := h
  obtain ⟨a, cap, hv, h2, h3, h4, -⟩ := h
  subst hv
  have q := fun W => Lib.run_eql_slice_nil (P := Try.prog) W 23 3 a l.length cap 0 0 Try.underlying23
  cases a with
  | none =>
    have hl : l = [] := List.length_eq_zero_iff.1 (by have := h4 rfl; omega)
    have HL := Lib.hid hl
    clear h0 h2 h3 h4 hl hn
    go_enter Try.func21, Try.ntmps21
    go_wp2
    go_ret
    exact ⟨_, rfl, by rw [HL.out]; exact OwnN.nil _ _, Below.refl _ _⟩
  | some ad =>
    have hal : Below w.heap.size w (w.alloc (.cells #[] 3)) := (Below.refl _ _).alloc (Nat.le_refl _) _
    have ho : OwnN (w.alloc (.cells #[] 3)) w.heap.size (.slice (some ⟨w.heap.size, 0, none⟩) 0 0) [] := World.ownsRow_made w #[] 0 (Nat.le_refl _) (Nat.zero_le _) rfl
    have HW := Lib.hid (And.intro ho (And.intro (h0.later hal) (And.intro hal.size (And.intro hn hal))))
    clear h0 h2 h3 h4 hn hal ho
    go_enter Try.func21, Try.ntmps21
    go_wp2_with (at_builtin; refine wpList_appendN rfl _ _ rfl rfl rfl HW.out.1 HW.out.2.1 HW.out.2.2.1 (by have := HW.out.2.2.2.1; simp; omega) ?_; intro v' w' hx hy)
    have hx' := hx
    rw [List.nil_append] at hx'
    have FIN := Lib.hid (And.intro hx' (HW.out.2.2.2.2.trans (HW.out.1.below hy HW.out.2.2.1)))
    clear hx hx' hy
    go_wp2
    go_ret
    exact ⟨_, rfl, FIN.out⟩
end Go.Proofs.Yteifldppipnodaa.Bad
