/- slices.Grow and Concat at bytes; sum.Sealed. -/
import Derived.Test.YtjlmkhomedoolaaSumPut
import Derived.Lib.AppendZeros
namespace Go.Proofs.Ytjlmkhomedoolaa
open Go.RowKit Go.Sort
attribute [local go_sem ↓] slice_bytes

theorem slice_nil (W : World) : (bytesSlice (.slice none 0 0) none (some (.int .i64 0))).run Try.prog W = .ok (.slice none 0 0) W := by
  unfold bytesSlice
  rw [run_slice_h W 29 none 0 0 underB .i64 0 (by omega) (by omega), elemB, sizeB]
  simp [Result.andThen, sliced]
theorem slice_none (W : World) (g n c : Nat) (hc : 0 < c) : (bytesSlice (.slice (some ⟨g, 0, none⟩) n c) none (some (.int .i64 0))).run Try.prog W = .ok (.slice (some ⟨g, 0, none⟩) 0 c) W := by
  unfold bytesSlice
  rw [run_slice_h W 29 (some ⟨g, 0, none⟩) n c underB .i64 0 (by omega) (by omega), elemB, sizeB]
  have hne : ¬ c = 0 := by omega
  simp [Result.andThen, sliced, hne, Addr.add]

set_option maxHeartbeats 400000 in
theorem grow_zero (w : World) : Calls Try.prog 33 #[.slice none 0 0, .int .i64 0] w fun e w' => e = .returned (.slice none 0 0) ∧ w = w' := by
  go_enter Try.func33, Try.ntmps33
  go_wp2
  go_ret
  exact ⟨rfl, rfl⟩
set_option maxHeartbeats 400000 in
theorem grow_pos (n : Nat) (h0 : 0 < n) (hn : n ≤ 1000000) (w : World) : Calls Try.prog 33 #[.slice none 0 0, .int .i64 (n : Int)] w fun e w' => ∃ v, e = .returned v ∧ OwnB w' w.heap.size v [] ∧ Below w.heap.size w w' := by
  obtain ⟨i0, e0, e1, e2, e3⟩ := info_parts infoB
  have hr : ∃ cap w1, (∀ ty, (Builtin.append_ #[29, 3] ty #[.slice none 0 0, .int .i64 (n : Int)]).run Try.prog w = .ok (.slice (some ⟨w.heap.size, 0, none⟩) n cap) w1) ∧ 0 < cap ∧ OwnB w1 w.heap.size (.slice (some ⟨w.heap.size, 0, none⟩) 0 cap) [] ∧ Below w.heap.size w w1 := by
    have hge := grownCap_ge w n 0 5
    have hle := grownCap_le_maxLen w n 0 5 (by unfold maxLen; omega)
    refine ⟨grownCap w n 0 5, _, fun ty => Lib.run_append_nil_zeros (P := Try.prog) w 29 3 ty 5 i0 (.int .u8 0) .i64 .i64 Try.underlying29 Try.underlying3 e0 e1 n h0 (by rw [e2]; decide) (by omega) (by rw [e3]; omega), by omega, ?_, ((Below.refl _ _).drew.alloc (Nat.le_refl _) _)⟩
    refine ⟨rfl, .inr ⟨w.heap.size, _, _, rfl, Nat.le_refl _, heap_alloc_new w.drew _, Nat.zero_le _, hle, ?_, by simp [cellsB]⟩⟩
    simp only [Array.size_append, size_zeroCells]
    have hs : (Value.int IntKind.u8 0).cells.size = 1 := rfl
    rw [hs]; omega
  obtain ⟨cap, w1, hr, hc, ho, hb⟩ := hr
  have s1 := slice_nil
  have s2 := fun W => slice_none W w.heap.size n cap hc
  obtain ⟨g, hg⟩ : ∃ g, w.heap.size = g := ⟨_, rfl⟩
  rw [hg] at hr ho hb s2 ⊢
  have FIN := Lib.hid (And.intro ho hb)
  have HR := Lib.hid hr
  clear ho hb hr hg
  go_enter Try.func33, Try.ntmps33
  go_wp2_with (at_builtin; refine Lib.wpList_append_run _ rfl _ _ 29 3 rfl _ _ rfl rfl _ _ (HR.out _) ?_)
  go_ret
  exact ⟨_, rfl, FIN.out⟩
theorem grow_any (n : Nat) (hn : n ≤ 1000000) (w : World) : Calls Try.prog 33 #[.slice none 0 0, .int .i64 (n : Int)] w fun e w' => ∃ v, e = .returned v ∧ OwnB w' w.heap.size v [] ∧ Below w.heap.size w w' := by
  cases n with
  | zero =>
    refine (grow_zero w).mono ?_
    rintro e w1 ⟨rfl, rfl⟩
    exact ⟨_, rfl, OwnB.nil _ _, Below.refl _ _⟩
  | succ n => exact grow_pos (n + 1) (by omega) hn w

set_option maxHeartbeats 1000000 in
theorem concat_two (b : Nat) (v0 v1 : Value) (l0 l1 : List UInt8) (w : World) (h0 : RdB w v0 l0) (h1 : RdB w v1 l1) (c0 : w.cell? ⟨b, 0, none⟩ = some v0) (c1 : w.cell? ⟨b, 1, none⟩ = some v1) (hn : l0.length + l1.length ≤ 1000000) :
    Calls Try.prog 24 #[.slice (some ⟨b, 0, none⟩) 2 2] w fun e w' => ∃ v, e = .returned v ∧ OwnB w' w.heap.size v (l0 ++ l1) ∧ Below w.heap.size w w' := by
  have HG : Hid (Calls Try.prog 33 #[.slice none 0 0, .int .i64 ((l0.length : Int) + (l1.length : Int))] w fun e w' => ∃ v, e = .returned v ∧ OwnB w' w.heap.size v [] ∧ Below w.heap.size w w') := by
    have := grow_any (l0.length + l1.length) hn w
    rwa [Int.natCast_add] at this
  have hb : b < w.heap.size := World.block_lt_of_cell? _ _ c0
  have HR : Hid (∀ W, Below w.heap.size w W → RdB W v0 l0 ∧ RdB W v1 l1 ∧ W.cell? ⟨b, 0, none⟩ = some v0 ∧ W.cell? ⟨b, 1, none⟩ = some v1 ∧ w.heap.size ≤ W.heap.size) := fun W hW =>
    ⟨h0.later hW, h1.later hW, (hW.cell (p := ⟨b, 0, none⟩) hb).trans c0, (hW.cell (p := ⟨b, 1, none⟩) hb).trans c1, hW.size⟩
  have HN := Lib.hid hn
  obtain ⟨a0, k0, hv0, -⟩ := h0.len
  obtain ⟨a1, k1, hv1, -⟩ := h1.len
  obtain ⟨n0, hn0⟩ : ∃ n0, l0.length = n0 := ⟨_, rfl⟩
  obtain ⟨n1, hn1⟩ : ∃ n1, l1.length = n1 := ⟨_, rfl⟩
  rw [hn0] at hv0 hn HG
  rw [hn1] at hv1 hn HG
  subst hv0 hv1
  clear h0 h1 hb hn0 hn1
  obtain ⟨B, hB⟩ : ∃ B, w.heap.size = B := ⟨_, rfl⟩
  rw [hB] at HG HR ⊢
  clear hB
  go_enter Try.func24, Try.ntmps24
  go_wp2
  go_loop [3, 11] (fun t i => (i = .int .i64 0 ∧ t = .int .i64 0) ∨ (i = .int .i64 1 ∧ t = .int .i64 (n0 : Int)) ∨ (i = .int .i64 2 ∧ t = .int .i64 ((n0 : Int) + (n1 : Int)))) (fun _ i => 2 - (intOf i).toNat)
  case atStart => exact .inl ⟨rfl, rfl⟩
  case round =>
    rcases hrel with ⟨rfl, rfl⟩ | ⟨rfl, rfl⟩ | ⟨rfl, rfl⟩
    · go_wp2
      go_round
      case rel => exact .inr (.inl ⟨rfl, rfl⟩)
      case measure => simp [intOf]
    · go_wp2
      go_round
      case rel => exact .inr (.inr ⟨rfl, rfl⟩)
      case measure => simp [intOf]
    · clear c0 c1
      go_wp2_with fail
      refine HG.out.mono ?_
      rintro e w1 ⟨v, rfl, ho, hb⟩
      have HO := Lib.hid (And.intro ho hb)
      clear ho hb
      go_wp2
      go_loopw [6, 27] (fun u i wr => Below B w wr ∧ ((i = .int .i64 0 ∧ OwnB wr B u []) ∨ (i = .int .i64 1 ∧ OwnB wr B u l0) ∨ (i = .int .i64 2 ∧ OwnB wr B u (l0 ++ l1)))) (fun _ i _ => 2 - (intOf i).toNat)
      case atStart => exact ⟨HO.out.2, .inl ⟨rfl, HO.out.1⟩⟩
      case round =>
        obtain ⟨hbr, hr⟩ := hrel
        obtain ⟨r0, r1, c0, c1, hs⟩ := HR.out wr hbr
        have HBR := Lib.hid hbr
        rcases hr with ⟨rfl, ho⟩ | ⟨rfl, ho⟩ | ⟨rfl, ho⟩
        · have HW := Lib.hid (And.intro ho (And.intro r0 hs))
          clear hbr ho r0 r1 hs
          go_wp2_with (at_builtin; refine wpList_appendB rfl _ _ rfl rfl rfl HW.out.1 HW.out.2.1 HW.out.2.2 (by have := HN.out; simp; omega) ?_; intro v' w' hx hy)
          have hx' := hx
          rw [List.nil_append] at hx'
          have HX := Lib.hid (And.intro (HBR.out.trans (HW.out.1.below hy HW.out.2.2)) hx')
          clear hx hx' hy
          go_roundw
          case rel => exact ⟨HX.out.1, .inr (.inl ⟨rfl, HX.out.2⟩)⟩
          case measure => simp [intOf]
        · have HW := Lib.hid (And.intro ho (And.intro r1 hs))
          clear hbr ho r0 r1 hs
          go_wp2_with (at_builtin; refine wpList_appendB rfl _ _ rfl rfl rfl HW.out.1 HW.out.2.1 HW.out.2.2 HN.out ?_; intro v' w' hx hy)
          have HX := Lib.hid (And.intro (HBR.out.trans (HW.out.1.below hy HW.out.2.2)) hx)
          clear hx hy
          go_roundw
          case rel => exact ⟨HX.out.1, .inr (.inr ⟨rfl, HX.out.2⟩)⟩
          case measure => simp [intOf]
        · have FIN := Lib.hid (And.intro ho hbr)
          clear hbr ho r0 r1 hs
          go_wp2
          go_ret
          exact ⟨_, rfl, FIN.out⟩

set_option maxHeartbeats 1000000 in
theorem sealed_any (l : List UInt8) (v : Value) (w : World) (h : RdB w v l) (hn : l.length ≤ 900000) :
    Calls Try.prog 23 #[v] w fun e w' => ∃ v', e = .returned v' ∧ OwnB w' w.heap.size v' (l ++ sealB l) ∧ Below w.heap.size w w' := by
  have H1 := Lib.hid (seal_any l v w h)
  have HR := Lib.hid h
  have HN := Lib.hid hn
  obtain ⟨a, cap, hv, -⟩ := h.len
  subst hv
  clear h hn
  go_enter Try.func23, Try.ntmps23
  go_wp2_with fail
  refine H1.out.mono ?_
  rintro e w1 ⟨v1, rfl, ho, hb⟩
  obtain ⟨a1, cap1, hv1, -⟩ := ho.rd.len
  subst hv1
  have HO := Lib.hid (And.intro ho hb)
  clear ho hb
  have HC : Hid (Calls Try.prog 24 #[.slice (some ⟨w1.heap.size, 0, none⟩) 2 2] (w1.alloc (.cells #[.slice a l.length cap, .slice a1 (sealB l).length cap1] 29)) fun e w' => ∃ v', e = .returned v' ∧ OwnB w' w.heap.size v' (l ++ sealB l) ∧ Below w.heap.size w w') := by
    have hal : Below w1.heap.size w1 (w1.alloc (.cells #[.slice a l.length cap, .slice a1 (sealB l).length cap1] 29)) := (Below.refl _ _).alloc (Nat.le_refl _) _
    have hs := HO.out.2.size
    refine (concat_two w1.heap.size _ _ l (sealB l) _ ((HR.out.later HO.out.2).later hal) (HO.out.1.rd.later hal) (by rw [World.cell?_alloc_at _ _ _ _ rfl]; rfl) (by rw [World.cell?_alloc_at _ _ _ _ rfl]; rfl) (by have := HN.out; rw [sealB_length]; omega)).mono ?_
    rintro e w2 ⟨v2, rfl, h2, h3⟩
    have hsz : w1.heap.size ≤ (w1.alloc (.cells #[.slice a l.length cap, .slice a1 (sealB l).length cap1] 29)).heap.size := hal.size
    exact ⟨v2, rfl, h2.mono (by omega), HO.out.2.trans ((hal.mono hs).trans (h3.mono (by omega)))⟩
  go_wp2_with fail
  refine HC.out.mono ?_
  rintro e w2 ⟨v2, rfl, h2⟩
  have FIN := Lib.hid h2
  clear h2
  go_wp2
  go_ret
  exact ⟨_, rfl, FIN.out⟩
end Go.Proofs.Ytjlmkhomedoolaa
