/- page.May and the document's May and Same: what each hands back. -/
import Derived.Test.YtjlmkhomedoolaaPageAll
import Derived.Deep.CutRange
namespace Go.Proofs.Ytjlmkhomedoolaa.Page
open Go.RowKit Go.Sort Go.Shelf

def pgC (p : Pg) (v : Value) : Array Value := #[.int .i64 p.kind, .int .i64 p.id, .int .u64 (p.gen : Int), v]
def pgV (p : Pg) (v : Value) : Value := .agg (pgC p v)
/-- A page that reads so. -/
def RdP (w : World) (u : Value) (p : Pg) : Prop := p.gen < 18446744073709551616 ∧ ∃ v, u = pgV p v ∧ RdB w v p.body
theorem RdP.later {w w' : World} {u : Value} {p : Pg} (h : RdP w u p) (hb : Below w.heap.size w w') : RdP w' u p := by
  obtain ⟨h0, v, h1, h2⟩ := h
  exact ⟨h0, v, h1, h2.later hb⟩
/-- The variable that a page is kept in. -/
theorem box_page (w : World) (p : Pg) (v : Value) :
    (w.alloc (.cells (pgC p v) 45)).cell? ⟨w.heap.size, 0, none⟩ = some (.int .i64 p.kind) ∧ (w.alloc (.cells (pgC p v) 45)).cell? ⟨w.heap.size, 1, none⟩ = some (.int .i64 p.id) ∧
    (w.alloc (.cells (pgC p v) 45)).cell? ⟨w.heap.size, 2, none⟩ = some (.int .u64 (p.gen : Int)) ∧ (w.alloc (.cells (pgC p v) 45)).cell? ⟨w.heap.size, 3, none⟩ = some v := by
  refine ⟨?_, ?_, ?_, ?_⟩ <;> (rw [World.cell?_alloc_at _ _ _ _ rfl]; rfl)
theorem calls_below {P : Program} {f : FuncId} {args : Array Value} {w : World} {v : Value} (h : Calls P f args w fun e w' => e = .returned v ∧ w = w') : Calls P f args w fun e w' => e = .returned v ∧ Below w.heap.size w w' :=
  h.mono fun e w' ⟨a, b⟩ => ⟨a, by rw [b]; exact Below.refl _ _⟩
theorem may_steps (p : Pg) (n : Int) : mayB p n = (sizedB n && (kindB p.kind && (idB p.id && (decide (p.gen < 281474976710656) && decide ((p.body.length : Int) ≤ roomI n))))) := rfl

set_option maxHeartbeats 2000000 in
set_option maxRecDepth 100000 in
theorem may_any (p : Pg) (v : Value) (n : Int) (w : World) (hR : RdB w v p.body) : Calls Try.prog 14 #[pgV p v, .int .i64 n] w fun e w' => e = .returned (.bool (mayB p n)) ∧ Below w.heap.size w w' := by
  obtain ⟨c0, c1, c2, c3⟩ := box_page w p v
  have HB : Hid (Below w.heap.size w (w.alloc (.cells (pgC p v) 45))) := (Below.refl _ _).alloc (Nat.le_refl _) _
  obtain ⟨a, cap, hv, hl1, hl2⟩ := hR.len
  unfold maxLen at hl2
  have hl3 : (p.body.length : Int) ≤ 9223372036854775807 := by omega
  have HS := may_steps p n
  obtain ⟨k, i, g, l⟩ := p
  have HZ := Lib.hid HS
  simp only at HZ hl3 hv
  unfold pgC at HB c0 c1 c2 c3
  unfold pgV pgC
  simp only at c0 c1 c2 c3 HB ⊢
  rw [HZ.out]
  obtain ⟨m, hm⟩ : ∃ m, l.length = m := ⟨_, rfl⟩
  rw [hm] at hv hl3 ⊢
  obtain ⟨W, hW⟩ : ∃ W, W = w.alloc (.cells #[.int .i64 k, .int .i64 i, .int .u64 (g : Int), v] 45) := ⟨_, rfl⟩
  have HW := Lib.hid hW
  rw [← hW] at HB c0 c1 c2 c3
  have L2 := fun d os => cell_regrown c2 d os
  have L3 := fun d os => cell_regrown c3 d os
  have HC2 := show Hid _ from L2
  have HC3 := show Hid _ from L3
  have C1 := show Hid _ from fun (d : Nat) (os : Array Obj) => Calls.regrown_of (calls_below (sized_any n (grow (redrawn W d) os)))
  have C2 := show Hid _ from fun (d : Nat) (os : Array Obj) => Calls.regrown_of (calls_below (room_any n (grow (redrawn W d) os)))
  subst hv
  clear hR hl1 hl2 HS HZ hm L2 L3 c2 c3
  go_enter Try.func14, Try.ntmps14
  go_upto_region 1 with fail
  rw [← hW]
  clear hW
  go_cut [5] from 7 to 14 (fun t wx => t = .bool (kindB k) ∧ wx = W)
  case first =>
    by_cases h1 : k = 1
    · subst h1
      go_wp2
      go_meet
      exact ⟨rfl, rfl⟩
    · have e1 : (k == 1) = false := by simp [h1]
      have HK : Hid (kindB k = (k == 2)) := by show _ = _; unfold kindB; rw [e1]; rfl
      clear h1
      go_wp2
      go_meet
      exact ⟨by rw [HK.out], rfl⟩
  case rest =>
  obtain ⟨rfl, hwc⟩ := hcut
  obtain rfl : W = wc := hwc.symm
  go_upto_region 2 with fail
  go_cut [6] from 15 to 22 (fun t wx => t = .bool (idB i) ∧ wx = W)
  case first =>
    by_cases h1 : 0 ≤ i
    · have HK : Hid (idB i = decide (i < 64)) := by show _ = _; unfold idB; rw [decide_eq_true h1]; rfl
      go_wp2
      go_meet
      exact ⟨by rw [HK.out], rfl⟩
    · have HK : Hid (idB i = false) := by show _ = _; unfold idB; rw [decide_eq_false h1]; rfl
      go_wp2
      go_meet
      exact ⟨by rw [HK.out], rfl⟩
  case rest =>
  obtain ⟨rfl, hwc⟩ := hcut
  obtain rfl : W = wc := hwc.symm
  clear c0 c1
  cases hs : sizedB n with
  | false =>
    rw [hs] at C1
    have HS := Lib.hid hs
    clear hs
    have C1 := C1.out
    have C2 := C2.out
    have L2 := HC2.out
    have L3 := HC3.out
    go_wp2_with fail
    refine wp_region_quiet_below (by kernel_rfl) (by kernel_rfl) ?_
    repeat (go_big_quiet_step (first | exact C1 _ _ | exact C2 _ _))
    refine wpQuiet_nil fun w1 hw1 => ?_
    have hb1 : Below W.heap.size W w1 := by obtain ⟨p, rfl⟩ := hw1; exact below_regrown W p.d p.os
    have HB1 := Lib.hid (HB.out.trans (hb1.mono HB.out.size))
    clear hw1 hb1 C1 C2 L2 L3
    go_wp2
    go_ret
    exact ⟨ret_bool (by rw [HS.out]; rfl), HB1.out⟩
  | true =>
    rw [hs] at C1
    have HS := Lib.hid hs
    clear hs
    cases hk : kindB k with
    | false =>
      have HK := Lib.hid hk
      clear hk
      have C1 := C1.out
      have C2 := C2.out
      have L2 := HC2.out
      have L3 := HC3.out
      go_wp2_with fail
      refine wp_region_quiet_below (by kernel_rfl) (by kernel_rfl) ?_
      repeat (go_big_quiet_step (first | exact C1 _ _ | exact C2 _ _))
      refine wpQuiet_nil fun w1 hw1 => ?_
      have hb1 : Below W.heap.size W w1 := by obtain ⟨p, rfl⟩ := hw1; exact below_regrown W p.d p.os
      have HB1 := Lib.hid (HB.out.trans (hb1.mono HB.out.size))
      clear hw1 hb1 C1 C2 L2 L3
      go_wp2
      go_ret
      exact ⟨ret_bool (by rw [HS.out, HK.out]; rfl), HB1.out⟩
    | true =>
      have HK := Lib.hid hk
      clear hk
      cases hi : idB i with
      | false =>
        have HI := Lib.hid hi
        clear hi
        have C1 := C1.out
        have C2 := C2.out
        have L2 := HC2.out
        have L3 := HC3.out
        go_wp2_with fail
        refine wp_region_quiet_below (by kernel_rfl) (by kernel_rfl) ?_
        repeat (go_big_quiet_step (first | exact C1 _ _ | exact C2 _ _))
        refine wpQuiet_nil fun w1 hw1 => ?_
        have hb1 : Below W.heap.size W w1 := by obtain ⟨p, rfl⟩ := hw1; exact below_regrown W p.d p.os
        have HB1 := Lib.hid (HB.out.trans (hb1.mono HB.out.size))
        clear hw1 hb1 C1 C2 L2 L3
        go_wp2
        go_ret
        exact ⟨ret_bool (by rw [HS.out, HK.out, HI.out]; rfl), HB1.out⟩
      | true =>
        have HI := Lib.hid hi
        clear hi
        by_cases hg : g < 281474976710656
        · have hgI : (g : Int) < 281474976710656 := by omega
          have HG := Lib.hid hg
          clear hg
          have C1 := C1.out
          have C2 := C2.out
          have L2 := HC2.out
          have L3 := HC3.out
          go_wp2_with fail
          refine wp_region_quiet_below (by kernel_rfl) (by kernel_rfl) ?_
          repeat (go_big_quiet_step (first | exact C1 _ _ | exact C2 _ _))
          refine wpQuiet_nil fun w1 hw1 => ?_
          have hb1 : Below W.heap.size W w1 := by obtain ⟨p, rfl⟩ := hw1; exact below_regrown W p.d p.os
          have HB1 := Lib.hid (HB.out.trans (hb1.mono HB.out.size))
          clear hw1 hb1 C1 C2 L2 L3
          go_wp2
          go_ret
          exact ⟨ret_bool (by rw [HS.out, HK.out, HI.out, decide_eq_true HG.out]; rfl), HB1.out⟩
        · have hgI : decide ((g : Int) < 281474976710656) = false := by simp; omega
          have HG := Lib.hid hg
          clear hg
          have C1 := C1.out
          have C2 := C2.out
          have L2 := HC2.out
          have L3 := HC3.out
          go_wp2_with fail
          refine wp_region_quiet_below (by kernel_rfl) (by kernel_rfl) ?_
          repeat (go_big_quiet_step (first | exact C1 _ _ | exact C2 _ _))
          refine wpQuiet_nil fun w1 hw1 => ?_
          have hb1 : Below W.heap.size W w1 := by obtain ⟨p, rfl⟩ := hw1; exact below_regrown W p.d p.os
          have HB1 := Lib.hid (HB.out.trans (hb1.mono HB.out.size))
          clear hw1 hb1 C1 C2 L2 L3
          go_wp2
          go_ret
          exact ⟨ret_bool (by rw [HS.out, HK.out, HI.out, decide_eq_false HG.out]; rfl), HB1.out⟩
end Go.Proofs.Ytjlmkhomedoolaa.Page
