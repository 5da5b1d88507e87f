/- Worlds in which one row of routes is turned: what is kept, two routes exchanged; the order of two routes; slices.swapRangeCmpFunc, rotateCmpFunc, Reverse. -/
import Derived.Test.YtcpdpcfejpbdpaaTabMem
import Derived.Test.YtcpdpcfejpbdpaaTabStab
import Derived.LoopTactic
namespace Go.Proofs.Ytcpdpcfejpbdpaa
open Go.RowKit Go.Sort Go.Shelf
attribute [local go_sem ↓] loadVar_key loadVar_pre loadVar_route storeVar_pre storeVar_route buildSlice_row

/-- W has come of w0; but for new blocks, just the row g has turned: it holds L, and what was behind it. -/
structure SW (w0 : World) (g : Nat) (rest : List Value) (L : List Rt) (W : World) : Prop where
  grown : w0.grownBy W (some g)
  row : Row W g (fl L ++ rest)

theorem SW.later {w0 W W' : World} {g : Nat} {rest : List Value} {L : List Rt} (h : SW w0 g rest L W) (hb : Below W.heap.size W W') : SW w0 g rest L W' :=
  ⟨grown_trans h.grown (grown_below hb _), h.row.later hb⟩
theorem SW.drew {w0 W : World} {g : Nat} {rest : List Value} {L : List Rt} (h : SW w0 g rest L W) : SW w0 g rest L W.drew := ⟨grown_drew h.grown, h.row⟩
theorem SW.cells {w0 W : World} {g : Nat} {rest : List Value} {L : List Rt} (h : SW w0 g rest L W) : CellsAt W ⟨g, 0, none⟩ (fl L) := fun j u hu => h.row.cells j u (by
  rw [List.getElem?_append_left (List.getElem?_eq_some_iff.1 hu).1]; exact hu)
theorem SW.load {w0 W : World} {g : Nat} {rest : List Value} {L : List Rt} (h : SW w0 g rest L W) {i : Nat} {x : Rt} (hx : L[i]? = some x) : (routeLoad ⟨g, i * 19, none⟩).run Try.prog W = .ok (.agg (rc x)) W := by
  have := run_routeLoad (h.cells.route hx)
  rw [add_here, Nat.zero_add] at this
  exact this
theorem SW.set {w0 W : World} {g : Nat} {rest : List Value} {L : List Rt} (h : SW w0 g rest L W) {i : Nat} (hi : i < L.length) (r : Rt) :
    (routeStore ⟨g, i * 19, none⟩ (.agg (rc r))).run Try.prog W = .ok () (W.setRow g (fl (L.set i r) ++ rest).toArray) ∧ SW w0 g rest (L.set i r) (W.setRow g (fl (L.set i r) ++ rest).toArray) :=
  ⟨run_routeStore_at h.row hi r, ⟨grown_trans h.grown (grown_setRow _ _ _), h.row.set _⟩⟩

/-- An exchange of two routes: the two stores, and the world behind them. -/
theorem SW.swap {w0 W : World} {g : Nat} {rest : List Value} {L : List Rt} (h : SW w0 g rest L W) {i j : Nat} (hi : i < L.length) (hj : j < L.length) (x y : Rt) :
    ∃ X Y : Array Value, (routeStore ⟨g, i * 19, none⟩ (.agg (rc y))).run Try.prog W = .ok () (W.setRow g X) ∧
      (routeStore ⟨g, j * 19, none⟩ (.agg (rc x))).run Try.prog (W.setRow g X) = .ok () ((W.setRow g X).setRow g Y) ∧ SW w0 g rest ((L.set i y).set j x) ((W.setRow g X).setRow g Y) := by
  obtain ⟨h1, h2⟩ := h.set hi y
  obtain ⟨h3, h4⟩ := h2.set (i := j) (by rw [List.length_set]; exact hj) x
  exact ⟨_, _, h1, h3, h4⟩

def ordZ (p q : Pre) : Int := if lessB p q = true then -1 else if lessB q p = true then 1 else 0

theorem rows_two' (w : World) (r s : Rt) : CellsAt ((w.alloc (.cells (rc r) 34)).alloc (.cells (rc s) 34)) ⟨w.heap.size, 0, none⟩ (rl r) ∧ CellsAt ((w.alloc (.cells (rc r) 34)).alloc (.cells (rc s) 34)) ⟨w.heap.size + 1, 0, none⟩ (rl s) ∧
    Below w.heap.size w ((w.alloc (.cells (rc r) 34)).alloc (.cells (rc s) 34)) ∧ ((w.alloc (.cells (rc r) 34)).alloc (.cells (rc s) 34)).heap.size = w.heap.size + 2 :=
  ⟨(newRoute w r).later ((Below.refl _ _).alloc (Nat.le_refl _) _), by have := newRoute (w.alloc (.cells (rc r) 34)) s; simpa using this, ((Below.refl _ _).alloc (Nat.le_refl _) _).alloc (by simp) _, by simp⟩

set_option maxHeartbeats 1000000 in
set_option maxRecDepth 100000 in
theorem order_any (r s : Rt) (w : World) :
    Calls Try.prog 39 #[.agg (rc r), .agg (rc s)] w fun e w' => e = .returned (.int .i64 (ordZ r.pre s.pre)) ∧ Below w.heap.size w w' := by
  obtain ⟨cr, cs, hb, hz⟩ := rows_two' w r s
  have T : ∀ w1, Below ((w.alloc (.cells (rc r) 34)).alloc (.cells (rc s) 34)).heap.size ((w.alloc (.cells (rc r) 34)).alloc (.cells (rc s) 34)) w1 → ((preLoad ⟨w.heap.size, 0, none⟩).run Try.prog w1 = .ok (.agg (pc r.pre)) w1 ∧ (preLoad ⟨w.heap.size + 1, 0, none⟩).run Try.prog w1 = .ok (.agg (pc s.pre)) w1) ∧ Below w.heap.size w w1 := fun w1 h =>
    ⟨⟨run_preLoadA (cr.later h).pre, run_preLoadA (cs.later h).pre⟩, hb.trans (h.mono hb.size)⟩
  obtain ⟨⟨l1, l2⟩, -⟩ := T _ (Below.refl _ _)
  have HT := Lib.hid T
  have C1 := fun w => less_any r.pre s.pre r.hk s.hk w
  have C2 := fun w => less_any s.pre r.pre s.hk r.hk w
  obtain ⟨z, hz2⟩ : ∃ z, z = ordZ r.pre s.pre := ⟨_, rfl⟩
  rw [← hz2]
  unfold ordZ at hz2
  clear T hb hz cr cs
  cases h1 : lessB r.pre s.pre with
  | true =>
    simp only [h1] at C1
    have HC1 := Lib.hid C1
    rw [h1, if_pos rfl] at hz2
    subst hz2
    clear C1 C2 h1
    go_enter Try.func39, Try.ntmps39
    go_wp2_with fail
    refine (HC1.out _).mono ?_
    rintro e w1 ⟨rfl, h1⟩
    obtain ⟨-, hb1⟩ := HT.out w1 h1
    go_wp2
    go_ret
    exact ⟨rfl, hb1⟩
  | false =>
    simp only [h1] at C1
    have HC1 := Lib.hid C1
    rw [h1, if_neg Bool.false_ne_true] at hz2
    clear C1 h1
    cases h2 : lessB s.pre r.pre with
    | true =>
      simp only [h2] at C2
      have HC2 := Lib.hid C2
      rw [h2, if_pos rfl] at hz2
      subst hz2
      clear C2 h2
      go_enter Try.func39, Try.ntmps39
      go_wp2_with fail
      refine (HC1.out _).mono ?_
      rintro e w1 ⟨rfl, h1⟩
      obtain ⟨⟨l1, l2⟩, hb1⟩ := HT.out w1 h1
      go_wp2_with fail
      refine (HC2.out _).mono ?_
      rintro e w2 ⟨rfl, h2⟩
      have hb2 := hb1.trans (h2.mono hb1.size)
      go_wp2
      go_ret
      exact ⟨rfl, hb2⟩
    | false =>
      simp only [h2] at C2
      have HC2 := Lib.hid C2
      rw [h2, if_neg Bool.false_ne_true] at hz2
      subst hz2
      clear C2 h2
      go_enter Try.func39, Try.ntmps39
      go_wp2_with fail
      refine (HC1.out _).mono ?_
      rintro e w1 ⟨rfl, h1⟩
      obtain ⟨⟨l1, l2⟩, hb1⟩ := HT.out w1 h1
      go_wp2_with fail
      refine (HC2.out _).mono ?_
      rintro e w2 ⟨rfl, h2⟩
      have hb2 := hb1.trans (h2.mono hb1.size)
      go_wp2
      go_ret
      exact ⟨rfl, hb2⟩
end Go.Proofs.Ytcpdpcfejpbdpaa
