/- Plain laws on stable sorting: lists in order by a number, and the same in each class. Nothing of the program is named. Worlds in which one row of routes is turned: what is kept, two routes exchanged; the order of two routes; slices.swapRangeCmpFunc, rotateCmpFunc, Reverse. slices.swapRangeCmpFunc, rotateCmpFunc: parts of a row of routes exchanged. Plain: a prefix that may be, as a number in the document's order. slices.insertionSortCmpFunc over routes, by their order: a part of a row in order, ties as they were. -/
import Derived.Test.YtggjcjijoihilaaTabMem
import Derived.LoopTactic
import Derived.Shelf.RegionOpen
import Derived.BigQuiet
import Derived.Test.YtggjcjijoihilaaTabPlace
namespace Go.Proofs.Ytggjcjijoihilaa
section
variable {α : Type} (o : α → Nat)

/-- In order, ties allowed. -/
def Srt (l : List α) : Prop := l.Pairwise fun a b => o a ≤ o b
/-- The same elements, and of those that tie in the same order. -/
def Cls (l l' : List α) : Prop := ∀ n, l.filter (fun x => o x == n) = l'.filter (fun x => o x == n)

variable {o}
theorem Cls.refl (l : List α) : Cls o l l := fun _ => rfl
theorem Cls.symm {a b : List α} (h : Cls o a b) : Cls o b a := fun n => (h n).symm
theorem Cls.trans {a b c : List α} (h : Cls o a b) (k : Cls o b c) : Cls o a c := fun n => (h n).trans (k n)
theorem Cls.app {a b c d : List α} (h : Cls o a b) (k : Cls o c d) : Cls o (a ++ c) (b ++ d) := fun n => by rw [List.filter_append, List.filter_append, h n, k n]
theorem Cls.mem {a b : List α} (h : Cls o a b) {x : α} : x ∈ a ↔ x ∈ b := by
  have e : ∀ l : List α, x ∈ l ↔ x ∈ l.filter (fun y => o y == o x) := fun l => by simp [List.mem_filter]
  rw [e a, e b, h (o x)]
theorem Cls.swap {u v : List α} (h : ∀ x ∈ u, ∀ y ∈ v, o x ≠ o y) : Cls o (u ++ v) (v ++ u) := fun n => by
  rw [List.filter_append, List.filter_append]
  by_cases hu : u.filter (fun x => o x == n) = []
  · rw [hu]; simp
  · obtain ⟨x, hx⟩ := List.exists_mem_of_ne_nil _ hu
    rw [List.mem_filter] at hx
    have hv : v.filter (fun x => o x == n) = [] := by
      rw [List.filter_eq_nil_iff]
      intro y hy e
      have e1 := beq_iff_eq.1 hx.2
      have e2 := beq_iff_eq.1 e
      exact h x hx.1 y hy (by omega)
    rw [hv]; simp
theorem Cls.mid {p u v q : List α} (h : Cls o u v) : Cls o (p ++ u ++ q) (p ++ v ++ q) := ((Cls.refl p).app h).app (Cls.refl q)
theorem Cls.swap_at {p u v q : List α} (h : ∀ x ∈ u, ∀ y ∈ v, o x ≠ o y) : Cls o (p ++ u ++ v ++ q) (p ++ v ++ u ++ q) := by
  have := Cls.mid (p := p) (q := q) (Cls.swap h)
  rwa [← List.append_assoc, ← List.append_assoc] at this

theorem Cls.length {a b : List α} (h : Cls o a b) : a.length = b.length := by
  induction a generalizing b with
  | nil =>
    cases b with
    | nil => rfl
    | cons y b => exact absurd ((h.mem (x := y)).2 (List.mem_cons_self)) (by simp)
  | cons x a ih =>
    have hx : x ∈ b := h.mem.1 List.mem_cons_self
    -- split b at its first of x's class
    have : ∃ s t, b = s ++ x :: t ∧ ∀ y ∈ s, o y ≠ o x := by
      have hf := h (o x)
      simp only [List.filter_cons, beq_self_eq_true, if_true] at hf
      clear ih h
      induction b with
      | nil => simp at hx
      | cons y b ihb =>
        by_cases e : o y = o x
        · simp only [List.filter_cons, e, beq_self_eq_true, if_true, List.cons.injEq] at hf
          exact ⟨[], b, by rw [hf.1]; rfl, by simp⟩
        · have e2 : (o y == o x) = false := by simpa using e
          rcases List.mem_cons.1 hx with rfl | hx'
          · exact absurd rfl e
          · rw [List.filter_cons, e2] at hf
            obtain ⟨s, t, rfl, hs⟩ := ihb hx' hf
            exact ⟨y :: s, t, rfl, fun z hz => by
              rcases List.mem_cons.1 hz with rfl | hz
              · exact e
              · exact hs z hz⟩
    obtain ⟨s, t, rfl, hs⟩ := this
    have h2 : Cls o a (s ++ t) := fun n => by
      have := h n
      rw [List.filter_append, List.filter_cons, List.filter_cons] at this
      rw [List.filter_append]
      by_cases e : o x = n
      · have e2 : (o x == n) = true := by simpa using e
        have hsn : s.filter (fun y => o y == n) = [] := by
          rw [List.filter_eq_nil_iff]
          intro y hy he
          exact hs y hy ((beq_iff_eq.1 he).trans e.symm)
        rw [e2, if_pos rfl, if_pos rfl, hsn, List.nil_append, List.cons.injEq] at this
        rw [this.2, hsn, List.nil_append]
      · have e2 : (o x == n) = false := by simpa using e
        rw [e2, if_neg Bool.false_ne_true, if_neg Bool.false_ne_true] at this
        exact this
    rw [List.length_cons, ih h2]
    simp only [List.length_append, List.length_cons]; omega

theorem Srt.app {a b : List α} (ha : Srt o a) (hb : Srt o b) (h : ∀ x ∈ a, ∀ y ∈ b, o x ≤ o y) : Srt o (a ++ b) := List.pairwise_append.2 ⟨ha, hb, h⟩
theorem Srt.left {a b : List α} (h : Srt o (a ++ b)) : Srt o a := (List.pairwise_append.1 h).1
theorem Srt.right {a b : List α} (h : Srt o (a ++ b)) : Srt o b := (List.pairwise_append.1 h).2.1
theorem Srt.across {a b : List α} (h : Srt o (a ++ b)) : ∀ x ∈ a, ∀ y ∈ b, o x ≤ o y := (List.pairwise_append.1 h).2.2
theorem srt_one (x : α) : Srt o [x] := List.pairwise_singleton _ _
theorem Srt.get {l : List α} (h : Srt o l) {i j : Nat} {x y : α} (hij : i ≤ j) (hx : l[i]? = some x) (hy : l[j]? = some y) : o x ≤ o y := by
  by_cases e : i = j
  · subst e; rw [hx] at hy; simp only [Option.some.injEq] at hy; rw [hy]; exact Nat.le_refl _
  · obtain ⟨h1, e1⟩ := List.getElem?_eq_some_iff.1 hx
    obtain ⟨h2, e2⟩ := List.getElem?_eq_some_iff.1 hy
    have := List.pairwise_iff_getElem.1 h i j h1 h2 (by omega)
    rw [e1, e2] at this
    exact this
theorem Cls.le_across {a b a' b' : List α} (ha : Cls o a a') (hb : Cls o b b') (h : ∀ x ∈ a', ∀ y ∈ b', o x ≤ o y) : ∀ x ∈ a, ∀ y ∈ b, o x ≤ o y := fun x hx y hy => h x (ha.mem.1 hx) y (hb.mem.1 hy)

/-- Two swapped, wherever they stand. -/
theorem swap_two (p m q : List α) (x y : α) : ((p ++ x :: (m ++ y :: q)).set p.length y).set (p.length + 1 + m.length) x = p ++ y :: (m ++ x :: q) := by
  rw [List.set_append_right _ _ (Nat.le_refl _), Nat.sub_self, List.set_cons_zero, List.set_append_right _ _ (by omega), show p.length + 1 + m.length - p.length = m.length + 1 by omega, List.set_cons_succ, List.set_append_right _ _ (Nat.le_refl _), Nat.sub_self, List.set_cons_zero]
theorem get_first (p q : List α) (x : α) : (p ++ x :: q)[p.length]? = some x := by
  rw [List.getElem?_append_right (Nat.le_refl _), Nat.sub_self]; rfl
theorem get_second (p m q : List α) (x y : α) : (p ++ x :: (m ++ y :: q))[p.length + 1 + m.length]? = some y := by
  rw [List.getElem?_append_right (by omega), show p.length + 1 + m.length - p.length = m.length + 1 by omega, List.getElem?_cons_succ]
  exact get_first m q y
end
end Go.Proofs.Ytggjcjijoihilaa
namespace Go.Proofs.Ytggjcjijoihilaa
open Go.RowKit Go.Sort Go.Shelf
attribute [local go_sem ↓] loadVar_key loadVar_pre loadVar_route storeVar_pre storeVar_route buildSlice_row

/-- W has come of w0; but for new blocks, just the row g has turned: it holds L, and what was behind it. -/
structure SW (w0 : World) (g : Nat) (rest : List Value) (L : List Rt) (W : World) : Prop where
  grown : w0.grownBy W (some g)
  row : Row W g (fl L ++ rest)

theorem SW.later {w0 W W' : World} {g : Nat} {rest : List Value} {L : List Rt} (h : SW w0 g rest L W) (hb : Below W.heap.size W W') : SW w0 g rest L W' :=
  ⟨grown_trans h.grown (grown_below hb _), h.row.later hb⟩
theorem SW.drew {w0 W : World} {g : Nat} {rest : List Value} {L : List Rt} (h : SW w0 g rest L W) : SW w0 g rest L W.drew := ⟨grown_drew h.grown, h.row⟩
theorem SW.cells {w0 W : World} {g : Nat} {rest : List Value} {L : List Rt} (h : SW w0 g rest L W) : CellsAt W ⟨g, 0, none⟩ (fl L) := fun j u hu => h.row.cells j u (by
  rw [List.getElem?_append_left (List.getElem?_eq_some_iff.1 hu).1]; exact hu)
theorem SW.load {w0 W : World} {g : Nat} {rest : List Value} {L : List Rt} (h : SW w0 g rest L W) {i : Nat} {x : Rt} (hx : L[i]? = some x) : (routeLoad ⟨g, i * 19, none⟩).run Try.prog W = .ok (.agg (rc x)) W := by
  have := run_routeLoad (h.cells.route hx)
  rw [add_here, Nat.zero_add] at this
  exact this
theorem SW.set {w0 W : World} {g : Nat} {rest : List Value} {L : List Rt} (h : SW w0 g rest L W) {i : Nat} (hi : i < L.length) (r : Rt) :
    (routeStore ⟨g, i * 19, none⟩ (.agg (rc r))).run Try.prog W = .ok () (W.setRow g (fl (L.set i r) ++ rest).toArray) ∧ SW w0 g rest (L.set i r) (W.setRow g (fl (L.set i r) ++ rest).toArray) :=
  ⟨run_routeStore_at h.row hi r, ⟨grown_trans h.grown (grown_setRow _ _ _), h.row.set _⟩⟩

/-- An exchange of two routes: the two stores, and the world behind them. -/
theorem SW.swap {w0 W : World} {g : Nat} {rest : List Value} {L : List Rt} (h : SW w0 g rest L W) {i j : Nat} (hi : i < L.length) (hj : j < L.length) (x y : Rt) :
    ∃ X Y : Array Value, (routeStore ⟨g, i * 19, none⟩ (.agg (rc y))).run Try.prog W = .ok () (W.setRow g X) ∧
      (routeStore ⟨g, j * 19, none⟩ (.agg (rc x))).run Try.prog (W.setRow g X) = .ok () ((W.setRow g X).setRow g Y) ∧ SW w0 g rest ((L.set i y).set j x) ((W.setRow g X).setRow g Y) := by
  obtain ⟨h1, h2⟩ := h.set hi y
  obtain ⟨h3, h4⟩ := h2.set (i := j) (by rw [List.length_set]; exact hj) x
  exact ⟨_, _, h1, h3, h4⟩

def ordZ (p q : Pre) : Int := if lessB p q = true then -1 else if lessB q p = true then 1 else 0

theorem rows_two' (w : World) (r s : Rt) : CellsAt ((w.alloc (.cells (rc r) 34)).alloc (.cells (rc s) 34)) ⟨w.heap.size, 0, none⟩ (rl r) ∧ CellsAt ((w.alloc (.cells (rc r) 34)).alloc (.cells (rc s) 34)) ⟨w.heap.size + 1, 0, none⟩ (rl s) ∧
    Below w.heap.size w ((w.alloc (.cells (rc r) 34)).alloc (.cells (rc s) 34)) ∧ ((w.alloc (.cells (rc r) 34)).alloc (.cells (rc s) 34)).heap.size = w.heap.size + 2 :=
  ⟨(newRoute w r).later ((Below.refl _ _).alloc (Nat.le_refl _) _), by have := newRoute (w.alloc (.cells (rc r) 34)) s; simpa using this, ((Below.refl _ _).alloc (Nat.le_refl _) _).alloc (by simp) _, by simp⟩

set_option maxHeartbeats 1000000 in
set_option maxRecDepth 100000 in
theorem order_any (r s : Rt) (w : World) :
    Calls Try.prog 49 #[.agg (rc r), .agg (rc s)] w fun e w' => e = .returned (.int .i64 (ordZ r.pre s.pre)) ∧ Below w.heap.size w w' := by
  obtain ⟨cr, cs, hb, hz⟩ := rows_two' w r s
  have T : ∀ w1, Below ((w.alloc (.cells (rc r) 34)).alloc (.cells (rc s) 34)).heap.size ((w.alloc (.cells (rc r) 34)).alloc (.cells (rc s) 34)) w1 → ((preLoad ⟨w.heap.size, 0, none⟩).run Try.prog w1 = .ok (.agg (pc r.pre)) w1 ∧ (preLoad ⟨w.heap.size + 1, 0, none⟩).run Try.prog w1 = .ok (.agg (pc s.pre)) w1) ∧ Below w.heap.size w w1 := fun w1 h =>
    ⟨⟨run_preLoadA (cr.later h).pre, run_preLoadA (cs.later h).pre⟩, hb.trans (h.mono hb.size)⟩
  obtain ⟨⟨l1, l2⟩, -⟩ := T _ (Below.refl _ _)
  have HT := Lib.hid T
  have C1 := fun w => less_any r.pre s.pre r.hk s.hk w
  have C2 := fun w => less_any s.pre r.pre s.hk r.hk w
  obtain ⟨z, hz2⟩ : ∃ z, z = ordZ r.pre s.pre := ⟨_, rfl⟩
  rw [← hz2]
  unfold ordZ at hz2
  clear T hb hz cr cs
  cases h1 : lessB r.pre s.pre with
  | true =>
    simp only [h1] at C1
    have HC1 := Lib.hid C1
    rw [h1, if_pos rfl] at hz2
    subst hz2
    clear C1 C2 h1
    go_enter Try.func49, Try.ntmps49
    go_wp2_with fail
    refine (HC1.out _).mono ?_
    rintro e w1 ⟨rfl, h1⟩
    obtain ⟨-, hb1⟩ := HT.out w1 h1
    go_wp2
    go_ret
    exact ⟨rfl, hb1⟩
  | false =>
    simp only [h1] at C1
    have HC1 := Lib.hid C1
    rw [h1, if_neg Bool.false_ne_true] at hz2
    clear C1 h1
    cases h2 : lessB s.pre r.pre with
    | true =>
      simp only [h2] at C2
      have HC2 := Lib.hid C2
      rw [h2, if_pos rfl] at hz2
      subst hz2
      clear C2 h2
      go_enter Try.func49, Try.ntmps49
      go_wp2_with fail
      refine (HC1.out _).mono ?_
      rintro e w1 ⟨rfl, h1⟩
      obtain ⟨⟨l1, l2⟩, hb1⟩ := HT.out w1 h1
      go_wp2_with fail
      refine (HC2.out _).mono ?_
      rintro e w2 ⟨rfl, h2⟩
      have hb2 := hb1.trans (h2.mono hb1.size)
      go_wp2
      go_ret
      exact ⟨rfl, hb2⟩
    | false =>
      simp only [h2] at C2
      have HC2 := Lib.hid C2
      rw [h2, if_neg Bool.false_ne_true] at hz2
      subst hz2
      clear C2 h2
      go_enter Try.func49, Try.ntmps49
      go_wp2_with fail
      refine (HC1.out _).mono ?_
      rintro e w1 ⟨rfl, h1⟩
      obtain ⟨⟨l1, l2⟩, hb1⟩ := HT.out w1 h1
      go_wp2_with fail
      refine (HC2.out _).mono ?_
      rintro e w2 ⟨rfl, h2⟩
      have hb2 := hb1.trans (h2.mono hb1.size)
      go_wp2
      go_ret
      exact ⟨rfl, hb2⟩
end Go.Proofs.Ytggjcjijoihilaa
namespace Go.Proofs.Ytggjcjijoihilaa
open Go.RowKit Go.Sort Go.Shelf
attribute [local go_sem ↓] loadVar_key loadVar_pre loadVar_route storeVar_pre storeVar_route buildSlice_row

section
variable {α : Type}
def swr (P S M T Q : List α) (i : Nat) : List α := P ++ (T.take i ++ S.drop i) ++ M ++ (S.take i ++ T.drop i) ++ Q

theorem swr_at (P S M T Q : List α) (i : Nat) (x y : α) (hx : S[i]? = some x) (hy : T[i]? = some y) :
    swr P S M T Q i = (P ++ T.take i) ++ x :: ((S.drop (i + 1) ++ M ++ S.take i) ++ y :: (T.drop (i + 1) ++ Q)) ∧
    swr P S M T Q (i + 1) = (P ++ T.take i) ++ y :: ((S.drop (i + 1) ++ M ++ S.take i) ++ x :: (T.drop (i + 1) ++ Q)) := by
  obtain ⟨hs, ex⟩ := List.getElem?_eq_some_iff.1 hx
  obtain ⟨ht, ey⟩ := List.getElem?_eq_some_iff.1 hy
  have e1 : S.drop i = x :: S.drop (i + 1) := by rw [List.drop_eq_getElem_cons hs, ex]
  have e2 : T.drop i = y :: T.drop (i + 1) := by rw [List.drop_eq_getElem_cons ht, ey]
  have e3 : S.take (i + 1) = S.take i ++ [x] := by rw [List.take_add_one, hx]; rfl
  have e4 : T.take (i + 1) = T.take i ++ [y] := by rw [List.take_add_one, hy]; rfl
  unfold swr
  rw [e1, e2, e3, e4]
  constructor <;> simp [List.append_assoc]
theorem swr_zero (P S M T Q : List α) : swr P S M T Q 0 = P ++ S ++ M ++ T ++ Q := by simp [swr]
theorem swr_end (P S M T Q : List α) (k : Nat) (hs : S.length = k) (ht : T.length = k) : swr P S M T Q k = P ++ T ++ M ++ S ++ Q := by
  unfold swr
  rw [List.take_of_length_le (by omega), List.drop_of_length_le (by omega), List.take_of_length_le (by omega), List.drop_of_length_le (by omega)]
  simp
theorem swr_length (P S M T Q : List α) (i k : Nat) (hs : S.length = k) (ht : T.length = k) : (swr P S M T Q i).length = P.length + k + M.length + k + Q.length := by
  unfold swr
  simp only [List.length_append, List.length_take, List.length_drop]
  omega
end

def SwPost (w0 : World) (g : Nat) (rest : List Value) (L : List Rt) (e : Ending) (w' : World) : Prop := e = .returned (.tuple #[]) ∧ SW w0 g rest L w'

set_option maxHeartbeats 4000000 in
set_option maxRecDepth 100000 in
theorem swapRange_any (w0 : World) (g : Nat) (rest : List Value) (P S M T Q : List Rt) (k a b n cap : Nat) (f : Value) (W : World) (h : SW w0 g rest (P ++ S ++ M ++ T ++ Q) W) (hs : S.length = k) (ht : T.length = k)
    (ha : P.length = a) (hb : a + k + M.length = b) (hn : (P ++ S ++ M ++ T ++ Q).length = n) (h16 : n ≤ 65536) :
    Calls Try.prog 89 #[.slice (some ⟨g, 0, none⟩) n cap, .int .i64 a, .int .i64 b, .int .i64 k, f] W (SwPost w0 g rest (P ++ T ++ M ++ S ++ Q)) := by
  have hlen : P.length + k + M.length + k + Q.length = n := by rw [← hn]; simp only [List.length_append]; omega
  have hbn : b + k ≤ n := by omega
  have hab : a + k ≤ b := by omega
  have hnI : (n : Int) ≤ 65536 := by omega
  have HE := Lib.hid (swr_end P S M T Q k hs ht)
  have HZ : Hid (SW w0 g rest (swr P S M T Q 0) W) := by show SW _ _ _ _ _; rw [swr_zero]; exact h
  have HS := Lib.hid hs
  have HT := Lib.hid ht
  have HA := Lib.hid ha
  have HB := Lib.hid hb
  have HL := Lib.hid hlen
  have mixed : Try.prog.follows .mixedOrders = true := by kernel_rfl
  clear h hs ht ha hb hn hlen
  unfold SwPost
  go_enter Try.func89, Try.ntmps89
  go_wp2
  go_loopw [10] (fun t wr => ∃ i : Nat, i ≤ k ∧ t = .int .i64 i ∧ Hid (SW w0 g rest (swr P S M T Q i) wr)) (fun t _ => k - (intOf t).toNat)
  case atStart => exact ⟨0, Nat.zero_le _, rfl, HZ⟩
  case round =>
    obtain ⟨i, hi, rfl, HW⟩ := hrel
    by_cases hlt : i < k
    · have hltI : (i : Int) < k := by omega
      obtain ⟨x, hx⟩ : ∃ x, S[i]? = some x := ⟨S[i]'(by rw [HS.out]; exact hlt), List.getElem?_eq_getElem _⟩
      obtain ⟨y, hy⟩ : ∃ y, T[i]? = some y := ⟨T[i]'(by rw [HT.out]; exact hlt), List.getElem?_eq_getElem _⟩
      obtain ⟨e1, e2⟩ := swr_at P S M T Q i x y hx hy
      have hd := HW.out.drew
      have p1 : (P ++ T.take i).length = a + i := by rw [List.length_append, HA.out, List.length_take, HT.out]; omega
      have p2 : (P ++ T.take i).length + 1 + (S.drop (i + 1) ++ M ++ S.take i).length = b + i := by
        rw [p1]; simp only [List.length_append, List.length_drop, List.length_take, HS.out]; have := HB.out; omega
      rw [e1] at hd
      have l1 := hd.load (get_first _ _ x)
      have l2 := hd.load (get_second _ _ _ x y)
      obtain ⟨X, Y, s1, s2, hsw⟩ := hd.swap (i := (P ++ T.take i).length) (j := (P ++ T.take i).length + 1 + (S.drop (i + 1) ++ M ++ S.take i).length) (List.getElem?_eq_some_iff.1 (get_first _ _ x)).1 (List.getElem?_eq_some_iff.1 (get_second _ _ _ x y)).1 x y
      rw [swap_two, ← e2] at hsw
      rw [p1] at l1 s1
      rw [p2] at l2 s2
      have HSW := Lib.hid hsw
      have w1 : IntKind.i64.wrap ((a : Int) + (i : Int)) = (a : Int) + (i : Int) := by rw [IntKind.wrap_i64]; omega
      have w2 : IntKind.i64.wrap ((b : Int) + (i : Int)) = (b : Int) + (i : Int) := by rw [IntKind.wrap_i64]; omega
      have t1 : ((a : Int) + (i : Int)).toNat = a + i := by omega
      have t2 : ((b : Int) + (i : Int)).toNat = b + i := by omega
      have q1 : (0 : Int) ≤ (a : Int) + (i : Int) := by omega
      have q2 : (0 : Int) ≤ (b : Int) + (i : Int) := by omega
      have q3 : (a : Int) + (i : Int) < n := by omega
      have q4 : (b : Int) + (i : Int) < n := by omega
      clear hsw hd e1 e2 p1 p2 hx hy
      go_wp2_with fail
      go_big_region_o
      all_goals go_wp2
      go_roundw
      case rel => exact ⟨i + 1, by omega, by go_num, HSW⟩
      case measure => simp [intOf]; omega
    · obtain rfl : i = k := by omega
      go_wp2
      go_end0
      exact ⟨rfl, by rw [← HE.out]; exact HW.out⟩

theorem swapRange_at (w0 : World) (g : Nat) (rest : List Value) (P S M T Q : List Rt) (k a b n cap : Nat) (za zb zk : Int) (f : Value) (W : World) (h : SW w0 g rest (P ++ S ++ M ++ T ++ Q) W) (hs : S.length = k) (ht : T.length = k)
    (ha : P.length = a) (hb : a + k + M.length = b) (hn : (P ++ S ++ M ++ T ++ Q).length = n) (h16 : n ≤ 65536) (ea : za = a) (eb : zb = b) (ek : zk = k) :
    Calls Try.prog 89 #[.slice (some ⟨g, 0, none⟩) n cap, .int .i64 za, .int .i64 zb, .int .i64 zk, f] W (SwPost w0 g rest (P ++ T ++ M ++ S ++ Q)) := by
  subst ea eb ek
  exact swapRange_any w0 g rest P S M T Q k a b n cap f W h hs ht ha hb hn h16

/-- How far a rotation is: a part U ahead of a part V is still to be exchanged with it. -/
structure RotAt (w0 : World) (g : Nat) (rest : List Value) (Z : List Rt) (m i j : Nat) (W : World) : Prop where
  ex : ∃ P U V Q : List Rt, P.length + i = m ∧ U.length = i ∧ V.length = j ∧ P ++ V ++ U ++ Q = Z ∧ SW w0 g rest (P ++ U ++ V ++ Q) W

set_option maxHeartbeats 4000000 in
set_option maxRecDepth 100000 in
theorem rotate_any (w0 : World) (g : Nat) (rest : List Value) (A U V B : List Rt) (a m b n cap : Nat) (f : Value) (W : World) (h : SW w0 g rest (A ++ U ++ V ++ B) W) (ha : A.length = a) (hu : a + U.length = m) (hv : m + V.length = b)
    (hU : 0 < U.length) (hV : 0 < V.length) (hn : (A ++ U ++ V ++ B).length = n) (h16 : n ≤ 65536) :
    Calls Try.prog 87 #[.slice (some ⟨g, 0, none⟩) n cap, .int .i64 a, .int .i64 m, .int .i64 b, f] W (SwPost w0 g rest (A ++ V ++ U ++ B)) := by
  have hbn : b ≤ n := by rw [← hn]; simp only [List.length_append]; omega
  have hZn : (A ++ V ++ U ++ B).length = n := by rw [← hn]; simp only [List.length_append]; omega
  have H0 : Hid (RotAt w0 g rest (A ++ V ++ U ++ B) m (m - a) (b - m) W) := ⟨A, U, V, B, by omega, by omega, by omega, rfl, h⟩
  have hi0 : 0 < m - a := by omega
  have hj0 : 0 < b - m := by omega
  have ham : a ≤ m := by omega
  have hmb : m ≤ b := by omega
  obtain ⟨Z, hZ⟩ : ∃ Z, Z = A ++ V ++ U ++ B := ⟨_, rfl⟩
  rw [← hZ] at H0 hZn ⊢
  have HN := Lib.hid hZn
  have hnI : (n : Int) ≤ 65536 := by omega
  have z1 : (m : Int) - (a : Int) = ((m - a : Nat) : Int) := by omega
  have z2 : (b : Int) - (m : Int) = ((b - m : Nat) : Int) := by omega
  clear h ha hu hv hU hV hn hZ hZn
  unfold SwPost
  go_enter Try.func87, Try.ntmps87
  go_wp2
  go_loopw [10, 11] (fun s t wr => ∃ i j : Nat, 0 < i ∧ 0 < j ∧ i ≤ m ∧ m + j ≤ n ∧ s = .int .i64 i ∧ t = .int .i64 j ∧ Hid (RotAt w0 g rest Z m i j wr)) (fun s t _ => (intOf s).toNat + (intOf t).toNat)
  case atStart => exact ⟨m - a, b - m, hi0, hj0, by omega, by omega, rfl, rfl, H0⟩
  case round =>
    obtain ⟨i, j, hi, hj, him, hjn, rfl, rfl, HR⟩ := hrel
    have hiI : (0 : Int) < i := by omega
    have hjI : (0 : Int) < j := by omega
    have himI : (i : Int) ≤ m := by omega
    have hjnI : (m : Int) + j ≤ n := by omega
    have hmI : (m : Int) ≤ 65536 := by omega
    have hjI2 : (j : Int) ≤ 65536 := by omega
    by_cases hne : i = j
    · have hneI : ((i : Int) != (j : Int)) = false := by rw [bne_eq_false_iff_eq]; omega
      obtain ⟨P, U, V, Q, e1, e2, e3, e4, hw⟩ := HR.out.ex
      have hl : (P ++ U ++ [] ++ V ++ Q).length = n := by
        rw [← HN.out, ← e4]; simp only [List.length_append, List.length_nil]; omega
      have C := swapRange_at w0 g rest P U [] V Q i (m - i) m n cap ((m : Int) - (i : Int)) m i f wr (by simpa using hw) e2 (by omega) (by omega) (by simp; omega) hl h16 (by omega) rfl rfl
      rw [List.append_nil, e4] at C
      have HC := Lib.hid C
      clear C e1 e2 e3 e4 hw hl hne z1 z2
      go_wp2_with fail
      refine HC.out.mono ?_
      rintro e w' ⟨rfl, hw⟩
      go_wp2
      go_end0
      exact ⟨rfl, hw⟩
    · have hneI : ((i : Int) != (j : Int)) = true := by rw [bne_iff_ne]; omega
      by_cases hgt : j < i
      · have hgtI : (j : Int) < i := by omega
        obtain ⟨P, U, V, Q, e1, e2, e3, e4, hw⟩ := HR.out.ex
        have hU : U = U.take j ++ U.drop j := (List.take_append_drop _ _).symm
        have hl : (P ++ U.take j ++ U.drop j ++ V ++ Q).length = n := by
          rw [← HN.out, ← e4]; simp only [List.length_append, List.length_take, List.length_drop]; omega
        have C := swapRange_at w0 g rest P (U.take j) (U.drop j) V Q j (m - i) m n cap ((m : Int) - (i : Int)) m j f wr (by
          rw [List.append_assoc P (U.take j), List.take_append_drop]; exact hw) (by rw [List.length_take]; omega) e3 (by omega) (by rw [List.length_drop]; omega) hl h16 (by omega) rfl rfl
        have HR2 : ∀ w', SW w0 g rest (P ++ V ++ U.drop j ++ U.take j ++ Q) w' → Hid (RotAt w0 g rest Z m (i - j) j w') := fun w' h => by
          refine ⟨P ++ V, U.drop j, U.take j, Q, by rw [List.length_append]; omega, by rw [List.length_drop]; omega, by rw [List.length_take]; omega, ?_, h⟩
          rw [← e4, List.append_assoc (P ++ V), List.take_append_drop]
        have HC := Lib.hid C
        have HD := Lib.hid HR2
        have z3 : (i : Int) - (j : Int) = ((i - j : Nat) : Int) := by omega
        clear C e1 e2 e3 e4 hw hl hne z1 z2 hU HR2
        go_wp2_with fail
        refine HC.out.mono ?_
        rintro e w' ⟨rfl, hw⟩
        have HE := HD.out w' hw
        clear hw
        go_wp2
        go_roundw
        case rel => exact ⟨i - j, j, by omega, hj, by omega, hjn, rfl, rfl, HE⟩
        case measure => simp [intOf]; omega
      · have hgtI : ¬ (j : Int) < i := by omega
        have hltI : (i : Int) ≤ j := by omega
        have hltN : i < j := by omega
        obtain ⟨P, U, V, Q, e1, e2, e3, e4, hw⟩ := HR.out.ex
        have hl : (P ++ U ++ V.take (j - i) ++ V.drop (j - i) ++ Q).length = n := by
          rw [← HN.out, ← e4]; simp only [List.length_append, List.length_take, List.length_drop]; omega
        have C := swapRange_at w0 g rest P U (V.take (j - i)) (V.drop (j - i)) Q i (m - i) (m + j - i) n cap ((m : Int) - (i : Int)) ((m : Int) + (j : Int) - (i : Int)) i f wr (by
          rw [List.append_assoc (P ++ U), List.take_append_drop]; exact hw) e2 (by rw [List.length_drop]; omega) (by omega) (by rw [List.length_take]; omega) hl h16 (by omega) (by omega) rfl
        have HR2 : ∀ w', SW w0 g rest (P ++ V.drop (j - i) ++ V.take (j - i) ++ U ++ Q) w' → Hid (RotAt w0 g rest Z m i (j - i) w') := fun w' h => by
          refine ⟨P, V.drop (j - i), V.take (j - i), U ++ Q, by omega, by rw [List.length_drop]; omega, by rw [List.length_take]; omega, ?_, by rw [← List.append_assoc]; exact h⟩
          rw [← e4, List.append_assoc P, List.take_append_drop, ← List.append_assoc]
        have HC := Lib.hid C
        have HD := Lib.hid HR2
        have z3 : (j : Int) - (i : Int) = ((j - i : Nat) : Int) := by omega
        clear C e1 e2 e3 e4 hw hl hne z1 z2 HR2
        go_wp2_with fail
        refine HC.out.mono ?_
        rintro e w' ⟨rfl, hw⟩
        have HE := HD.out w' hw
        clear hw
        go_wp2
        go_roundw
        case rel => exact ⟨i, j - i, hi, by omega, him, by omega, rfl, rfl, HE⟩
        case measure => simp [intOf]; omega
end Go.Proofs.Ytggjcjijoihilaa
namespace Go.Proofs.Ytggjcjijoihilaa

theorem numTo_bound {k : Nat → Nat} (h : Bytes16 k) : ∀ n, numTo k n < 256 ^ n
  | 0 => by simp [numTo]
  | n + 1 => by
    have := numTo_bound h n
    have h2 := h n
    simp only [numTo, Nat.pow_succ]
    omega
theorem num_bound {k : Nat → Nat} (h : Bytes16 k) : num k < 340282366920938463463374607431768211456 := by
  have := numTo_bound h 16
  unfold num
  simpa using this

def ordN (p : Pre) : Nat := (p.bits.toNat * 340282366920938463463374607431768211456 + num p.key) * 256 + p.len.toNat
def oR (r : Rt) : Nat := ordN r.pre

theorem may_bounds {p : Pre} (h : mayB p = true) : (p.bits = 32 ∨ p.bits = 128) ∧ 0 ≤ p.len ∧ p.len ≤ 128 := by
  unfold mayB at h
  simp only [Bool.and_eq_true, Bool.or_eq_true, beq_iff_eq, decide_eq_true_eq] at h
  obtain ⟨⟨⟨h1, h2⟩, h3⟩, -⟩ := h
  omega

theorem less_ord {p q : Pre} (hp : Bytes16 p.key) (hq : Bytes16 q.key) (mp : mayB p = true) (mq : mayB q = true) : lessB p q = true ↔ ordN p < ordN q := by
  rw [less_iff mp mq]
  obtain ⟨a1, a2, a3⟩ := may_bounds mp
  obtain ⟨b1, b2, b3⟩ := may_bounds mq
  have c1 := num_bound hp
  have c2 := num_bound hq
  unfold ordN
  generalize num p.key = x at *
  generalize num q.key = y at *
  omega
theorem eq_ord {p q : Pre} (hp : Bytes16 p.key) (hq : Bytes16 q.key) (mp : mayB p = true) (mq : mayB q = true) : preEq p q = true ↔ ordN p = ordN q := by
  rw [pre_iff hp hq]
  obtain ⟨a1, a2, a3⟩ := may_bounds mp
  obtain ⟨b1, b2, b3⟩ := may_bounds mq
  have c1 := num_bound hp
  have c2 := num_bound hq
  unfold ordN
  generalize num p.key = x at *
  generalize num q.key = y at *
  omega

def AllMay (l : List Rt) : Prop := ∀ r ∈ l, mayB r.pre = true
theorem AllMay.cls {l l' : List Rt} (h : AllMay l) (hc : Cls oR l' l) : AllMay l' := fun r hr => h r (hc.mem.1 hr)
theorem AllMay.left {a b : List Rt} (h : AllMay (a ++ b)) : AllMay a := fun r hr => h r (List.mem_append_left _ hr)
theorem AllMay.right {a b : List Rt} (h : AllMay (a ++ b)) : AllMay b := fun r hr => h r (List.mem_append_right _ hr)
theorem AllMay.mid {a b c : List Rt} (h : AllMay (a ++ b ++ c)) : AllMay b := h.left.right

theorem ordZ_neg {r s : Rt} (mr : mayB r.pre = true) (ms : mayB s.pre = true) : ordZ r.pre s.pre < 0 ↔ oR r < oR s := by
  unfold oR
  rw [← less_ord r.hk s.hk mr ms]
  unfold ordZ
  constructor
  · intro h
    by_cases h1 : lessB r.pre s.pre = true
    · exact h1
    · rw [if_neg h1] at h
      split at h <;> omega
  · intro h
    rw [if_pos h]; decide
end Go.Proofs.Ytggjcjijoihilaa
namespace Go.Proofs.Ytggjcjijoihilaa
open Go.RowKit Go.Sort Go.Shelf
attribute [local go_sem ↓] loadVar_key loadVar_pre loadVar_route storeVar_pre storeVar_route buildSlice_row

def cmpV : Value := .func (.func 49) #[] #[]

/-- How far the inner loop is: x is on its way to the left. -/
structure InsAt (w0 : World) (g : Nat) (rest : List Value) (A Z : List Rt) (x : Rt) (R : List Rt) (j : Nat) (Z1 Z2 : List Rt) (W : World) : Prop where
  parts : Z1 ++ Z2 = Z
  at' : A.length + Z1.length = j
  up : ∀ z ∈ Z2, oR x < oR z
  sw : SW w0 g rest (A ++ Z1 ++ x :: (Z2 ++ R)) W

theorem ins_end {Z Z1 Z2 : List Rt} {x : Rt} (hz : Srt oR Z) (hp : Z1 ++ Z2 = Z) (up : ∀ z ∈ Z2, oR x < oR z) (lo : ∀ z ∈ Z1, oR z ≤ oR x) : Srt oR (Z1 ++ x :: Z2) ∧ Cls oR (Z1 ++ x :: Z2) (Z ++ [x]) := by
  subst hp
  constructor
  · refine Srt.app hz.left (List.pairwise_cons.2 ⟨fun z h => Nat.le_of_lt (up z h), hz.right⟩) fun a ha b hb => ?_
    rcases List.mem_cons.1 hb with rfl | hb
    · exact lo a ha
    · exact hz.across a ha b hb
  · have := Cls.swap_at (o := oR) (p := Z1) (u := [x]) (v := Z2) (q := []) (fun a ha b hb => by
      simp at ha; subst ha; exact Nat.ne_of_lt (up b hb))
    simpa using this

set_option maxHeartbeats 4000000 in
set_option maxRecDepth 100000 in
theorem insertion_any (w0 : World) (g : Nat) (rest : List Value) (A X B : List Rt) (a b n cap : Nat) (W : World) (h : SW w0 g rest (A ++ X ++ B) W) (ha : A.length = a) (hb : a + X.length = b) (hn : (A ++ X ++ B).length = n) (h16 : n ≤ 65536) (hm : AllMay X) :
    Calls Try.prog 81 #[.slice (some ⟨g, 0, none⟩) n cap, .int .i64 a, .int .i64 b, cmpV] W fun e w' => e = .returned (.tuple #[]) ∧ ∃ Z, SW w0 g rest (A ++ Z ++ B) w' ∧ Srt oR Z ∧ Cls oR Z X := by
  have hbn : b ≤ n := by rw [← hn]; simp only [List.length_append]; omega
  have hnI : (n : Int) ≤ 65536 := by omega
  have hbI : (b : Int) ≤ n := by omega
  have eg := enters_of Try.func49 (by kernel_rfl) rfl
  unfold cmpV
  by_cases h0 : X = []
  · subst h0
    have hab : b = a := by simp at hb; omega
    subst hab
    have H := Lib.hid h
    clear h hb hm hn ha
    go_enter Try.func81, Try.ntmps81
    go_wp2
    go_loopw [8, 9] (fun t _ wr => t = .int .i64 ((b : Int) + 1) ∧ Hid (SW w0 g rest (A ++ [] ++ B) wr)) (fun _ _ _ => 0)
    case atStart => exact ⟨rfl, H⟩
    case round =>
      obtain ⟨rfl, HW⟩ := hrel
      go_wp2
      go_end0
      exact ⟨rfl, [], HW.out, List.Pairwise.nil, Cls.refl _⟩
  · have hX0 : 0 < X.length := List.length_pos_iff.2 h0
    obtain ⟨x0, X', rfl⟩ : ∃ x0 X', X = x0 :: X' := List.exists_cons_of_ne_nil h0
    have H0 : Hid (SW w0 g rest (A ++ [x0] ++ X' ++ B) W) := by show SW _ _ _ _ _; simpa using h
    have HA := Lib.hid ha
    have HB := Lib.hid hb
    have HN := Lib.hid hn
    have HM := Lib.hid hm
    have hab : a + 1 ≤ b := by rw [← hb]; simp
    have mixed : Try.prog.follows .mixedOrders = true := by kernel_rfl
    clear h h0 hX0 ha hb hn hm
    go_enter Try.func81, Try.ntmps81
    go_wp2
    go_loopw [8, 9] (fun t _ wr => ∃ (i : Nat) (Z R : List Rt), a < i ∧ i ≤ b ∧ t = .int .i64 i ∧ Hid (A.length + Z.length = i) ∧ Hid (Srt oR Z) ∧ Hid (∃ Y, Y ++ R = x0 :: X' ∧ Cls oR Z Y) ∧ Hid (SW w0 g rest (A ++ Z ++ R ++ B) wr)) (fun t _ _ => b - (intOf t).toNat)
    case atStart => exact ⟨a + 1, [x0], X', by omega, hab, by go_num, by have := HA.out; show _ = _; simp; omega, srt_one _, ⟨[x0], rfl, Cls.refl _⟩, H0⟩
    case round =>
      obtain ⟨i, Z, R, hai, hib, rfl, HL, HSZ, HC, HW⟩ := hrel
      by_cases hlt : i < b
      · have hltI : (i : Int) < b := by omega
        have hiI : (i : Int) ≤ 65536 := by omega
        obtain ⟨Y, hY, hcl⟩ := HC.out
        obtain ⟨x, R', rfl⟩ : ∃ x R', R = x :: R' := by
          cases R with
          | nil =>
            exfalso
            have e1 := hcl.length
            have e2 := congrArg List.length hY
            have e3 := HL.out
            have e4 := HB.out
            have e5 := HA.out
            simp at e2 e4
            omega
          | cons x R' => exact ⟨x, R', rfl⟩
        have hYx : (Y ++ [x]) ++ R' = x0 :: X' := by rw [← hY]; simp
        have hmx : mayB x.pre = true := HM.out x (by rw [← hY]; simp)
        have hmZ : ∀ z ∈ Z, mayB z.pre = true := fun z hz => HM.out z (by rw [← hY]; exact List.mem_append_left _ (hcl.mem.1 hz))
        have hlenx : (A ++ Z ++ x :: (R' ++ B)).length = n := by
          rw [← HN.out]
          have := congrArg List.length hY
          have e1 := hcl.length
          simp only [List.length_append, List.length_cons] at this ⊢
          omega
        have H1 : Hid (InsAt w0 g rest A Z x (R' ++ B) i Z [] wr) := ⟨List.append_nil Z, HL.out, fun z hz => by simp at hz, by have := HW.out; simpa using this⟩
        have HX := Lib.hid hmx
        have HZ := Lib.hid hmZ
        have HLX := Lib.hid hlenx
        have HYX := Lib.hid hYx
        have HCL := Lib.hid hcl
        clear hY hcl HC hmx hmZ hlenx hYx
        go_wp2
        go_loopw [9] (fun t wr => ∃ (j : Nat) (Z1 Z2 : List Rt), a ≤ j ∧ j ≤ i ∧ t = .int .i64 j ∧ Hid (InsAt w0 g rest A Z x (R' ++ B) j Z1 Z2 wr)) (fun t _ => (intOf t).toNat)
        case atStart => exact ⟨i, Z, [], by omega, Nat.le_refl _, rfl, H1⟩
        case round =>
          obtain ⟨j, Z1, Z2, haj, hji, rfl, HI⟩ := hrel
          have OUT : Hid ((∀ z ∈ Z1, oR z ≤ oR x) → ∀ w', Below wr.heap.size wr w' → ∃ (Z' : List Rt), A.length + Z'.length = i + 1 ∧ Srt oR Z' ∧ (∃ Y, Y ++ R' = x0 :: X' ∧ Cls oR Z' Y) ∧ SW w0 g rest (A ++ Z' ++ R' ++ B) w') := fun lo w' hb => by
            obtain ⟨h1, h2⟩ := ins_end HSZ.out HI.out.parts HI.out.up lo
            refine ⟨Z1 ++ x :: Z2, ?_, h1, ⟨Y ++ [x], HYX.out, h2.trans (HCL.out.app (Cls.refl _))⟩, ?_⟩
            · have e := congrArg List.length HI.out.parts
              have := HL.out
              simp only [List.length_append, List.length_cons] at e ⊢
              omega
            · have := HI.out.sw.later hb
              simpa using this
          by_cases hja : a < j
          · have hjaI : (a : Int) < j := by omega
            obtain ⟨jp, rfl⟩ : ∃ jp, j = jp + 1 := ⟨j - 1, by omega⟩
            obtain ⟨Z1', z, rfl⟩ : ∃ Z1' z, Z1 = Z1' ++ [z] := by
              have hne : Z1 ≠ [] := by
                intro e
                have h1 := HI.out.at'
                have h2 := HA.out
                rw [e] at h1
                simp at h1
                omega
              exact ⟨Z1.dropLast, Z1.getLast hne, (List.dropLast_concat_getLast hne).symm⟩
            have hq : (A ++ Z1').length = jp := by
              have := HI.out.at'
              simp only [List.length_append, List.length_cons, List.length_nil] at this ⊢
              omega
            have hsw : SW w0 g rest ((A ++ Z1') ++ z :: ([] ++ x :: (Z2 ++ (R' ++ B)))) wr := by
              have := HI.out.sw
              simpa using this
            have hlen2 : ((A ++ Z1') ++ z :: ([] ++ x :: (Z2 ++ (R' ++ B)))).length = n := by
              have e := congrArg List.length HI.out.parts
              rw [← HLX.out]
              simp only [List.length_append, List.length_cons, List.length_nil] at e ⊢
              omega
            have k1 := get_first (A ++ Z1') ([] ++ x :: (Z2 ++ (R' ++ B))) z
            have k2 := get_second (A ++ Z1') [] (Z2 ++ (R' ++ B)) z x
            have hmz : mayB z.pre = true := HZ.out z (by rw [← HI.out.parts]; simp)
            have L1 := fun d os => (hsw.later (below_regrown wr d os)).load k1
            have L2 := fun d os => (hsw.later (below_regrown wr d os)).load k2
            have C1 := fun d os => Calls.regrown_of (order_any x z (grow (redrawn wr d) os))
            have hneg := ordZ_neg HX.out hmz
            rw [hq] at L1
            simp only [hq, List.length_nil, Nat.add_zero] at L2
            have hjn : jp + 1 < n := by rw [← hlen2]; simp only [List.length_append, List.length_cons, List.length_nil] at hq ⊢; omega
            have hwp : IntKind.i64.wrap (jp : Int) = (jp : Int) := by rw [IntKind.wrap_i64]; omega
            have jz : (jp : Int) + 1 < (n : Int) := by omega
            have jz1 : (jp : Int) < (n : Int) := by omega
            have hjaI' : (a : Int) < (jp : Int) + 1 := by omega
            have p0 : (0 : Int) ≤ (jp : Int) + 1 := by omega
            have e0 : ((jp : Int) + 1).toNat = jp + 1 := by omega
            obtain ⟨zc, hzc⟩ : ∃ zc, zc = ordZ x.pre z.pre := ⟨_, rfl⟩
            rw [← hzc] at C1 hneg
            have HNEG := Lib.hid hneg
            have HSW := Lib.hid hsw
            have HK1 := Lib.hid k1
            have HK2 := Lib.hid k2
            have HQ := Lib.hid hq
            clear hsw k1 k2 hq hneg hzc hlen2 hmz
            by_cases hlv : zc < 0
            · have hlvD : decide (zc < 0) = true := decide_eq_true hlv
              go_wp2_with fail
              refine wp_region_quiet_below (by kernel_rfl) (by kernel_rfl) ?_
              repeat (go_big_quiet_step (exact C1 _ _))
              refine wpQuiet_nil fun w3 hw3 => ?_
              have hb3 : Below wr.heap.size wr w3 := by
                obtain ⟨p, rfl⟩ := hw3
                exact below_regrown wr p.d p.os
              clear hw3 L1 L2 C1
              have hd := (HSW.out.later hb3).drew
              have l1 := hd.load HK1.out
              have l2 := hd.load HK2.out
              have i1 := (List.getElem?_eq_some_iff.1 HK1.out).1
              have i2 := (List.getElem?_eq_some_iff.1 HK2.out).1
              obtain ⟨P1, P2, s1, s2, hsw2⟩ := hd.swap i2 i1 x z
              rw [List.set_comm _ _ (by omega), swap_two] at hsw2
              have e1 : (A ++ Z1').length = jp := HQ.out
              simp only [e1, List.length_nil, Nat.add_zero] at l1 l2 s1 s2
              have H2 : Hid (InsAt w0 g rest A Z x (R' ++ B) jp Z1' (z :: Z2) ((w3.drew.setRow g P1).setRow g P2)) := by
                refine ⟨by rw [← HI.out.parts]; simp, by rw [← e1, List.length_append], fun y hy => ?_, by simpa using hsw2⟩
                rcases List.mem_cons.1 hy with rfl | hy
                · exact HNEG.out.1 hlv
                · exact HI.out.up y hy
              clear hd hsw2 i1 i2 e1
              go_wp2_with fail
              go_big_region_o
              all_goals go_wp2
              go_roundw
              case rel => exact ⟨jp, Z1', z :: Z2, by omega, by omega, by first | rfl | go_num, H2⟩
              case measure => simp [intOf]
            · have hlvD : decide (zc < 0) = false := decide_eq_false hlv
              have HLV := Lib.hid hlv
              clear hlv
              go_wp2_with fail
              refine wp_region_quiet_below (by kernel_rfl) (by kernel_rfl) ?_
              repeat (go_big_quiet_step (exact C1 _ _))
              refine wpQuiet_nil fun w3 hw3 => ?_
              have hb3 : Below wr.heap.size wr w3 := by
                obtain ⟨p, rfl⟩ := hw3
                exact below_regrown wr p.d p.os
              clear hw3 L1 L2 C1
              obtain ⟨Z', e1, e2, e3, e4⟩ := OUT.out (fun y hy => by
                have hz : oR z ≤ oR x := by
                  have h1 := HLV.out
                  by_cases h3 : oR x < oR z
                  · have := HNEG.out.2 h3
                    omega
                  · omega
                rcases List.mem_append.1 hy with hy | hy
                · have hs := HSZ.out
                  rw [← HI.out.parts] at hs
                  exact Nat.le_trans (hs.left.across y hy z (by simp)) hz
                · simp at hy; subst hy; exact hz) w3 hb3
              have E1 := Lib.hid e1
              have E2 := Lib.hid e2
              have E3 := Lib.hid e3
              have E4 := Lib.hid e4
              clear e1 e2 e3 e4
              go_wp2
              go_roundw
              case rel => exact ⟨i + 1, Z', R', by omega, by omega, by go_num, E1, E2, E3, E4⟩
              case measure => simp [intOf]; omega
          · have hjaI : ¬ (a : Int) < j := by omega
            have hjaD : decide ((a : Int) < (j : Int)) = false := decide_eq_false hjaI
            have hZ1 : Z1 = [] := by
              have h1 := HI.out.at'
              have h2 := HA.out
              exact List.length_eq_zero_iff.1 (by omega)
            have HZ1 := Lib.hid hZ1
            clear hZ1
            go_wp2_with fail
            refine wp_region_quiet_below (by kernel_rfl) (by kernel_rfl) ?_
            repeat (go_big_quiet_step (fail))
            refine wpQuiet_nil fun w3 hw3 => ?_
            have hb3 : Below wr.heap.size wr w3 := by
              obtain ⟨p, rfl⟩ := hw3
              exact below_regrown wr p.d p.os
            clear hw3
            obtain ⟨Z', e1, e2, e3, e4⟩ := OUT.out (fun y hy => by rw [HZ1.out] at hy; simp at hy) w3 hb3
            have E1 := Lib.hid e1
            have E2 := Lib.hid e2
            have E3 := Lib.hid e3
            have E4 := Lib.hid e4
            clear e1 e2 e3 e4
            go_wp2
            go_roundw
            case rel => exact ⟨i + 1, Z', R', by omega, by omega, by go_num, E1, E2, E3, E4⟩
            case measure => simp [intOf]; omega
      · obtain rfl : i = b := by omega
        have hR : R = [] := by
          obtain ⟨Y, hY, hcl⟩ := HC.out
          have e1 := hcl.length
          have e2 := congrArg List.length hY
          have e3 := HL.out
          have e4 := HB.out
          have e5 := HA.out
          simp only [List.length_append, List.length_cons] at e2 e4
          exact List.length_eq_zero_iff.1 (by omega)
        have HR := Lib.hid hR
        clear hR
        go_wp2
        go_end0
        refine ⟨rfl, Z, ?_, HSZ.out, ?_⟩
        · have := HW.out
          rw [HR.out] at this
          simpa using this
        · obtain ⟨Y, hY, hcl⟩ := HC.out
          rw [HR.out, List.append_nil] at hY
          rw [← hY]; exact hcl
end Go.Proofs.Ytggjcjijoihilaa
