/- What is known of blocks in memory: slices that read so, the call's own ones; a block's value, its variable; numbers. -/
import Derived.Test.YtkpdkpfmljcllaaRows
import Derived.Test.YtkpdkpfmljcllaaWearP
import Derived.WalkKit
import Derived.WalkSpells
import Derived.WalkLawsBesides
import Derived.BigQuiet
import Derived.Below
import Derived.Lib.QuietBelow
import Derived.Lib.Hide
import Derived.Laws.AppendOwn
import Derived.Laws.AppendOwnNone
import Derived.Laws.OwnMore
import Derived.Lib.SliceRun
import Derived.LoopTactic
import Derived.Shelf.Abstract
import Derived.Deep.WholeRow
import Derived.Laws.CopyOwn
import Derived.OwnWalk
namespace Go.Proofs.Ytkpdkpfmljcllaa.Wear
open Go.RowKit Go.Sort Go.Shelf

theorem add_here (g o j : Nat) : (⟨g, o, none⟩ : Addr).add j = ⟨g, o + j, none⟩ := by unfold Addr.add; split <;> simp_all
theorem add_add (a : Addr) (m n : Nat) : (a.add m).add n = a.add (m + n) := by
  obtain ⟨b, o, s⟩ := a
  unfold Addr.add
  by_cases hm : m = 0 <;> by_cases hn : n = 0 <;> simp [hm, hn, Nat.add_assoc]
/-- A slice that reads as n things, whose cells these are. -/
def RdRow (w : World) (v : Value) (n : Nat) (cs : List Value) : Prop :=
  ∃ a cap, v = .slice a n cap ∧ n ≤ cap ∧ cap ≤ maxLen ∧ (a = none → cap = 0) ∧ ∀ ad, a = some ad → ∀ (j : Nat) u, cs[j]? = some u → w.cell? (ad.add j) = some u
theorem RdRow.later {w w' : World} {v : Value} {n : Nat} {cs : List Value} (h : RdRow w v n cs) (hb : Below w.heap.size w w') : RdRow w' v n cs := by
  obtain ⟨a, cap, h1, h2, h3, h4, h5⟩ := h
  refine ⟨a, cap, h1, h2, h3, h4, fun ad ha j u hu => ?_⟩
  have := h5 ad ha j u hu
  rw [hb.cell (World.block_lt_of_cell? _ _ this)]; exact this
theorem RdRow.form {w : World} {v : Value} {n : Nat} {cs : List Value} (h : RdRow w v n cs) {x : Value} (hn : 0 < n) (hx : cs[0]? = some x) : ∃ b o cap, v = .slice (some ⟨b, o, none⟩) n cap ∧ n ≤ cap ∧ cap ≤ maxLen ∧ ∀ (i : Nat) u, cs[i]? = some u → w.cell? ⟨b, o + i, none⟩ = some u := by
  obtain ⟨a, cap, h1, h2, h3, h4, h5⟩ := h
  cases a with
  | none => have := h4 rfl; omega
  | some ad =>
    obtain ⟨b, o, s⟩ := ad
    have c0 := h5 _ rfl 0 _ hx
    obtain rfl : s = none := by simpa [Addr.add] using World.cell?_spot c0
    exact ⟨b, o, cap, h1, h2, h3, fun i u hu => by rw [← add_here]; exact h5 _ rfl i _ hu⟩
theorem RdRow.len {w : World} {v : Value} {n : Nat} {cs : List Value} (h : RdRow w v n cs) : ∃ a cap, v = .slice a n cap ∧ n ≤ cap ∧ cap ≤ maxLen := by
  obtain ⟨a, cap, h1, h2, h3, -⟩ := h
  exact ⟨a, cap, h1, h2, h3⟩
theorem own_rdRow {w : World} {base : Nat} {e : TypeId} {size : Nat} {v : Value} {n : Nat} {cs : List Value} (h : w.ownsRow base e size v n cs) : RdRow w v n cs := by
  rcases h.2 with ⟨h1, h2⟩ | ⟨g, cap, cur, h1, h2, h3, h4, h5, h6, h7⟩
  · exact ⟨none, 0, by rw [h1, h2], by omega, Nat.zero_le _, fun _ => rfl, fun ad ha => by cases ha⟩
  · refine ⟨some ⟨g, 0, none⟩, cap, h1, h4, h5, (fun h => by cases h), fun ad ha j u hu => ?_⟩
    cases ha
    exact h.cells (by rw [h1]; rfl) j u hu
theorem own_later {w w' : World} {base : Nat} {e : TypeId} {size : Nat} {v : Value} {n : Nat} {cs : List Value} (h : w.ownsRow base e size v n cs) (hb : Below w.heap.size w w') : w'.ownsRow base e size v n cs := by
  refine ⟨h.1, ?_⟩
  rcases h.2 with h1 | ⟨g, cap, cur, h1, h2, h3, h4⟩
  · exact .inl h1
  · exact .inr ⟨g, cap, cur, h1, h2, by rw [hb.block g (Array.getElem?_eq_some_iff.1 h3).1]; exact h3, h4⟩
theorem own_mono {w : World} {base base' : Nat} {e : TypeId} {size : Nat} {v : Value} {n : Nat} {cs : List Value} (h : w.ownsRow base e size v n cs) (hb : base' ≤ base) : w.ownsRow base' e size v n cs := by
  refine ⟨h.1, ?_⟩
  rcases h.2 with h1 | ⟨g, cap, cur, h1, h2, h3⟩
  · exact .inl h1
  · exact .inr ⟨g, cap, cur, h1, by omega, h3⟩
theorem own_form {w : World} {base : Nat} {e : TypeId} {size : Nat} {v : Value} {n : Nat} {cs : List Value} (h : w.ownsRow base e size v n cs) (hn : 0 < n) : ∃ g cap, v = .slice (some ⟨g, 0, none⟩) n cap ∧ n ≤ cap ∧ cap ≤ maxLen ∧ base ≤ g ∧ g < w.heap.size := by
  rcases h.2 with ⟨-, h0⟩ | ⟨g, cap, cur, h1, h2, h3, h4, h5, -⟩
  · omega
  · exact ⟨g, cap, h1, h4, h5, h2, (Array.getElem?_eq_some_iff.1 h3).1⟩
theorem grown_set (w : World) (g j : Nat) (u : Value) : w.grownBy (w.setCell ⟨g, j, none⟩ u) (some g) :=
  ⟨rfl, rfl, rfl, by simp, fun k _ hk => heap_setCell_other w ⟨g, j, none⟩ k u (fun e => hk (by simp [e]))⟩
theorem set_same {α : Type} : ∀ {l : List α} {i : Nat} {x : α}, l[i]? = some x → l.set i x = l
  | y :: l, 0, x, h => by simp at h; subst h; rfl
  | y :: l, i + 1, x, h => by simp at h; rw [List.set_cons_succ, set_same h]
  | [], _, _, h => by simp at h
theorem bcell {W w1 : World} (hb : Below W.heap.size W w1) : (∀ b o, b < W.heap.size → w1.cell? ⟨b, o, none⟩ = W.cell? ⟨b, o, none⟩) ∧ (∀ b o, b < W.heap.size → w1.frozen? ⟨b, o, none⟩ = W.frozen? ⟨b, o, none⟩) :=
  ⟨fun b o h => hb.cell (p := ⟨b, o, none⟩) h, fun b o h => hb.frozen (p := ⟨b, o, none⟩) h⟩
theorem keep_cell {w w' : World} {p : Addr} {v : Value} (h : w.cell? p = some v) (hb : Below w.heap.size w w') : w'.cell? p = some v := by
  rw [hb.cell (World.block_lt_of_cell? _ _ h)]; exact h

/-! ### Cells -/
def wbC (b : Wb) : List Value := [.int .i64 b.live, .int .i64 b.used, .int .i64 b.worn, .bool b.bad]
def wbA (b : Wb) : Array Value := #[.int .i64 b.live, .int .i64 b.used, .int .i64 b.worn, .bool b.bad]
def wbV (b : Wb) : Value := .agg #[.int .i64 b.live, .int .i64 b.used, .int .i64 b.worn, .bool b.bad]
def blA (b : Wb) (p : Int) : Array Value := #[.int .i64 b.live, .int .i64 b.used, .int .i64 b.worn, .bool b.bad, .int .i64 p]
def blV (b : Wb) (p : Int) : Value := .agg #[.int .i64 b.live, .int .i64 b.used, .int .i64 b.worn, .bool b.bad, .int .i64 p]
def wbAll (l : List Wb) : List Value := l.flatMap wbC
theorem wbAll_length (l : List Wb) : (wbAll l).length = l.length * 4 := by
  unfold wbAll
  induction l with
  | nil => rfl
  | cons f fs ih => rw [List.flatMap_cons, List.length_append, ih, List.length_cons]; show 4 + _ = _; omega
theorem wbAll_append (a b : List Wb) : wbAll (a ++ b) = wbAll a ++ wbAll b := by simp [wbAll]
theorem wbAll_one (l : List Wb) : ∀ u ∈ wbAll l, u.oneCell' = true := fun u hu => by
  obtain ⟨b, -, h⟩ := List.mem_flatMap.1 hu
  simp [wbC] at h
  rcases h with rfl | rfl | rfl | rfl <;> rfl
theorem wbAll_at {l : List Wb} {i : Nat} {b : Wb} (h : l[i]? = some b) {j : Nat} (hj : j < 4) : (wbAll l)[i * 4 + j]? = (wbC b)[j]? := by
  unfold wbAll
  induction l generalizing i with
  | nil => simp at h
  | cons g fs ih =>
    rw [List.flatMap_cons]
    cases i with
    | zero =>
      simp at h; subst h
      rw [Nat.zero_mul, Nat.zero_add, List.getElem?_append_left (by show j < 4; exact hj)]
    | succ i =>
      simp at h
      rw [List.getElem?_append_right (by show 4 ≤ _; omega), show (wbC g).length = 4 from rfl, show (i + 1) * 4 + j - 4 = i * 4 + j by omega]
      exact ih h
theorem wbAll_set {l : List Wb} {i : Nat} {b b' : Wb} (h : l[i]? = some b) {j : Nat} (hj : j < 4) (u : Value) (e : wbC b' = (wbC b).set j u) : (wbAll l).set (i * 4 + j) u = wbAll (l.set i b') := by
  unfold wbAll
  induction l generalizing i with
  | nil => simp at h
  | cons g fs ih =>
    cases i with
    | zero =>
      simp at h; subst h
      rw [List.flatMap_cons, Nat.zero_mul, Nat.zero_add, List.set_append_left _ _ (by show j < 4; exact hj), List.set_cons_zero, List.flatMap_cons, e]
    | succ i =>
      simp at h
      rw [List.flatMap_cons, List.set_append_right _ _ (by show 4 ≤ _; omega), show (wbC g).length = 4 from rfl, show (i + 1) * 4 + j - 4 = i * 4 + j by omega, ih h, List.set_cons_succ, List.flatMap_cons]
def iV (x : Int) : Value := .int .i64 x
def cellsI (l : List Int) : List Value := l.map iV
theorem cellsI_length (l : List Int) : (cellsI l).length = l.length := by simp [cellsI]
theorem cellsI_one (l : List Int) : ∀ u ∈ cellsI l, u.oneCell' = true := fun u hu => by
  obtain ⟨x, -, rfl⟩ := List.mem_map.1 hu; rfl
theorem cellsI_at {l : List Int} {i : Nat} {x : Int} (h : l[i]? = some x) : (cellsI l)[i]? = some (iV x) := by
  unfold cellsI; rw [List.getElem?_map, h]; rfl

/-! ### What reads so, and what is the call's own -/
def RdW (w : World) (v : Value) (l : List Wb) : Prop := RdRow w v l.length (wbAll l)
def OwnW (w : World) (base : Nat) (v : Value) (l : List Wb) : Prop := w.ownsRow base 31 4 v l.length (wbAll l)
def RdI (w : World) (v : Value) (l : List Int) : Prop := RdRow w v l.length (cellsI l)
def OwnI (w : World) (base : Nat) (v : Value) (l : List Int) : Prop := w.ownsRow base 3 1 v l.length (cellsI l)
theorem RdW.later {w w' : World} {v : Value} {l : List Wb} (h : RdW w v l) (hb : Below w.heap.size w w') : RdW w' v l := RdRow.later h hb
theorem RdI.later {w w' : World} {v : Value} {l : List Int} (h : RdI w v l) (hb : Below w.heap.size w w') : RdI w' v l := RdRow.later h hb
theorem OwnW.later {w w' : World} {base : Nat} {v : Value} {l : List Wb} (h : OwnW w base v l) (hb : Below w.heap.size w w') : OwnW w' base v l := own_later h hb
theorem OwnI.later {w w' : World} {base : Nat} {v : Value} {l : List Int} (h : OwnI w base v l) (hb : Below w.heap.size w w') : OwnI w' base v l := own_later h hb
theorem OwnW.rd {w : World} {base : Nat} {v : Value} {l : List Wb} (h : OwnW w base v l) : RdW w v l := own_rdRow h
theorem OwnI.rd {w : World} {base : Nat} {v : Value} {l : List Int} (h : OwnI w base v l) : RdI w v l := own_rdRow h
/-- The shape of a slice of blocks: each one's cells. -/
theorem RdW.form {w : World} {v : Value} {l : List Wb} (h : RdW w v l) (hl : 0 < l.length) : ∃ b o cap, v = .slice (some ⟨b, o, none⟩) l.length cap ∧ l.length ≤ cap ∧ cap ≤ maxLen ∧ ∀ (i : Nat) u, (wbAll l)[i]? = some u → w.cell? ⟨b, o + i, none⟩ = some u := by
  have h0 : l[0]? = some (l[0]'hl) := List.getElem?_eq_getElem _
  exact RdRow.form h hl (by have := wbAll_at h0 (j := 0) (by omega); simpa [wbC] using this)
theorem four_cells {w : World} {b o : Nat} {l : List Wb} (h : ∀ (i : Nat) u, (wbAll l)[i]? = some u → w.cell? ⟨b, o + i, none⟩ = some u) {i : Nat} {x : Wb} (hx : l[i]? = some x) :
    w.cell? ⟨b, o + i * 4, none⟩ = some (.int .i64 x.live) ∧ w.cell? ⟨b, o + i * 4 + 1, none⟩ = some (.int .i64 x.used) ∧ w.cell? ⟨b, o + i * 4 + 2, none⟩ = some (.int .i64 x.worn) ∧ w.cell? ⟨b, o + i * 4 + 3, none⟩ = some (.bool x.bad) := by
  have k := fun (j : Nat) (hj : j < 4) u (hu : (wbC x)[j]? = some u) => h (i * 4 + j) u (by rw [wbAll_at hx hj]; exact hu)
  refine ⟨k 0 (by omega) _ rfl, ?_, ?_, ?_⟩
  · rw [Nat.add_assoc]; exact k 1 (by omega) _ rfl
  · rw [Nat.add_assoc]; exact k 2 (by omega) _ rfl
  · rw [Nat.add_assoc]; exact k 3 (by omega) _ rfl

/-! ### Loads and stores of a whole one, behind names -/
def wbLoad (a : Addr) : Sem Value := loadVar 31 a
theorem loadVar_wb (a : Addr) : loadVar 31 a = wbLoad a := rfl
def wbStore (a : Addr) (v : Value) : Sem Unit := storeVar 31 a v
theorem storeVar_wb (a : Addr) (v : Value) : storeVar 31 a v = wbStore a v := rfl
def blLoad (a : Addr) : Sem Value := loadVar 36 a
theorem loadVar_bl (a : Addr) : loadVar 36 a = blLoad a := rfl
def blStore (a : Addr) (v : Value) : Sem Unit := storeVar 36 a v
theorem storeVar_bl (a : Addr) (v : Value) : storeVar 36 a v = blStore a v := rfl
def blBuild (parts : Array (Nat × Value)) : Sem Value := Instr.build 36 parts
theorem build_bl (parts : Array (Nat × Value)) : Instr.build 36 parts = blBuild parts := rfl
theorem run_blBuild (b : Wb) (p : Int) (w : World) : (blBuild #[(0, wbV b), (1, .int .i64 p)]).run Try.prog w = .ok (blV b p) w := by kernel_rfl
theorem infoWb : (Try.prog.info? 31).map (·.size) = some 4 := by kernel_rfl
theorem infoBl : (Try.prog.info? 36).map (·.size) = some 5 := by kernel_rfl
def zw : Array Value := #[.int .i64 0, .int .i64 0, .int .i64 0, .bool false]
def zb : Array Value := #[.int .i64 0, .int .i64 0, .int .i64 0, .bool false, .int .i64 0]
/-- A box that holds a struct's cells. -/
def Box (t : TypeId) (w : World) (B : Nat) (cs : Array Value) : Prop := w.heap[B]? = some (.cells cs t (0, 0))
theorem Box.lt {t : TypeId} {w : World} {B : Nat} {cs : Array Value} (h : Box t w B cs) : B < w.heap.size := (Array.getElem?_eq_some_iff.1 h).1
theorem Box.later {t : TypeId} {w w' : World} {B : Nat} {cs : Array Value} (h : Box t w B cs) (hb : Below w.heap.size w w') : Box t w' B cs := (hb.block _ h.lt).trans h
theorem Box.cell {t : TypeId} {w : World} {B : Nat} {cs : Array Value} (h : Box t w B cs) (j : Nat) : w.cell? ⟨B, j, none⟩ = cs[j]? := cell_of_row w B j cs _ (0, 0) h
theorem Box.new (t : TypeId) (w : World) (cs : Array Value) : Box t (w.alloc (.cells cs t)) w.heap.size cs := Go.heap_alloc_new w _
/-- All cells of a struct, loaded. -/
theorem run_load_cells {P : Program} {w : World} {T : TypeId} {a : Addr} {cs : List Value} {d : TypeDesc} (hu : P.underlying T = some d) (hd : (match d with | .struct _ | .array _ _ => true | _ => false) = true)
    (hi : (P.info? T).map (·.size) = some cs.length) (h : ∀ (j : Nat) u, cs[j]? = some u → w.cell? (a.add j) = some u) : (loadVar T a).run P w = .ok (.agg cs.toArray) w := by
  have hl : (loadCells a cs.length).run P w = .ok cs.toArray w := run_loadCells_list (P := P) w a cs h
  cases hq : P.info? T with
  | none => simp [hq] at hi
  | some i =>
    have hs : i.size = cs.length := by simpa [hq] using hi
    have hagg : (isAgg T).run P w = .ok true w := by
      unfold isAgg
      rw [Sem.run_bind, run_underlying hu w]
      cases d <;> simp_all
    simp [loadVar, Sem.run_bind, hagg, sizeOf, typeInfo, hq, hs, hl]
theorem run_wbLoad {w : World} {b o i : Nat} {l : List Wb} {x : Wb} (h : ∀ (j : Nat) u, (wbAll l)[j]? = some u → w.cell? ⟨b, o + j, none⟩ = some u) (hx : l[i]? = some x) : (wbLoad ⟨b, o + i * 4, none⟩).run Try.prog w = .ok (wbV x) w :=
  run_load_cells (cs := wbC x) Try.underlying31 rfl infoWb fun j u hu => by
    have hj : j < 4 := (List.getElem?_eq_some_iff.1 hu).1
    rw [add_here, Nat.add_assoc]
    exact h _ u (by rw [wbAll_at hx hj]; exact hu)
theorem box_wb {w : World} {B : Nat} {b : Wb} (h : Box 31 w B (wbA b)) : (wbLoad ⟨B, 0, none⟩).run Try.prog w = .ok (wbV b) w :=
  run_load_cells (cs := wbC b) Try.underlying31 rfl infoWb fun j u hu => by
    rw [add_here, Nat.zero_add, h.cell]; simpa [wbA, wbC] using hu
theorem box_bl {w : World} {B : Nat} {b : Wb} {p : Int} (h : Box 36 w B (blA b p)) : (blLoad ⟨B, 0, none⟩).run Try.prog w = .ok (blV b p) w :=
  run_load_cells (cs := [.int .i64 b.live, .int .i64 b.used, .int .i64 b.worn, .bool b.bad, .int .i64 p]) Try.underlying36 rfl infoBl fun j u hu => by
    rw [add_here, Nat.zero_add, h.cell]; simpa [blA] using hu
theorem wb_new (W : World) (b : Wb) : (wbStore ⟨W.heap.size, 0, none⟩ (wbV b)).run Try.prog (W.alloc (.cells zw 31)) = .ok () (W.alloc (.cells (wbA b) 31)) := by
  have h := run_storeVar_row (P := Try.prog) _ W.heap.size 31 31 zw (wbA b) (Box.new 31 W zw) infoWb rfl (by simp [wbA]; exact ⟨rfl, rfl, rfl, rfl⟩)
  rw [World.setRow_alloc_new] at h
  exact h
theorem bl_new (W : World) (b : Wb) (p : Int) : (blStore ⟨W.heap.size, 0, none⟩ (blV b p)).run Try.prog (W.alloc (.cells zb 36)) = .ok () (W.alloc (.cells (blA b p) 36)) := by
  have h := run_storeVar_row (P := Try.prog) _ W.heap.size 36 36 zb (blA b p) (Box.new 36 W zb) infoBl rfl (by simp [blA]; exact ⟨rfl, rfl, rfl, rfl, rfl⟩)
  rw [World.setRow_alloc_new] at h
  exact h
theorem ret_int {k : IntKind} {a b : Int} (h : a = b) : Ending.returned (.int k a) = .returned (.int k b) := by rw [h]
theorem ret_bool {a b : Bool} (h : a = b) : Ending.returned (.bool a) = .returned (.bool b) := by rw [h]
theorem below1 (w : World) (o : Obj) : Below w.heap.size w (w.alloc o) := (Below.refl _ _).alloc (Nat.le_refl _) o
theorem below2 (w : World) (o o' : Obj) : Below w.heap.size w ((w.alloc o).alloc o') := ((Below.refl _ _).alloc (Nat.le_refl _) o).alloc (by simp) o'
end Go.Proofs.Ytkpdkpfmljcllaa.Wear
