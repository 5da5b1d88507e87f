/- A row of routes of the call's own: a store of one, a copy, an append in place, a clear. -/
import Derived.Test.YtcpdpcfejpbdpaaTabUnder
import Derived.Shelf.Spec.SlicesInsert
import Derived.Deep.RegionLaw
import Derived.Lib.SliceRun
import Derived.Laws.IdiomCopy
namespace Go.Proofs.Ytcpdpcfejpbdpaa
open Go.RowKit Go.Sort Go.Shelf

/-- A block that holds cells of routes. -/
def Row (w : World) (g : Nat) (cs : List Value) : Prop := w.heap[g]? = some (.cells cs.toArray 34 (0, 0))

theorem Row.lt {w : World} {g : Nat} {cs : List Value} (h : Row w g cs) : g < w.heap.size := heap_lt h
theorem Row.set {w : World} {g : Nat} {cs : List Value} (h : Row w g cs) (ds : List Value) : Row (w.setRow g ds.toArray) g ds := setRow_heap _ _ _ _ _ _ h
theorem Row.later {w w' : World} {g : Nat} {cs : List Value} (h : Row w g cs) (hb : Below w.heap.size w w') : Row w' g cs := by
  unfold Row; rw [hb.block _ h.lt]; exact h
theorem Row.cells {w : World} {g : Nat} {cs : List Value} (h : Row w g cs) : CellsAt w ⟨g, 0, none⟩ cs := fun j u hu => by
  have hadd : (⟨g, 0, none⟩ : Addr).add j = ⟨g, j, none⟩ := by unfold Addr.add; split <;> simp_all
  rw [hadd, cell_of h]; simpa using hu
theorem Row.drew {w : World} {g : Nat} {cs : List Value} (h : Row w g cs) : Row w.drew g cs := h
theorem grown_setRow (w : World) (g : Nat) (cs : Array Value) : w.grownBy (w.setRow g cs) (some g) := ⟨rfl, rfl, rfl, by simp, fun k _ hne => setRow_other w g k cs (fun e => hne (by rw [e]))⟩
theorem grown_refl (w : World) (row : Option Nat) : w.grownBy w row := ⟨rfl, rfl, rfl, Nat.le_refl _, fun _ _ _ => rfl⟩
theorem grown_trans {a b c : World} {row : Option Nat} (h : a.grownBy b row) (k : b.grownBy c row) : a.grownBy c row :=
  ⟨k.os.trans h.os, k.tape.trans h.tape, k.output.trans h.output, Nat.le_trans h.size k.size, fun i hi hne => (k.block i (Nat.lt_of_lt_of_le hi h.size) hne).trans (h.block i hi hne)⟩
theorem grown_below {a b : World} (h : Below a.heap.size a b) (row : Option Nat) : a.grownBy b row := ⟨h.os, h.tape, h.output, h.size, fun i hi _ => h.block i hi⟩
theorem grown_drew {a b : World} {row : Option Nat} (h : a.grownBy b row) : a.grownBy b.drew row := ⟨h.os, h.tape, h.output, h.size, h.block⟩

theorem add_here (g o j : Nat) : (⟨g, o, none⟩ : Addr).add j = ⟨g, o + j, none⟩ := by unfold Addr.add; split <;> simp_all

/-- A run of stores into a row, cell by cell or at once. -/
theorem setCells_row {w : World} {g : Nat} {cs : List Value} (h : Row w g cs) (o : Nat) (vs : List Value) (hf : o + vs.length ≤ cs.length) (h1 : ∀ v ∈ vs, v.oneCell' = true) : w.setCells g o vs = w.setRow g (cs.take o ++ vs ++ cs.drop (o + vs.length)).toArray := by
  have a := run_storeCells_cells (P := Try.prog) g o vs 0 w (fun j hj => by
    rw [Nat.add_zero, cell_of h, List.getElem?_toArray, List.getElem?_eq_getElem (by omega)]; rfl) (fun j _ => frozen_of h _) h1
  have b := run_storeCells_at Try.prog g o 34 vs 0 cs.toArray w h (by simpa using hf) h1
  rw [a] at b
  simp only [Nat.add_zero, Result.ok.injEq, true_and] at b
  exact b

/-- A whole route, stored at place i of a row. -/
theorem run_routeStore_at {w : World} {g : Nat} {l : List Rt} {rest : List Value} (h : Row w g (fl l ++ rest)) {i : Nat} (hi : i < l.length) (r : Rt) :
    (routeStore ⟨g, i * 19, none⟩ (.agg (rc r))).run Try.prog w = .ok () (w.setRow g (fl (l.set i r) ++ rest).toArray) := by
  have hlen : i * 19 + 19 ≤ (fl l).length := by rw [fl_length]; omega
  have b := run_storeCells_at Try.prog g (i * 19) 34 (rl r) 0 (fl l ++ rest).toArray w h (by rw [rl_length]; simp; omega) (rl_one r)
  have e : (fl l ++ rest).take (i * 19) ++ rl r ++ (fl l ++ rest).drop (i * 19 + 19) = fl (l.set i r) ++ rest := by
    rw [List.take_append_of_le_length (by omega), List.drop_append_of_le_length (by omega), fl_take, show i * 19 + 19 = (i + 1) * 19 by omega, fl_drop, List.set_eq_take_append_cons_drop, if_pos hi, fl_append, fl_cons]
    simp
  simp only [Nat.add_zero, rl_length] at b
  rw [e] at b
  obtain ⟨i0, h0, h1, h2, h3⟩ := infoR'
  simp [routeStore, storeVar, sizeOf, typeInfo, h0, h2, Value.cells, rc, rl_length, b]

/-- copy, into a row. -/
theorem run_copyR {w : World} {g : Nat} {cur : List Value} (h : Row w g cur) (ty : TypeId) (o dLen dCap : Nat) (a : Addr) (sLen sCap m : Nat) (cs : List Value) (hm : m = Nat.min sLen dLen) (hl : cs.length = m * 19) (hsrc : CellsAt w a cs)
    (hfit : o + cs.length ≤ cur.length) (h1 : ∀ v ∈ cs, v.oneCell' = true) :
    (Builtin.copy_ #[22, 22] ty #[.slice (some ⟨g, o, none⟩) dLen dCap, .slice (some a) sLen sCap]).run Try.prog w = .ok (goInt m) (w.setRow g (cur.take o ++ cs ++ cur.drop (o + cs.length)).toArray) := by
  have hl' := run_loadCells_list (P := Try.prog) w a cs hsrc
  have hst := run_storeCells_at Try.prog g o 34 cs 0 cur.toArray w h (by simpa using hfit) h1
  obtain ⟨i0, e0, e1, e2, e3⟩ := infoR'
  rw [hl] at hl'
  simp only [Nat.add_zero] at hst
  simp [Builtin.copy_, run_underlying Try.underlying22, Builtin.lenOf, Builtin.firstCells, sizeOf, typeInfo, e0, e2, ← hm, hl', hst]

/-- clear, of a part of a row: it holds something else. -/
theorem run_clearR {w : World} {g : Nat} {cur : List Value} (h : Row w g cur) (o n c : Nat) (hfit : o + n * 19 ≤ cur.length) :
    ∃ zs : List Value, zs.length = n * 19 ∧ (∀ v ∈ zs, v.oneCell' = true) ∧ ∀ ty, (Builtin.clear_ #[22] ty #[.slice (some ⟨g, o, none⟩) n c]).run Try.prog w = .ok (.tuple #[]) (w.setRow g (cur.take o ++ zs ++ cur.drop (o + n * 19)).toArray) := by
  have hlen : (Builtin.zeroCells (rc zrt) n).toList.length = n * 19 := by simp [Builtin.zeroCells, rc_size]
  have hone : ∀ v ∈ (Builtin.zeroCells (rc zrt) n).toList, v.oneCell' = true := by
    intro v hv
    simp only [Builtin.zeroCells, Array.toList_map, List.mem_map] at hv
    obtain ⟨i, _, rfl⟩ := hv
    have hi : i % (rc zrt).size < (rc zrt).size := Nat.mod_lt _ (by rw [rc_size]; decide)
    rw [getElem!_pos (rc zrt) _ hi]
    exact rl_one zrt _ (by simp [rc])
  refine ⟨(Builtin.zeroCells (rc zrt) n).toList, hlen, hone, fun ty => ?_⟩
  have hst := run_storeCells_at Try.prog g o 34 (Builtin.zeroCells (rc zrt) n).toList 0 cur.toArray w h (by rw [hlen]; simpa using hfit) hone
  obtain ⟨i0, e0, e1, e2, e3⟩ := infoR'
  rw [hlen] at hst
  simp only [Nat.add_zero] at hst
  cases n with
  | zero =>
    have : (Builtin.zeroCells (rc zrt) 0).toList = [] := by simp [Builtin.zeroCells]
    rw [this]
    simp only [Nat.zero_mul, Nat.add_zero, List.append_nil, List.take_append_drop]
    rw [setRow_self w g cur.toArray _ _ h]
    simp [Builtin.clear_, run_underlying Try.underlying22]
  | succ n => simp [Builtin.clear_, run_underlying Try.underlying22, zeroValue, typeInfo, e0, e1, Value.cells, hst]

/-- A list that lies in a row of its own: the row, what is behind the list in it, and the row's size. -/
structure OwnAt (w : World) (base : Nat) (g cap : Nat) (l : List Rt) (rest : List Value) : Prop where
  base : base ≤ g
  row : Row w g (fl l ++ rest)
  size : rest.length = (cap - l.length) * 19
  le : l.length ≤ cap
  max : cap ≤ maxLen

theorem OwnAt.own {w : World} {base g cap : Nat} {l : List Rt} {rest : List Value} (h : OwnAt w base g cap l rest) : Own w base (.slice (some ⟨g, 0, none⟩) l.length cap) l :=
  ⟨fl_length l, .inr ⟨g, cap, (fl l ++ rest).toArray, rfl, h.base, h.row, h.le, h.max, by simp [fl_length, h.size]; have := h.le; omega, by
    rw [List.take_append_of_le_length (by rw [fl_length]; exact Nat.le_refl _), List.take_of_length_le (by rw [fl_length]; exact Nat.le_refl _)]⟩⟩
theorem Own.at' {w : World} {base : Nat} {v : Value} {l : List Rt} (h : Own w base v l) : (v = .slice none 0 0 ∧ l = []) ∨ ∃ g cap rest, v = .slice (some ⟨g, 0, none⟩) l.length cap ∧ OwnAt w base g cap l rest := by
  rcases h.2 with ⟨h1, h2⟩ | ⟨g, cap, cur, h1, h2, h3, h4, h5, h6, h7⟩
  · exact .inl ⟨h1, List.length_eq_zero_iff.1 h2⟩
  · refine .inr ⟨g, cap, cur.toList.drop (l.length * 19), h1, h2, ?_, ?_, h4, h5⟩
    · unfold Row
      rw [← h7, List.take_append_drop, Array.toArray_toList]; exact h3
    · rw [List.length_drop, Array.length_toList, h6]; omega
end Go.Proofs.Ytcpdpcfejpbdpaa
