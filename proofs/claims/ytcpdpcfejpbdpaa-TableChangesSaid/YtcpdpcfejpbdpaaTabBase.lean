/- Routes, and lists of them, as values: their cells, a load of one, a store of one. -/
import Derived.Test.YtcpdpcfejpbdpaaKeyPreEq
import Derived.Test.YtcpdpcfejpbdpaaKeySt
import Derived.Test.YtcpdpcfejpbdpaaKeyOrd
import Derived.Test.YtcpdpcfejpbdpaaKeyLess
import Derived.Laws.AppendOwn
import Derived.Laws.CopyOwn
import Derived.OwnWalk
namespace Go.Proofs.Ytcpdpcfejpbdpaa
open Go.RowKit Go.Sort

/-- A route: its prefix, where it leads; the bytes behind its key are nothing. -/
structure Rt where
  pre : Pre
  hop : Nat
  hk : Bytes16 pre.key
  hz : ∀ i, 16 ≤ i → pre.key i = 0
  hh : hop < 65536

def zpre : Pre := ⟨0, 0, zkey⟩
theorem zkey_bytes : Bytes16 zkey := fun _ => Nat.zero_lt_succ _
def zrt : Rt := ⟨zpre, 0, zkey_bytes, fun _ _ => rfl, by decide⟩
instance : Inhabited Rt := ⟨zrt⟩

def rl (r : Rt) : List Value := (pc r.pre).toList ++ [.int .u16 (r.hop : Nat)]
def rc (r : Rt) : Array Value := (rl r).toArray
def fl (l : List Rt) : List Value := l.flatMap rl

theorem rl_length (r : Rt) : (rl r).length = 19 := by simp [rl, pc_size]
theorem rc_size (r : Rt) : (rc r).size = 19 := by simp [rc, rl_length]
theorem fl_nil : fl [] = [] := rfl
theorem fl_cons (r : Rt) (l : List Rt) : fl (r :: l) = rl r ++ fl l := by simp [fl]
theorem fl_append (a b : List Rt) : fl (a ++ b) = fl a ++ fl b := by simp [fl]
theorem fl_one (r : Rt) : fl [r] = rl r := by simp [fl]
theorem fl_length (l : List Rt) : (fl l).length = l.length * 19 := by
  induction l with
  | nil => rfl
  | cons r l ih => rw [fl_cons, List.length_append, rl_length, ih, List.length_cons]; omega
theorem fl_at {l : List Rt} {i : Nat} {r : Rt} (h : l[i]? = some r) {j : Nat} (hj : j < 19) : (fl l)[i * 19 + j]? = (rl r)[j]? := by
  induction l generalizing i with
  | nil => simp at h
  | cons s l ih =>
    rw [fl_cons]
    cases i with
    | zero =>
      simp at h; subst h
      rw [Nat.zero_mul, Nat.zero_add, List.getElem?_append_left (by rw [rl_length]; exact hj)]
    | succ i =>
      simp at h
      rw [List.getElem?_append_right (by rw [rl_length]; omega), rl_length, show (i + 1) * 19 + j - 19 = i * 19 + j by omega]
      exact ih h
theorem fl_take (l : List Rt) (n : Nat) : (fl l).take (n * 19) = fl (l.take n) := by
  induction l generalizing n with
  | nil => simp [fl]
  | cons s l ih =>
    cases n with
    | zero => simp [fl]
    | succ n =>
      rw [List.take_succ_cons, fl_cons, fl_cons, List.take_append, rl_length, List.take_of_length_le (by rw [rl_length]; omega), show (n + 1) * 19 - 19 = n * 19 by omega, ih]
theorem fl_drop (l : List Rt) (n : Nat) : (fl l).drop (n * 19) = fl (l.drop n) := by
  induction l generalizing n with
  | nil => simp [fl]
  | cons s l ih =>
    cases n with
    | zero => simp [fl]
    | succ n =>
      rw [List.drop_succ_cons, fl_cons, List.drop_append, rl_length, List.drop_of_length_le (by rw [rl_length]; omega), show (n + 1) * 19 - 19 = n * 19 by omega, ih, List.nil_append]
theorem pc_ones (p : Pre) : ∀ v ∈ (pc p).toList, v.oneCell' = true := fun v hv => by
  simp only [pc, List.mem_cons] at hv
  rcases hv with rfl | rfl | hv
  · rfl
  · rfl
  · exact kl_one _ v hv
theorem rl_one (r : Rt) : ∀ v ∈ rl r, v.oneCell' = true := fun v hv => by
  rcases List.mem_append.1 hv with h | h
  · exact pc_ones _ v h
  · simp at h; subst h; rfl
theorem fl_ones (l : List Rt) : ∀ v ∈ fl l, v.oneCell' = true := fun v hv => by
  obtain ⟨r, _, h⟩ := List.mem_flatMap.1 hv
  exact rl_one r v h

theorem rc_pre (r : Rt) (i : Nat) (h : i < 18) : (rc r)[i]? = (pc r.pre)[i]? := by
  simp only [rc, rl, List.getElem?_toArray]
  rw [List.getElem?_append_left (by simp [pc_size]; exact h), Array.getElem?_toList]
theorem rc_hop (r : Rt) : (rc r)[18]? = some (.int .u16 (r.hop : Nat)) := by
  simp only [rc, rl, List.getElem?_toArray]
  rw [List.getElem?_append_right (by simp [pc_size])]; simp [pc_size]

/-- Cells that lie in memory from an address on. -/
def CellsAt (w : World) (a : Addr) (cs : List Value) : Prop := ∀ j u, cs[j]? = some u → w.cell? (a.add j) = some u

theorem add_add (a : Addr) (i j : Nat) : (a.add i).add j = a.add (i + j) := by
  unfold Addr.add
  by_cases h : i = 0
  · subst h; simp
  · by_cases h2 : j = 0
    · subst h2; simp
    · simp [h, h2, Nat.add_assoc]
theorem add_zero' (a : Addr) : a.add 0 = a := by simp [Addr.add]

theorem CellsAt.part {w : World} {a : Addr} {cs : List Value} (h : CellsAt w a cs) {o : Nat} {ds : List Value} (hd : ∀ j u, ds[j]? = some u → cs[o + j]? = some u) : CellsAt w (a.add o) ds := fun j u hu => by
  rw [add_add]; exact h _ _ (hd j u hu)
theorem CellsAt.route {w : World} {a : Addr} {l : List Rt} (h : CellsAt w a (fl l)) {i : Nat} {r : Rt} (hr : l[i]? = some r) : CellsAt w (a.add (i * 19)) (rl r) :=
  h.part fun j u hu => by
    have hj : j < 19 := by rw [← rl_length r]; exact (List.getElem?_eq_some_iff.1 hu).1
    rw [fl_at hr hj]; exact hu
theorem CellsAt.pre {w : World} {a : Addr} {r : Rt} (h : CellsAt w a (rl r)) : CellsAt w a (pc r.pre).toList := fun j u hu => h j u (by
  have hj := (List.getElem?_eq_some_iff.1 hu).1
  unfold rl; rw [List.getElem?_append_left hj]; exact hu)
theorem CellsAt.hop {w : World} {a : Addr} {r : Rt} (h : CellsAt w a (rl r)) : w.cell? (a.add 18) = some (.int .u16 (r.hop : Nat)) := h 18 _ (by
  have := rc_hop r; simpa [rc] using this)
theorem CellsAt.lt {w : World} {a : Addr} {cs : List Value} (h : CellsAt w a cs) (hc : cs ≠ []) : a.block < w.heap.size := by
  cases cs with
  | nil => exact absurd rfl hc
  | cons v cs =>
    have := h 0 v rfl
    rw [add_zero'] at this
    exact World.block_lt_of_cell? w a this
theorem add_block (a : Addr) (n : Nat) : (a.add n).block = a.block := by unfold Addr.add; split <;> rfl
theorem CellsAt.below {w w' : World} {a : Addr} {cs : List Value} {B : Nat} (h : CellsAt w a cs) (hb : Below B w w') (hB : a.block < B) : CellsAt w' a cs := fun j u hu => by
  rw [hb.cell (p := a.add j) (by rw [add_block]; exact hB)]; exact h j u hu
theorem CellsAt.later {w w' : World} {a : Addr} {cs : List Value} (h : CellsAt w a cs) (hb : Below w.heap.size w w') : CellsAt w' a cs := fun j u hu => by
  have h1 := h j u hu
  rw [hb.cell (p := a.add j) (World.block_lt_of_cell? w _ h1)]; exact h1
theorem CellsAt.rowAt {w : World} {b off : Nat} {cs : Array Value} (h : CellsAt w ⟨b, off, none⟩ cs.toList) : RowAt w b off cs := fun j v hv => by
  have := h j v (by simpa using hv)
  have hadd : (⟨b, off, none⟩ : Addr).add j = ⟨b, off + j, none⟩ := by unfold Addr.add; split <;> simp_all
  rwa [hadd] at this

/-- All cells of an array or a struct, loaded, wherever they lie. -/
theorem run_load_at {P : Program} {w : World} {T : TypeId} {a : Addr} {cs : List Value} {d : TypeDesc} (hu : P.underlying T = some d) (hd : (match d with | .struct _ | .array _ _ => true | _ => false) = true)
    (hi : (P.info? T).map (·.size) = some cs.length) (h : CellsAt w a cs) : (loadVar T a).run P w = .ok (.agg cs.toArray) w := by
  have hl : (loadCells a cs.length).run P w = .ok cs.toArray w := run_loadCells_list (P := P) w a cs h
  cases hq : P.info? T with
  | none => simp [hq] at hi
  | some i =>
    have hs : i.size = cs.length := by simpa [hq] using hi
    have hagg : (isAgg T).run P w = .ok true w := by
      unfold isAgg
      rw [Sem.run_bind, run_underlying hu w]
      cases d <;> simp_all
    simp [loadVar, Sem.run_bind, hagg, sizeOf, typeInfo, hq, hs, hl]

def routeLoad (a : Addr) : Sem Value := loadVar 34 a
theorem loadVar_route (a : Addr) : loadVar 34 a = routeLoad a := rfl
def routeStore (a : Addr) (v : Value) : Sem Unit := storeVar 34 a v
theorem storeVar_route (a : Addr) (v : Value) : storeVar 34 a v = routeStore a v := rfl
theorem infoRoute : (Try.prog.info? 34).map (·.size) = some 19 := by kernel_rfl

theorem run_routeLoad {w : World} {a : Addr} {r : Rt} (h : CellsAt w a (rl r)) : (routeLoad a).run Try.prog w = .ok (.agg (rc r)) w :=
  run_load_at Try.underlying34 rfl (by rw [rl_length]; exact infoRoute) h
theorem run_preLoadA {w : World} {a : Addr} {p : Pre} (h : CellsAt w a (pc p).toList) : (preLoad a).run Try.prog w = .ok (.agg (pc p)) w := by
  have := run_load_at Try.underlying26 rfl (by rw [Array.length_toList, pc_size]; exact infoPre) h
  rw [Array.toArray_toList] at this
  exact this

/-- A list of routes, as a slice of it reads in a world. -/
def Rd (w : World) (v : Value) (l : List Rt) : Prop :=
  (v = .slice none 0 0 ∧ l = []) ∨ ∃ a cap, v = .slice (some a) l.length cap ∧ l.length ≤ cap ∧ cap ≤ maxLen ∧ CellsAt w a (fl l)

theorem Rd.later {w w' : World} {v : Value} {l : List Rt} (h : Rd w v l) (hb : Below w.heap.size w w') : Rd w' v l := by
  rcases h with h | ⟨a, cap, h1, h2, h3, h4⟩
  · exact .inl h
  · exact .inr ⟨a, cap, h1, h2, h3, h4.later hb⟩

/-- A list of routes that lies in a row of the call's own. -/
def Own (w : World) (base : Nat) (v : Value) (l : List Rt) : Prop := w.ownsRow base 34 19 v l.length (fl l)

theorem own_nil (w : World) (base : Nat) : Own w base (.slice none 0 0) [] := World.ownsRow_nil _ _ _ _

theorem Own.rd {w : World} {base : Nat} {v : Value} {l : List Rt} (h : Own w base v l) : Rd w v l := by
  obtain ⟨hx, h⟩ := id h
  rcases h with ⟨h1, h2⟩ | ⟨g, cap, cur, h1, h2, h3, h4, h5, h6, h7⟩
  · exact .inl ⟨h1, List.length_eq_zero_iff.1 h2⟩
  · exact .inr ⟨⟨g, 0, none⟩, cap, h1, h4, h5, fun j u hu => World.ownsRow.cells h (g := g) (by rw [h1]; rfl) j u hu⟩
end Go.Proofs.Ytcpdpcfejpbdpaa
