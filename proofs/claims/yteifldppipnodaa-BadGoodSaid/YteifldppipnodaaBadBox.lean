/- A reserve's variable in memory: loaded and stored as a whole. -/
import Derived.Test.YteifldppipnodaaBadGood
import Derived.Deep.WholeRow
import Derived.Laws.CopyOwn
import Derived.Deep.RegionHeld3
import Derived.OwnWalk
namespace Go.Proofs.Yteifldppipnodaa.Bad
open Go.RowKit Go.Sort

def rsLoad (a : Addr) : Sem Value := loadVar 25 a
theorem loadVar_rs (a : Addr) : loadVar 25 a = rsLoad a := rfl
def rsStore (a : Addr) (v : Value) : Sem Unit := storeVar 25 a v
theorem storeVar_rs (a : Addr) (v : Value) : storeVar 25 a v = rsStore a v := rfl
theorem infoRs : (Try.prog.info? 25).map (·.size) = some 2 := by kernel_rfl
def zr : Array Value := #[.slice none 0 0, .slice none 0 0]
/-- A box that holds a reserve's value. -/
def Box (w : World) (B : Nat) (cs : Array Value) : Prop := w.heap[B]? = some (.cells cs 25 (0, 0))
theorem Box.lt {w : World} {B : Nat} {cs : Array Value} (h : Box w B cs) : B < w.heap.size := (Array.getElem?_eq_some_iff.1 h).1
theorem Box.later {w w' : World} {B : Nat} {cs : Array Value} (h : Box w B cs) (hb : Below w.heap.size w w') : Box w' B cs := (hb.block _ h.lt).trans h
theorem Box.drew {w : World} {B : Nat} {cs : Array Value} (h : Box w B cs) : Box w.drew B cs := h
theorem Box.cell {w : World} {B : Nat} {cs : Array Value} (h : Box w B cs) (j : Nat) : w.cell? ⟨B, j, none⟩ = cs[j]? := cell_of_row w B j cs _ (0, 0) h
theorem Box.new (w : World) (cs : Array Value) : Box (w.alloc (.cells cs 25)) w.heap.size cs := Go.heap_alloc_new w _
theorem run_load_cells {P : Program} {w : World} {T : TypeId} {a : Addr} {cs : List Value} {d : TypeDesc} (hu : P.underlying T = some d) (hd : (match d with | .struct _ | .array _ _ => true | _ => false) = true)
    (hi : (P.info? T).map (·.size) = some cs.length) (h : ∀ (j : Nat) u, cs[j]? = some u → w.cell? (a.add j) = some u) : (loadVar T a).run P w = .ok (.agg cs.toArray) w := by
  have hl : (loadCells a cs.length).run P w = .ok cs.toArray w := run_loadCells_list (P := P) w a cs h
  cases hq : P.info? T with
  | none => simp [hq] at hi
  | some i =>
    have hs : i.size = cs.length := by simpa [hq] using hi
    have hagg : (isAgg T).run P w = .ok true w := by
      unfold isAgg
      rw [Sem.run_bind, run_underlying hu w]
      cases d <;> simp_all
    simp [loadVar, Sem.run_bind, hagg, sizeOf, typeInfo, hq, hs, hl]
theorem Box.load {w : World} {B : Nat} {u v : Value} (h : Box w B #[u, v]) : (rsLoad ⟨B, 0, none⟩).run Try.prog w = .ok (.agg #[u, v]) w := by
  have := run_load_cells (w := w) (a := ⟨B, 0, none⟩) (cs := [u, v]) Try.underlying25 rfl infoRs (fun j x hx => by
    rw [add_here, Nat.zero_add, h.cell]; simpa using hx)
  exact this
theorem Box.store {w : World} {B : Nat} {cs : Array Value} (h : Box w B cs) (h4 : cs.size = 2) {u v : Value} (h1 : u.oneCell' = true) (h2 : v.oneCell' = true) : (rsStore ⟨B, 0, none⟩ (.agg #[u, v])).run Try.prog w = .ok () (w.setRow B #[u, v]) :=
  run_storeVar_row (P := Try.prog) w B 25 25 cs #[u, v] h infoRs (by rw [h4]; rfl) (by simp [h1, h2])
theorem store_new (W : World) {u v : Value} (h1 : u.oneCell' = true) (h2 : v.oneCell' = true) : (rsStore ⟨W.heap.size, 0, none⟩ (.agg #[u, v])).run Try.prog (W.alloc (.cells zr 25)) = .ok () (W.alloc (.cells #[u, v] 25)) := by
  have h := Box.store (Box.new W zr) rfl h1 h2
  rw [World.setRow_alloc_new] at h
  exact h
theorem Box.row {w : World} {B : Nat} {cs : Array Value} (h : Box w B cs) (ds : Array Value) : Box (w.setRow B ds) B ds := setRow_heap _ _ _ _ _ _ h
theorem grown_row (w : World) (B : Nat) (ds : Array Value) : w.grownBy (w.setRow B ds) (some B) := ⟨rfl, rfl, rfl, by simp, fun k _ hk => setRow_other w B k ds (fun e => hk (by simp [e]))⟩
theorem below_row {base B : Nat} {w0 w : World} (h : Below base w0 w) (hb : base ≤ w.heap.size) (hB : base ≤ B) (ds : Array Value) : Below base w0 (w.setRow B ds) :=
  h.grown (grown_row w B ds) hb (fun k hk => by cases hk; exact hB)
/-- A block of the call's own is not one of another type. -/
theorem own_apart {w : World} {base : Nat} {v : Value} {l : List Nat} (h : OwnN w base v l) {g : Nat} {cur : Array Value} {t : TypeId} (hg : w.heap[g]? = some (.cells cur t (0, 0))) (ht : 3 ≠ t) : v.ownBlock ≠ some g := by
  intro he
  rcases h.2 with ⟨h1, -⟩ | ⟨g', cap, cur', h1, -, h3, -⟩
  · rw [h1] at he; cases he
  · rw [h1] at he
    cases he
    rw [h3] at hg
    cases hg
    exact ht rfl
/-- What is the call's own stays, while a reserve's box is written. -/
theorem own_row {w : World} {base : Nat} {v : Value} {l : List Nat} (h : OwnN w base v l) {B : Nat} {cs : Array Value} (hB : Box w B cs) (ds : Array Value) : OwnN (w.setRow B ds) base v l :=
  World.ownsRow.kept h (row := some B) (grown_row w B ds) (.inr fun he => own_apart h hB (by decide) he)
theorem OwnN.one {w : World} {base : Nat} {v : Value} {l : List Nat} (h : OwnN w base v l) : v.oneCell' = true := by obtain ⟨a, cap, rfl, -⟩ := h.rd.len; rfl
theorem RdN.one {w : World} {v : Value} {l : List Nat} (h : RdN w v l) : v.oneCell' = true := by obtain ⟨a, cap, rfl, -⟩ := h.len; rfl
/-- A result that lies in memory. -/
theorem results_row {P : Program} {fn : Func} {p : Tmp} {ty : TypeId} (h : fn.results = #[.cell p ty]) (tmps : Array Value) (w : World) (a : Addr) (v : Value)
    (hp : tmps.getD p undef = .pointer (some a)) (hl : (loadVar ty a).run P w = .ok v w) : (results fn tmps).run P w = .ok v w := by
  have hp' : tmps[p]?.getD undef = .pointer (some a) := by simpa using hp
  simp [results, h, hp', asAddr, hl]
/-- Results of which the first lies in memory. -/
theorem results_row_tmp {P : Program} {fn : Func} {p u : Tmp} {ty : TypeId} (h : fn.results = #[.cell p ty, .tmp u]) (tmps : Array Value) (w : World) (a : Addr) (v : Value)
    {v1 : Value} (hp : tmps.getD p undef = .pointer (some a)) (h1 : tmps.getD u undef = v1) (hl : (loadVar ty a).run P w = .ok v w) : (results fn tmps).run P w = .ok (.tuple #[v, v1]) w := by
  subst h1
  have hp' : tmps[p]?.getD undef = .pointer (some a) := by simpa using hp
  simp [results, h, hp', asAddr, hl]
end Go.Proofs.Yteifldppipnodaa.Bad
