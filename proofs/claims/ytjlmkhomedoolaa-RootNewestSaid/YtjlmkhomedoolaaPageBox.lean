/- A page's variable in memory: loaded and stored as a whole; pieces of bytes. -/
import Derived.Test.YtjlmkhomedoolaaPagePut
import Derived.Test.YtjlmkhomedoolaaSlotsT
import Derived.Deep.WholeRow
import Derived.Laws.CopyOwn
namespace Go.Proofs.Ytjlmkhomedoolaa.Page
open Go.RowKit Go.Sort

def pageLoad (a : Addr) : Sem Value := loadVar 45 a
theorem loadVar_page (a : Addr) : loadVar 45 a = pageLoad a := rfl
def pageStore (a : Addr) (v : Value) : Sem Unit := storeVar 45 a v
theorem storeVar_page (a : Addr) (v : Value) : storeVar 45 a v = pageStore a v := rfl
theorem infoPage : (Try.prog.info? 45).map (·.size) = some 4 := by kernel_rfl
def zp : Array Value := #[.int .i64 0, .int .i64 0, .int .u64 0, .slice none 0 0]
theorem zp_is : zp = pgC zeroP (.slice none 0 0) := rfl
/-- A box that holds a page's value. -/
def Box (w : World) (B : Nat) (cs : Array Value) : Prop := w.heap[B]? = some (.cells cs 45 (0, 0))
theorem Box.lt {w : World} {B : Nat} {cs : Array Value} (h : Box w B cs) : B < w.heap.size := (Array.getElem?_eq_some_iff.1 h).1
theorem Box.later {w w' : World} {B : Nat} {cs : Array Value} (h : Box w B cs) (hb : Below w.heap.size w w') : Box w' B cs := (hb.block _ h.lt).trans h
theorem Box.cell {w : World} {B : Nat} {cs : Array Value} (h : Box w B cs) (j : Nat) : w.cell? ⟨B, j, none⟩ = cs[j]? := cell_of_row w B j cs _ (0, 0) h
theorem Box.new (w : World) (cs : Array Value) : Box (w.alloc (.cells cs 45)) w.heap.size cs := Go.heap_alloc_new w _
/-- All cells of a struct, loaded. -/
theorem run_load_cells {P : Program} {w : World} {T : TypeId} {a : Addr} {cs : List Value} {d : TypeDesc} (hu : P.underlying T = some d) (hd : (match d with | .struct _ | .array _ _ => true | _ => false) = true)
    (hi : (P.info? T).map (·.size) = some cs.length) (h : ∀ (j : Nat) u, cs[j]? = some u → w.cell? (a.add j) = some u) : (loadVar T a).run P w = .ok (.agg cs.toArray) w := by
  have hl : (loadCells a cs.length).run P w = .ok cs.toArray w := run_loadCells_list (P := P) w a cs h
  cases hq : P.info? T with
  | none => simp [hq] at hi
  | some i =>
    have hs : i.size = cs.length := by simpa [hq] using hi
    have hagg : (isAgg T).run P w = .ok true w := by
      unfold isAgg
      rw [Sem.run_bind, run_underlying hu w]
      cases d <;> simp_all
    simp [loadVar, Sem.run_bind, hagg, sizeOf, typeInfo, hq, hs, hl]
theorem Box.load {w : World} {B : Nat} {cs : Array Value} (h : Box w B cs) (h4 : cs.size = 4) : (pageLoad ⟨B, 0, none⟩).run Try.prog w = .ok (.agg cs) w := by
  have := run_load_cells (w := w) (a := ⟨B, 0, none⟩) (cs := cs.toList) Try.underlying45 rfl (by rw [Array.length_toList, h4]; exact infoPage) (fun j u hu => by
    rw [add_here, Nat.zero_add, h.cell]; simpa using hu)
  rw [Array.toArray_toList] at this
  exact this
theorem pgC_one (p : Pg) {v : Value} (h : v.oneCell' = true) : (pgC p v).all (·.oneCell') = true := by
  unfold pgC
  rw [Array.all_eq_true_iff_forall_mem]
  intro x hx
  simp at hx
  rcases hx with rfl | rfl | rfl | rfl <;> first | rfl | assumption
theorem RdB.one {w : World} {v : Value} {l : List UInt8} (h : RdB w v l) : v.oneCell' = true := by obtain ⟨a, cap, rfl, -⟩ := h.len; rfl
theorem Box.store {w : World} {B : Nat} {cs : Array Value} (h : Box w B cs) (h4 : cs.size = 4) (p : Pg) {v : Value} (h1 : v.oneCell' = true) : (pageStore ⟨B, 0, none⟩ (.agg (pgC p v))).run Try.prog w = .ok () (w.setRow B (pgC p v)) :=
  run_storeVar_row (P := Try.prog) w B 45 45 cs (pgC p v) h infoPage (by rw [h4]; rfl) (pgC_one p h1)
theorem store_new (W : World) (p : Pg) {v : Value} (h1 : v.oneCell' = true) : (pageStore ⟨W.heap.size, 0, none⟩ (.agg (pgC p v))).run Try.prog (W.alloc (.cells zp 45)) = .ok () (W.alloc (.cells (pgC p v) 45)) := by
  have h := Box.store (Box.new W zp) rfl p h1
  rw [World.setRow_alloc_new] at h
  exact h
theorem Box.row {w : World} {B : Nat} {cs : Array Value} (h : Box w B cs) (ds : Array Value) : Box (w.setRow B ds) B ds := setRow_heap _ _ _ _ _ _ h
theorem grown_row (w : World) (B : Nat) (ds : Array Value) : w.grownBy (w.setRow B ds) (some B) := ⟨rfl, rfl, rfl, by simp, fun k _ hk => setRow_other w B k ds (fun e => hk (by simp [e]))⟩
theorem below_row {base B : Nat} {w0 w : World} (h : Below base w0 w) (hb : base ≤ w.heap.size) (hB : base ≤ B) (ds : Array Value) : Below base w0 (w.setRow B ds) :=
  h.grown (grown_row w B ds) hb (fun k hk => by cases hk; exact hB)
theorem own_row {w : World} {base : Nat} {v : Value} {l : List UInt8} (h : OwnB w base v l) {B : Nat} (ds : Array Value) (hB : B < base) : OwnB (w.setRow B ds) base v l :=
  World.ownsRow.kept h (row := some B) (grown_row w B ds) (.inr fun he => by have := (World.ownsRow.lt h B he).1; omega)

/-- A piece of bytes, from one place to another one. -/
theorem slice_part {w : World} {v : Value} {l : List UInt8} (h : RdB w v l) {lo hi : Nat} (h1 : lo ≤ hi) (h2 : hi ≤ l.length) : ∃ v', (∀ (kl kh : IntKind) (i j : Int) W, i = lo → j = hi → (bytesSlice v (some (.int kl i)) (some (.int kh j))).run Try.prog W = .ok v' W) ∧ RdB w v' ((l.drop lo).take (hi - lo)) := by
  obtain ⟨a, cap, hv, h3, h4, h5, h6⟩ := h
  subst hv
  refine ⟨sliced a lo hi cap 1, fun kl kh i j W hi' hj' => ?_, ?_⟩
  · subst hi' hj'
    unfold bytesSlice
    rw [run_slice_lh W 29 a _ _ underB kl kh _ _ (by omega) (by omega) (by omega), elemB, sizeB]
    simp [Result.andThen]
  · have hlen : ((l.drop lo).take (hi - lo)).length = hi - lo := by rw [List.length_take, List.length_drop]; omega
    refine ⟨if cap = lo then a else a.map (·.add (lo * 1)), cap - lo, by rw [hlen]; rfl, by omega, by omega, ?_, ?_⟩
    · intro ha
      split at ha
      · omega
      · cases a with
        | none => have := h5 rfl; omega
        | some ad => cases ha
    · intro ad ha j u hu
      have hj : j < hi - lo := by
        have := (List.getElem?_eq_some_iff.1 hu).1
        rw [cellsB_length, hlen] at this; exact this
      have hu' : (cellsB l)[lo + j]? = some u := by
        rw [← hu]; unfold cellsB; rw [List.getElem?_map, List.getElem?_map, List.getElem?_take_of_lt hj, List.getElem?_drop]
      rw [if_neg (by omega)] at ha
      cases a with
      | none => cases ha
      | some ad0 =>
        simp only [Option.map_some, Option.some.injEq] at ha
        subst ha
        rw [add_add, Nat.mul_one]
        exact h6 _ rfl _ u hu'
theorem slice_from {w : World} {v : Value} {l : List UInt8} (h : RdB w v l) {k : Nat} (hk : k ≤ l.length) : ∃ v', (∀ (kl : IntKind) (i : Int) W, i = k → (bytesSlice v (some (.int kl i)) none).run Try.prog W = .ok v' W) ∧ RdB w v' (l.drop k) := by
  obtain ⟨a, cap, hv, h2, h3, h4, h5⟩ := h
  subst hv
  refine ⟨sliced a k l.length cap 1, fun kl i W hi => ?_, ?_⟩
  · subst hi
    unfold bytesSlice
    rw [run_slice_l W 29 a _ _ underB kl _ (by omega) (by omega), elemB, sizeB]
    simp [Result.andThen]
  · have hlen : (l.drop k).length = l.length - k := List.length_drop
    refine ⟨if cap = k then a else a.map (·.add (k * 1)), cap - k, by rw [hlen]; rfl, by omega, by omega, ?_, ?_⟩
    · intro ha
      split at ha
      · omega
      · cases a with
        | none => have := h4 rfl; omega
        | some ad => cases ha
    · intro ad ha j u hu
      rw [cells_drop] at hu
      have hj : k + j < l.length := by
        have := (List.getElem?_eq_some_iff.1 hu).1
        rw [cellsB_length] at this; exact this
      rw [if_neg (by omega)] at ha
      cases a with
      | none => cases ha
      | some ad0 =>
        simp only [Option.map_some, Option.some.injEq] at ha
        subst ha
        rw [add_add, Nat.mul_one]
        exact h5 _ rfl _ u hu
/-- Results of which the first lies in memory. -/
theorem results_row_tmp {P : Program} {fn : Func} {p u : Tmp} {ty : TypeId} (h : fn.results = #[.cell p ty, .tmp u]) (tmps : Array Value) (w : World) (a : Addr) (v : Value)
    {v1 : Value} (hp : tmps.getD p undef = .pointer (some a)) (h1 : tmps.getD u undef = v1) (hl : (loadVar ty a).run P w = .ok v w) : (results fn tmps).run P w = .ok (.tuple #[v, v1]) w := by
  subst h1
  have hp' : tmps[p]?.getD undef = .pointer (some a) := by simpa using hp
  simp [results, h, hp', asAddr, hl]
end Go.Proofs.Ytjlmkhomedoolaa.Page
