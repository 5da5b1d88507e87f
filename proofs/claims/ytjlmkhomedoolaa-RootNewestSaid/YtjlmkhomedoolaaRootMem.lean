/- Roots in memory: their cells, their variables' boxes; slices of slices of bytes, the call's own ones. -/
import Derived.Test.YtjlmkhomedoolaaRootI
import Derived.Test.YtjlmkhomedoolaaRootP
import Derived.Test.YtjlmkhomedoolaaPageRead
namespace Go.Proofs.Ytjlmkhomedoolaa.Root
open Go.RowKit Go.Sort Go.Proofs.Ytjlmkhomedoolaa Go.Proofs.Ytjlmkhomedoolaa.Page

theorem keep_cell {w w' : World} {p : Addr} {v : Value} (h : w.cell? p = some v) (hb : Below w.heap.size w w') : w'.cell? p = some v := by
  rw [hb.cell (World.block_lt_of_cell? _ _ h)]; exact h
theorem bcell {W w1 : World} (hb : Below W.heap.size W w1) : (∀ b o, b < W.heap.size → w1.cell? ⟨b, o, none⟩ = W.cell? ⟨b, o, none⟩) ∧ (∀ b o, b < W.heap.size → w1.frozen? ⟨b, o, none⟩ = W.frozen? ⟨b, o, none⟩) :=
  ⟨fun b o h => hb.cell (p := ⟨b, o, none⟩) h, fun b o h => hb.frozen (p := ⟨b, o, none⟩) h⟩
theorem below1 (w : World) (o : Obj) : Below w.heap.size w (w.alloc o) := (Below.refl _ _).alloc (Nat.le_refl _) o

/-! ### Boxes -/
def Bx (t : TypeId) (w : World) (B : Nat) (cs : Array Value) : Prop := w.heap[B]? = some (.cells cs t (0, 0))
theorem Bx.lt {t : TypeId} {w : World} {B : Nat} {cs : Array Value} (h : Bx t w B cs) : B < w.heap.size := (Array.getElem?_eq_some_iff.1 h).1
theorem Bx.later {t : TypeId} {w w' : World} {B : Nat} {cs : Array Value} (h : Bx t w B cs) (hb : Below w.heap.size w w') : Bx t w' B cs := (hb.block _ h.lt).trans h
theorem Bx.upto {t : TypeId} {w w' : World} {B n : Nat} {cs : Array Value} (h : Bx t w B cs) (hb : Below n w w') (hn : B < n) : Bx t w' B cs := (hb.block _ hn).trans h
theorem Bx.cell {t : TypeId} {w : World} {B : Nat} {cs : Array Value} (h : Bx t w B cs) (j : Nat) : w.cell? ⟨B, j, none⟩ = cs[j]? := cell_of_row w B j cs _ (0, 0) h
theorem Bx.new (t : TypeId) (w : World) (cs : Array Value) : Bx t (w.alloc (.cells cs t)) w.heap.size cs := Go.heap_alloc_new w _
theorem Bx.row {t : TypeId} {w : World} {B : Nat} {cs : Array Value} (h : Bx t w B cs) (ds : Array Value) : Bx t (w.setRow B ds) B ds := setRow_heap _ _ _ _ _ _ h
theorem Bx.other {t : TypeId} {w : World} {B C : Nat} {cs : Array Value} (h : Bx t w B cs) (hne : B ≠ C) (ds : Array Value) : Bx t (w.setRow C ds) B cs := by
  unfold Bx at *; rw [setRow_other _ _ _ _ hne]; exact h
theorem row_size (w : World) (B : Nat) (ds : Array Value) : (w.setRow B ds).heap.size = w.heap.size := by simp [World.setRow]

def roC (r : Ro) (v : Value) : Array Value := #[.int .u64 (r.gen : Int), v]
def roV (r : Ro) (v : Value) : Value := .agg #[.int .u64 (r.gen : Int), v]
def roLoad (a : Addr) : Sem Value := loadVar 25 a
theorem loadVar_ro (a : Addr) : loadVar 25 a = roLoad a := rfl
def roStore (a : Addr) (v : Value) : Sem Unit := storeVar 25 a v
theorem storeVar_ro (a : Addr) (v : Value) : storeVar 25 a v = roStore a v := rfl
theorem infoRo : (Try.prog.info? 25).map (·.size) = some 2 := by kernel_rfl
def zr : Array Value := #[.int .u64 0, .slice none 0 0]
theorem zr_is : zr = roC zeroR (.slice none 0 0) := rfl
theorem Bx.ld {w : World} {B : Nat} {cs : Array Value} (h : Bx 25 w B cs) (h2 : cs.size = 2) : (roLoad ⟨B, 0, none⟩).run Try.prog w = .ok (.agg cs) w := by
  have := run_load_cells (w := w) (a := ⟨B, 0, none⟩) (cs := cs.toList) Try.underlying25 rfl (by rw [Array.length_toList, h2]; exact infoRo) (fun j u hu => by
    rw [add_here, Nat.zero_add, h.cell]; simpa using hu)
  rw [Array.toArray_toList] at this
  exact this
theorem roC_one (r : Ro) {v : Value} (h : v.oneCell' = true) : (roC r v).all (·.oneCell') = true := by
  unfold roC
  rw [Array.all_eq_true_iff_forall_mem]
  intro x hx
  simp at hx
  rcases hx with rfl | rfl <;> first | rfl | assumption
theorem RdN.one {w : World} {v : Value} {l : List Int} (h : RdN w v l) : v.oneCell' = true := by obtain ⟨a, cap, rfl, -⟩ := h.len; rfl
theorem Bx.st {w : World} {B : Nat} {cs : Array Value} (h : Bx 25 w B cs) (h2 : cs.size = 2) (r : Ro) {v : Value} (h1 : v.oneCell' = true) : (roStore ⟨B, 0, none⟩ (.agg (roC r v))).run Try.prog w = .ok () (w.setRow B (roC r v)) :=
  run_storeVar_row (P := Try.prog) w B 25 25 cs (roC r v) h infoRo (by rw [h2]; rfl) (roC_one r h1)
theorem ro_new (W : World) (r : Ro) {v : Value} (h1 : v.oneCell' = true) : (roStore ⟨W.heap.size, 0, none⟩ (.agg (roC r v))).run Try.prog (W.alloc (.cells zr 25)) = .ok () (W.alloc (.cells (roC r v) 25)) := by
  have h := Bx.st (Bx.new 25 W zr) rfl r h1
  rw [World.setRow_alloc_new] at h
  exact h
theorem own_rowN {w : World} {base : Nat} {v : Value} {l : List Int} (h : OwnN w base v l) {B : Nat} (ds : Array Value) (hB : B < base) : OwnN (w.setRow B ds) base v l :=
  World.ownsRow.kept h (row := some B) (grown_row w B ds) (.inr fun he => by have := (World.ownsRow.lt h B he).1; omega)
/-- A root that reads so. -/
def RdR (w : World) (v : Value) (r : Ro) : Prop := ∃ u, v = roV r u ∧ RdN w u r.nums
theorem RdR.later {w w' : World} {v : Value} {r : Ro} (h : RdR w v r) (hb : Below w.heap.size w w') : RdR w' v r := by
  obtain ⟨u, h1, h2⟩ := h
  exact ⟨u, h1, h2.later hb⟩

/-! ### Slices of slices -/
def RdRow (w : World) (v : Value) (cs : List Value) : Prop :=
  ∃ a cap, v = .slice a cs.length cap ∧ cs.length ≤ cap ∧ cap ≤ maxLen ∧ (a = none → cap = 0) ∧ ∀ ad, a = some ad → ∀ (j : Nat) u, cs[j]? = some u → w.cell? (ad.add j) = some u
def OwnS (w : World) (base : Nat) (v : Value) (cs : List Value) : Prop := w.ownsRow base 29 1 v cs.length cs
/-- A slice that reads as slices of bytes. -/
def RdL (w : World) (v : Value) (ls : List (List UInt8)) : Prop := ∃ cs, RdRow w v cs ∧ cs.length = ls.length ∧ ∀ (i : Nat) b, ls[i]? = some b → ∃ u, cs[i]? = some u ∧ RdB w u b
theorem RdRow.later {w w' : World} {v : Value} {cs : List Value} (h : RdRow w v cs) (hb : Below w.heap.size w w') : RdRow w' v cs := by
  obtain ⟨a, cap, h1, h2, h3, h4, h5⟩ := h
  refine ⟨a, cap, h1, h2, h3, h4, fun ad ha j u hu => ?_⟩
  have := h5 ad ha j u hu
  rw [hb.cell (World.block_lt_of_cell? _ _ this)]; exact this
theorem RdL.later {w w' : World} {v : Value} {ls : List (List UInt8)} (h : RdL w v ls) (hb : Below w.heap.size w w') : RdL w' v ls := by
  obtain ⟨cs, h1, h2, h3⟩ := h
  refine ⟨cs, h1.later hb, h2, fun i b hi => ?_⟩
  obtain ⟨u, h4, h5⟩ := h3 i b hi
  exact ⟨u, h4, h5.later hb⟩
theorem RdRow.len {w : World} {v : Value} {cs : List Value} (h : RdRow w v cs) : ∃ a cap, v = .slice a cs.length cap ∧ cs.length ≤ cap ∧ cap ≤ maxLen := by
  obtain ⟨a, cap, h1, h2, h3, -⟩ := h
  exact ⟨a, cap, h1, h2, h3⟩
theorem RdL.len {w : World} {v : Value} {ls : List (List UInt8)} (h : RdL w v ls) : ∃ a cap, v = .slice a ls.length cap ∧ ls.length ≤ cap ∧ cap ≤ maxLen := by
  obtain ⟨cs, h1, h2, -⟩ := h
  obtain ⟨a, cap, h3, h4, h5⟩ := h1.len
  rw [h2] at h3 h4
  exact ⟨a, cap, h3, h4, h5⟩
theorem RdRow.form {w : World} {v : Value} {cs : List Value} (h : RdRow w v cs) (hn : 0 < cs.length) : ∃ b o cap, v = .slice (some ⟨b, o, none⟩) cs.length cap ∧ ∀ (i : Nat) u, cs[i]? = some u → w.cell? ⟨b, o + i, none⟩ = some u := by
  obtain ⟨a, cap, h1, h2, h3, h4, h5⟩ := h
  cases a with
  | none => have := h4 rfl; omega
  | some ad =>
    obtain ⟨b, o, s⟩ := ad
    have c0 := h5 _ rfl 0 _ (List.getElem?_eq_getElem hn)
    obtain rfl : s = none := by simpa [Addr.add] using World.cell?_spot c0
    exact ⟨b, o, cap, h1, fun i x hx => by rw [← add_here]; exact h5 _ rfl i _ hx⟩
/-- Its shape, and each one of it. -/
theorem RdL.form {w : World} {v : Value} {ls : List (List UInt8)} (h : RdL w v ls) (hn : 0 < ls.length) : ∃ b o cap, v = .slice (some ⟨b, o, none⟩) ls.length cap ∧ ∀ (i : Nat) x, ls[i]? = some x → ∃ u, w.cell? ⟨b, o + i, none⟩ = some u ∧ RdB w u x := by
  obtain ⟨cs, h1, h2, h3⟩ := h
  obtain ⟨b, o, cap, h4, h5⟩ := h1.form (by omega)
  refine ⟨b, o, cap, by rw [← h2]; exact h4, fun i x hx => ?_⟩
  obtain ⟨u, h6, h7⟩ := h3 i x hx
  exact ⟨u, h5 i u h6, h7⟩
theorem OwnS.rd {w : World} {base : Nat} {v : Value} {cs : List Value} (h : OwnS w base v cs) : RdRow w v cs := by
  rcases h.2 with ⟨h1, h2⟩ | ⟨g, cap, cur, h1, h2, h3, h4, h5, h6, h7⟩
  · refine ⟨none, 0, by rw [h1, h2], by omega, Nat.zero_le _, fun _ => rfl, fun ad ha => by cases ha⟩
  · refine ⟨some ⟨g, 0, none⟩, cap, h1, h4, h5, (fun h => by cases h), fun ad ha j u hu => ?_⟩
    cases ha
    exact h.cells (by rw [h1]; rfl) j u hu
theorem OwnS.later {w w' : World} {base : Nat} {v : Value} {cs : List Value} (h : OwnS w base v cs) (hb : Below w.heap.size w w') : OwnS w' base v cs := by
  refine ⟨h.1, ?_⟩
  rcases h.2 with h1 | ⟨g, cap, cur, h1, h2, h3, h4⟩
  · exact .inl h1
  · exact .inr ⟨g, cap, cur, h1, h2, by rw [hb.block g (Array.getElem?_eq_some_iff.1 h3).1]; exact h3, h4⟩
theorem OwnS.made (w : World) (cs : List Value) (h : cs.length ≤ maxLen) : OwnS (w.alloc (.cells cs.toArray 29)) w.heap.size (.slice (some ⟨w.heap.size, 0, none⟩) cs.length cs.length) cs :=
  ⟨by omega, .inr ⟨w.heap.size, cs.length, _, rfl, Nat.le_refl _, heap_alloc_new w _, Nat.le_refl _, h, by simp, by rw [Nat.mul_one, List.toList_toArray, List.take_of_length_le (Nat.le_refl _)]⟩⟩
theorem infoS : (Try.prog.info? 29).map (fun i => (i.zero, i.size, i.bytes)) = some (some (.slice none 0 0), 1, 24) := by kernel_rfl
/-- Slices behind slices of the call's own. -/
theorem run_appendS {w : World} {base : Nat} {v u : Value} {xs ys : List Value} (h : OwnS w base v xs) (hr : RdRow w u ys) (hy1 : ∀ y ∈ ys, y.oneCell' = true) (hb : base ≤ w.heap.size) (hn : xs.length + ys.length ≤ 1000000) (ty : TypeId) :
    ∃ v' w', (Builtin.append_ #[26, 26] ty #[v, u]).run Try.prog w = .ok v' w' ∧ OwnS w' base v' (xs ++ ys) ∧ w.grownBy w' v.ownBlock := by
  obtain ⟨i0, e0, e1, e2, e3⟩ := info_parts infoS
  obtain ⟨a, cap, h1, h2, h3, h4, h5⟩ := hr
  subst h1
  cases a with
  | none =>
    have hc := h4 rfl
    subst hc
    have hy : ys = [] := List.length_eq_zero_iff.1 (by omega)
    subst hy
    refine ⟨v, w, ?_, by rw [List.append_nil]; exact h, ⟨rfl, rfl, rfl, Nat.le_refl _, fun _ _ _ => rfl⟩⟩
    exact run_append_owned_none (P := Try.prog) (w := w) base 26 ty 29 i0 1 Try.underlying26 e0 v _ _ h
  | some ad =>
    obtain ⟨v', w', r1, r2, r3, -⟩ := run_append_own (P := Try.prog) (w := w) base 26 ty 29 i0 (.slice none 0 0) 1 24 Try.underlying26 e0 e1 e2 e3 rfl (by decide) v xs.length xs h ad ys.length cap ys
      (by omega) (fun j u hu => h5 ad rfl j u hu) hy1 (by unfold maxLen; omega) (by omega) hb
    refine ⟨v', w', r1, ?_, r3⟩
    unfold OwnS
    rw [List.length_append]
    exact r2
/-- The operation by itself. -/
theorem wpList_appendS {w : World} {ops : Array Oper} {rest : List Oper} {o : Oper} {a : Act} {Q : Exit → Act → World → Prop} (hgd : o.guard = none) (s x : Operand)
    (ho : o.op = .call { callee := .builtin .append, args := #[s, x], argTypes := #[26, 26] })
    {base : Nat} {v u : Value} {xs ys : List Value} (hs : a.eval s = v) (hx : a.eval x = u) (h : OwnS w base v xs) (hr : RdRow w u ys) (hy1 : ∀ y ∈ ys, y.oneCell' = true) (hb : base ≤ w.heap.size) (hn : xs.length + ys.length ≤ 1000000)
    (k : ∀ v' w', OwnS w' base v' (xs ++ ys) → w.grownBy w' v.ownBlock → wpList Try.prog ops Q rest (a.put o.dst v') w') : wpList Try.prog ops Q (o :: rest) a w := by
  refine wpList_plain hgd fun K hK => ?_
  obtain ⟨v', w', hrun, h1, h2⟩ := run_appendS h hr hy1 hb hn o.type
  unfold Oper.wp
  simp [execOp, ho, resolve, invoke, builtin, hs, hx, hrun, Result.andThen]
  exact hK _ _ (k v' w' h1 h2)
theorem OwnS.below {w w' : World} {base : Nat} {v : Value} {cs : List Value} (h : OwnS w base v cs) (hg : w.grownBy w' v.ownBlock) (hb : base ≤ w.heap.size) : Below base w w' :=
  (Below.refl base w).grown hg hb fun k hk => (World.ownsRow.lt h k hk).1
/-- Results of which the second of three lies in memory. -/
theorem results_mid {P : Program} {fn : Func} {p u q : Tmp} {ty : TypeId} (h : fn.results = #[.tmp u, .cell p ty, .tmp q]) (tmps : Array Value) (w : World) (a : Addr) (v : Value)
    {v1 v2 : Value} (hp : tmps.getD p undef = .pointer (some a)) (h1 : tmps.getD u undef = v1) (h2 : tmps.getD q undef = v2) (hl : (loadVar ty a).run P w = .ok v w) : (results fn tmps).run P w = .ok (.tuple #[v1, v, v2]) w := by
  subst h1 h2
  have hp' : tmps[p]?.getD undef = .pointer (some a) := by simpa using hp
  simp [results, h, hp', asAddr, hl]
/-- Results of which the only one lies in memory. -/
theorem results_row {P : Program} {fn : Func} {p : Tmp} {ty : TypeId} (h : fn.results = #[.cell p ty]) (tmps : Array Value) (w : World) (a : Addr) (v : Value)
    (hp : tmps.getD p undef = .pointer (some a)) (hl : (loadVar ty a).run P w = .ok v w) : (results fn tmps).run P w = .ok v w := by
  have hp' : tmps[p]?.getD undef = .pointer (some a) := by simpa using hp
  simp [results, h, hp', asAddr, hl]
end Go.Proofs.Ytjlmkhomedoolaa.Root
