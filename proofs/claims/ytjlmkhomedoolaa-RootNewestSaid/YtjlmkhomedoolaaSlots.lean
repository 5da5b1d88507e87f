/- A region that draws its order, in which nothing that was there is written, but memory may be made: walked once, slot by slot. For each operation one says what its value is good for, in words that stay true while memory grows. -/
import Derived.Orders
import Derived.Below
import Derived.WalkKit
namespace Go.Proofs.Ytjlmkhomedoolaa
open Go.RowKit

/-- Where an operation puts its value. -/
def dstOf (ops : Array Oper) (i : Nat) : Tmp := ((ops[i]?).bind (·.dst)).getD 0
def slot (a : Act) (t : Tmp) : Value := a.tmps.getD t undef
/-- Edges lead back, each operation has a place of its own, in the frame. -/
def tidyB (ops : Array Oper) (n : Nat) : Bool :=
  (List.range ops.size).all fun i => match ops[i]? with
    | none => false
    | some o => o.after.all (fun e => decide (e.on < i)) && (match o.dst with | none => false | some d => decide (d < n)) && (List.range i).all fun j => dstOf ops j != dstOf ops i
theorem tidy_spec {ops : Array Oper} {n : Nat} (h : tidyB ops n = true) {i : Nat} (hi : i < ops.size) :
    ∃ o, ops[i]? = some o ∧ (∀ e ∈ o.after, e.on < i) ∧ o.dst = some (dstOf ops i) ∧ dstOf ops i < n ∧ ∀ j, j < i → dstOf ops j ≠ dstOf ops i := by
  have h1 := List.all_eq_true.1 h i (List.mem_range.2 hi)
  obtain ⟨o, ho⟩ : ∃ o, ops[i]? = some o := ⟨ops[i], Array.getElem?_eq_getElem hi⟩
  simp only [ho, Bool.and_eq_true] at h1
  obtain ⟨⟨h2, h3⟩, h4⟩ := h1
  cases hd : o.dst with
  | none => simp [hd] at h3
  | some d =>
    have hdd : dstOf ops i = d := by unfold dstOf; rw [ho]; simp [hd]
    simp only [hd, decide_eq_true_eq] at h3
    refine ⟨o, ho, fun e he => ?_, by rw [hdd]; exact hd, by rw [hdd]; exact h3, fun j hj => ?_⟩
    · have := (Array.all_eq_true_iff_forall_mem.1 h2) e he
      simpa using this
    · have := List.all_eq_true.1 h4 j (List.mem_range.2 hj)
      simpa using this
theorem tidy_ne {ops : Array Oper} {n : Nat} (h : tidyB ops n = true) {i j : Nat} (hi : i < ops.size) (hj : j < ops.size) (hne : i ≠ j) : dstOf ops i ≠ dstOf ops j := by
  obtain ⟨-, -, -, -, -, h1⟩ := tidy_spec h hi
  obtain ⟨-, -, -, -, -, h2⟩ := tidy_spec h hj
  rcases Nat.lt_or_gt_of_ne hne with h3 | h3
  · exact h2 i h3
  · exact fun e => h1 j h3 e.symm

theorem slot_put_same {a : Act} {d : Tmp} (v : Value) (h : d < a.tmps.size) : slot (a.put (some d) v) d = v := by
  unfold slot Act.put
  simp [Array.getD_eq_getD_getElem?, Array.getElem?_setIfInBounds_self_of_lt h]
theorem slot_put_other {a : Act} {d t : Tmp} (v : Value) (h : d ≠ t) : slot (a.put (some d) v) t = slot a t := by
  unfold slot Act.put
  simp [Array.getD_eq_getD_getElem?, Array.getElem?_setIfInBounds_ne h]

/-- How far it has come: what was put is good, all else is as it was. -/
structure Upto (ops : Array Oper) (G : Nat → Value → World → Prop) (a0 : Act) (w0 : World) (done : Nat → Prop) (a : Act) (w : World) : Prop where
  size : a.tmps.size = a0.tmps.size
  defers : a.defers = a0.defers
  below : Below w0.heap.size w0 w
  old : ∀ t, (∀ i, i < ops.size → dstOf ops i ≠ t) → slot a t = slot a0 t
  good : ∀ i, i < ops.size → done i → G i (slot a (dstOf ops i)) w

def StepOk (P : Program) (ops : Array Oper) (Q : Exit → Act → World → Prop) (G : Nat → Value → World → Prop) (i : Nat) (o : Oper) (a : Act) (w : World) : Prop :=
  (Region.wanted o (yielded ops a.tmps) = true ∧ o.wp P a w (fun a' w' => ∃ v, a' = a.put o.dst v ∧ Below w.heap.size w w' ∧ G i v w') Q) ∨ (Region.wanted o (yielded ops a.tmps) = false ∧ G i undef w)

theorem Upto.next {ops : Array Oper} {G : Nat → Value → World → Prop} {a0 : Act} {w0 : World} {done : Nat → Prop} {a : Act} {w : World} (h : Upto ops G a0 w0 done a w) (ht : tidyB ops a0.tmps.size = true)
    (hG : ∀ i v w w', G i v w → Below w.heap.size w w' → G i v w') {i : Nat} (hi : i < ops.size) {v : Value} {w' : World} (hb : Below w.heap.size w w') (hg : G i v w') :
    Upto ops G a0 w0 (fun j => done j ∨ j = i) (a.put (some (dstOf ops i)) v) w' := by
  obtain ⟨o, ho, -, hd, hlt, -⟩ := tidy_spec ht hi
  have hlt' : dstOf ops i < a.tmps.size := by rw [h.size]; exact hlt
  refine ⟨by simp [Act.put, h.size], by simp [Act.put, h.defers], h.below.trans (hb.mono h.below.size), fun t htt => ?_, fun j hj hdj => ?_⟩
  · rw [slot_put_other v (htt i hi)]; exact h.old t htt
  · by_cases hji : j = i
    · subst hji
      rw [slot_put_same v hlt']; exact hg
    · rw [slot_put_other v (tidy_ne ht hi hj (fun e => hji e.symm))]
      exact hG j _ w w' (h.good j hj (hdj.resolve_right hji)) hb

def left (listed : Array Bool) : Nat := (listed.toList.filter (!·)).length
theorem left_set {listed : Array Bool} {i : Nat} (hi : i < listed.size) (h : listed.getD i true = false) : left (listed.setIfInBounds i true) + 1 = left listed := by
  unfold left
  have hi' : i < listed.toList.length := by simpa using hi
  have hv : listed.toList[i] = false := by
    rw [Array.getD_eq_getD_getElem?, Array.getElem?_eq_getElem hi] at h
    simpa using h
  rw [Array.toList_setIfInBounds, List.set_eq_take_append_cons_drop, if_pos hi']
  conv => rhs; rw [← List.take_append_drop i listed.toList, ← List.getElem_cons_drop hi', hv]
  simp
  omega
theorem left_zero {listed : Array Bool} (h : left listed = 0) {i : Nat} (hi : i < listed.size) : listed.getD i true = true := by
  unfold left at h
  have h1 := List.length_eq_zero_iff.1 h
  have h2 : listed[i] ∈ listed.toList := by simp
  rw [List.filter_eq_nil_iff] at h1
  have h3 := h1 _ h2
  rw [Array.getD_eq_getD_getElem?, Array.getElem?_eq_getElem hi]
  simpa using h3
theorem getD_same {listed : Array Bool} {i : Nat} (hi : i < listed.size) (a b : Bool) : listed.getD i a = listed.getD i b := by
  rw [Array.getD_eq_getD_getElem?, Array.getD_eq_getD_getElem?, Array.getElem?_eq_getElem hi]
  rfl

/-- The region, whatever order is drawn. -/
theorem region_slots {P : Program} {id : Nat} {ops : Array Oper} {Q : Exit → Act → World → Prop} {a0 : Act} {w0 : World} (hm : P.follows .mixedOrders = true) (ht : tidyB ops a0.tmps.size = true)
    (G : Nat → Value → World → Prop) (hG : ∀ i v w w', G i v w → Below w.heap.size w w' → G i v w')
    (hstep : ∀ i o, ops[i]? = some o → ∀ a w, Upto ops G a0 w0 (fun j => ∃ e ∈ o.after, Region.binds .any e = true ∧ e.on = j) a w → StepOk P ops Q G i o a w)
    (fin : ∀ a w, Upto ops G a0 w0 (fun _ => True) a w → Q .normal a w) : (Code.region id ops true).wp P Q a0 w0 := by
  have key : ∀ (fuel : Nat) (listed : Array Bool) (a : Act) (w : World), listed.size = ops.size → left listed ≤ fuel → Upto ops G a0 w0 (fun j => listed.getD j false = true) a w → wpAny P .any ops Q fuel listed a w := by
    intro fuel
    induction fuel with
    | zero =>
      intro listed a w hs hl hU
      have hall : ∀ i, i < ops.size → listed.getD i true = true := fun i hi => left_zero (by omega) (by omega)
      refine ⟨?_, fin a w ⟨hU.size, hU.defers, hU.below, hU.old, fun i hi _ => hU.good i hi (by rw [getD_same (by omega) false true]; exact hall i hi)⟩⟩
      cases hr : Region.ready .any ops listed with
      | nil => rfl
      | cons j rs =>
        have hj : j ∈ Region.ready .any ops listed := by rw [hr]; exact List.mem_cons_self
        obtain ⟨h1, o, h2, -⟩ := mem_ready.1 hj
        rw [hall j (Array.getElem?_eq_some_iff.1 h2).1] at h1
        cases h1
    | succ fuel ih =>
      intro listed a w hs hl hU
      refine ⟨fun hr => ?_, fun i hi => ?_⟩
      · have hall : ∀ i, i < ops.size → listed.getD i false = true := by
          intro i
          induction i using Nat.strongRecOn with
          | ind i ihi =>
            intro hi
            cases hc : listed.getD i false with
            | true => rfl
            | false =>
              exfalso
              obtain ⟨o, ho, he, -⟩ := tidy_spec ht hi
              have : i ∈ Region.ready .any ops listed := mem_ready.2 ⟨by rw [getD_same (by omega) true false]; exact hc, o, ho, fun e hee _ => ihi e.on (he e hee) (by have := he e hee; omega)⟩
              rw [hr] at this
              cases this
        exact fin a w ⟨hU.size, hU.defers, hU.below, hU.old, fun i hi _ => hU.good i hi (hall i hi)⟩
      · obtain ⟨h1, o, ho, he⟩ := mem_ready.1 hi
        have hio : i < ops.size := (Array.getElem?_eq_some_iff.1 ho).1
        obtain ⟨o', ho', -, hd, -⟩ := tidy_spec ht hio
        rw [ho] at ho'
        cases ho'
        have hsub : Upto ops G a0 w0 (fun j => ∃ e ∈ o.after, Region.binds .any e = true ∧ e.on = j) a w :=
          ⟨hU.size, hU.defers, hU.below, hU.old, fun j hj ⟨e, h2, h3, h4⟩ => hU.good j hj (by rw [← h4]; exact he e h2 h3)⟩
        have hnext : ∀ v w', Below w.heap.size w w' → G i v w' → wpAny P .any ops Q fuel (listed.setIfInBounds i true) (a.put o.dst v) w' := by
          intro v w' hb hg
          have hl' := left_set (listed := listed) (i := i) (by omega) h1
          refine ih _ _ _ (by simpa using hs) (by omega) ?_
          have hN := hU.next ht hG hio hb hg
          rw [hd]
          refine ⟨hN.size, hN.defers, hN.below, hN.old, fun j hj hlj => hN.good j hj ?_⟩
          by_cases hji : j = i
          · exact .inr hji
          · rw [getD_set_ne false (fun e => hji e.symm)] at hlj
            exact .inl hlj
        unfold wpOp
        rw [ho]
        rcases hstep i o ho a w hsub with ⟨hw, hp⟩ | ⟨hw, hg⟩
        · simp only [hw, if_true]
          refine .inl (Oper.wp_mono ?_ hp)
          rintro a' w' ⟨v, rfl, hb, hg⟩
          exact hnext v w' hb hg
        · simp only [hw, Bool.false_eq_true, if_false]
          exact hnext undef w (Below.refl _ _) hg
  refine wp_region_any hm (key ops.size _ a0 _ (by simp) ?_ ⟨rfl, rfl, ⟨rfl, rfl, rfl, Nat.le_refl _, fun _ _ => rfl⟩, fun _ _ => rfl, fun i hi h => ?_⟩)
  · unfold left
    refine Nat.le_trans (List.length_filter_le _ _) (by simp)
  · rw [Array.getD_eq_getD_getElem?, Array.getElem?_replicate] at h
    split at h <;> simp at h

theorem cell_keep {w w' : World} {p : Addr} {v : Value} (h : w.cell? p = some v) (hb : Below w.heap.size w w') : w'.cell? p = some v := by
  rw [hb.cell (World.block_lt_of_cell? _ _ h)]; exact h
/-- What a value is good for, in words that stay true while memory grows. -/
structure Gd where
  p : Value → World → Prop
  st : ∀ v w w', p v w → Below w.heap.size w w' → p v w'
def Gd.any : Gd := ⟨fun _ _ => True, fun _ _ _ _ _ => trivial⟩
def Gd.eq (x : Value) : Gd := ⟨fun v _ => v = x, fun _ _ _ h _ => h⟩
def Gof (gs : List Gd) (i : Nat) (v : Value) (w : World) : Prop := (gs.getD i Gd.any).p v w
theorem Gof_st (gs : List Gd) : ∀ i v w w', Gof gs i v w → Below w.heap.size w w' → Gof gs i v w' := fun i => (gs.getD i Gd.any).st

def StepsFrom (P : Program) (ops : Array Oper) (Q : Exit → Act → World → Prop) (G : Nat → Value → World → Prop) (a0 : Act) (w0 : World) : Nat → List Oper → Prop
  | _, [] => True
  | i, o :: l => (∀ a w, Upto ops G a0 w0 (fun j => ∃ e ∈ o.after, Region.binds .any e = true ∧ e.on = j) a w → StepOk P ops Q G i o a w) ∧ StepsFrom P ops Q G a0 w0 (i + 1) l
section
variable {P : Program} {ops : Array Oper} {Q : Exit → Act → World → Prop} {G : Nat → Value → World → Prop} {a0 : Act} {w0 : World}
theorem StepsFrom.nil {i : Nat} : StepsFrom P ops Q G a0 w0 i [] := trivial
theorem StepsFrom.cons {i : Nat} {o : Oper} {l : List Oper} (h : ∀ a w, Upto ops G a0 w0 (fun j => ∃ e ∈ o.after, Region.binds .any e = true ∧ e.on = j) a w → StepOk P ops Q G i o a w) (hs : StepsFrom P ops Q G a0 w0 (i + 1) l) : StepsFrom P ops Q G a0 w0 i (o :: l) := ⟨h, hs⟩
theorem StepsFrom.at : ∀ {l : List Oper} {i : Nat}, StepsFrom P ops Q G a0 w0 i l → ∀ (j : Nat) (o : Oper), l[j]? = some o → ∀ a w, Upto ops G a0 w0 (fun j => ∃ e ∈ o.after, Region.binds .any e = true ∧ e.on = j) a w → StepOk P ops Q G (i + j) o a w
  | [], _, _, j, o, h => by simp at h
  | x :: l, i, hs, 0, o, h => by
    simp at h
    subst h
    exact hs.1
  | x :: l, i, hs, j + 1, o, h => by
    have := StepsFrom.at hs.2 j o (by simpa using h)
    rw [show i + (j + 1) = i + 1 + j by omega]
    exact this
theorem steps_all (h : StepsFrom P ops Q G a0 w0 0 ops.toList) : ∀ i o, ops[i]? = some o → ∀ a w, Upto ops G a0 w0 (fun j => ∃ e ∈ o.after, Region.binds .any e = true ∧ e.on = j) a w → StepOk P ops Q G i o a w := fun i o ho => by
  have := h.at i o (by rw [Array.getElem?_toList]; exact ho)
  rwa [Nat.zero_add] at this

/-- Of what an operation waits for, by number and place. -/
def depB (ops : Array Oper) (o : Oper) (j : Nat) (d : Tmp) : Bool := decide (j < ops.size) && o.after.toList.any (fun e => e.on == j && Region.binds .any e) && dstOf ops j == d
theorem Upto.dep {o : Oper} {a : Act} {w : World} (h : Upto ops G a0 w0 (fun j => ∃ e ∈ o.after, Region.binds .any e = true ∧ e.on = j) a w) (j : Nat) (d : Tmp) (hc : depB ops o j d = true) : G j (slot a d) w := by
  simp only [depB, Bool.and_eq_true, decide_eq_true_eq, beq_iff_eq, List.any_eq_true] at hc
  obtain ⟨⟨h1, e, h2, h3, h4⟩, h5⟩ := hc
  have := h.good j h1 ⟨e, Array.mem_toList_iff.1 h2, h4, h3⟩
  rwa [h5] at this
def freeB (ops : Array Oper) (t : Tmp) : Bool := (List.range ops.size).all fun i => dstOf ops i != t
theorem Upto.keep {done : Nat → Prop} {a : Act} {w : World} (h : Upto ops G a0 w0 done a w) (t : Tmp) (hc : freeB ops t = true) : slot a t = slot a0 t :=
  h.old t fun i hi => by
    have := List.all_eq_true.1 hc i (List.mem_range.2 hi)
    simpa using this
theorem Upto.last {a : Act} {w : World} (h : Upto ops G a0 w0 (fun _ => True) a w) (j : Nat) (d : Tmp) (hc : (decide (j < ops.size) && dstOf ops j == d) = true) : G j (slot a d) w := by
  simp only [Bool.and_eq_true, decide_eq_true_eq, beq_iff_eq] at hc
  have := h.good j hc.1 trivial
  rwa [hc.2] at this

theorem eval_tmp (a : Act) (t : Tmp) : a.eval (.tmp t) = slot a t := by
  unfold slot Act.eval
  simp [Array.getD_eq_getD_getElem?]
theorem eval_const (a : Act) (v : Value) : a.eval (.const v) = v := rfl
theorem wanted_none {o : Oper} {y : Nat → Option Bool} (h : o.guard = none) : Region.wanted o y = true := by simp [Region.wanted, h]
theorem wanted_some {o : Oper} {a : Act} {j d : Nat} {b c : Bool} (h : o.guard = some (j, b)) (hd : (ops[j]?).bind (·.dst) = some d) (hs : slot a d = .bool c) : Region.wanted o (yielded ops a.tmps) = (c == b) := by
  have hv : a.tmps[d]? = some (.bool c) := by
    unfold slot at hs
    rw [Array.getD_eq_getD_getElem?] at hs
    cases h2 : a.tmps[d]? with
    | none => rw [h2] at hs; cases hs
    | some x => rw [h2] at hs; rw [show x = .bool c from hs]
  simp [Region.wanted, h, yielded, hd, hv]

variable {i : Nat} {o : Oper} {a : Act} {w : World}
theorem step_val (hw : Region.wanted o (yielded ops a.tmps) = true) {v : Value} (hr : (execOp a.eval o).run P w = .ok (.value v) w) (hg : G i v w) : StepOk P ops Q G i o a w :=
  .inl ⟨hw, by unfold Oper.wp; rw [hr]; exact ⟨v, rfl, Below.refl _ _, hg⟩⟩
theorem step_call (hw : Region.wanted o (yielded ops a.tmps) = true) {f : FuncId} {args : Array Value} (hr : (execOp a.eval o).run P w = .ok (.enter f args) w)
    (hc : Calls P f args w fun e w' => ∃ v, e = .returned v ∧ Below w.heap.size w w' ∧ G i v w') : StepOk P ops Q G i o a w :=
  .inl ⟨hw, by
    unfold Oper.wp
    rw [hr, Oper.upon_enter]
    refine hc.mono ?_
    rintro e w' ⟨v, rfl, hb, hg⟩
    exact ⟨v, rfl, hb, hg⟩⟩
theorem step_skip (hw : Region.wanted o (yielded ops a.tmps) = false) (hg : G i undef w) : StepOk P ops Q G i o a w := .inr ⟨hw, hg⟩
theorem run_move {x : Operand} (ho : o.op = .move x) : (execOp a.eval o).run P w = .ok (.value (a.eval x)) w := by simp [execOp, ho]
theorem run_assign {x : Operand} (ho : o.op = .assign x) : (execOp a.eval o).run P w = .ok (.value (a.eval x)) w := by simp [execOp, ho]
theorem run_pick {c x y : Operand} {b : Bool} (ho : o.op = .pick c x y) (hc : a.eval c = .bool b) : (execOp a.eval o).run P w = .ok (.value (if b = true then a.eval x else a.eval y)) w := by
  simp [execOp, ho, hc, asBool]
theorem run_extract {t : Operand} {k : Nat} {vs : Array Value} {v : Value} (ho : o.op = .extract t k) (ht : a.eval t = .tuple vs) (hv : vs[k]? = some v) : (execOp a.eval o).run P w = .ok (.value v) w := by
  simp [execOp, ho, ht, Instr.extract, hv]
theorem run_conv {x : Operand} {s d : TypeId} {v : Value} (ho : o.op = .convert s d x) (h : (convert s d (a.eval x)).run P w = .ok v w) : (execOp a.eval o).run P w = .ok (.value v) w := by
  simp [execOp, ho, h, Result.andThen]
/-- The frame, slot by slot. -/
theorem act_lit {n : Nat} (h : a.tmps.size = n) (hd : a.defers = []) : a = ⟨((List.range n).map (slot a)).toArray, []⟩ := by
  obtain ⟨ts, ds⟩ := a
  subst h
  have hd' : ds = [] := hd
  subst hd'
  congr 1
  show ts = ((List.range ts.size).map (slot ⟨ts, []⟩)).toArray
  apply Array.ext_getElem?
  intro i
  rw [List.getElem?_toArray (xs := (List.range ts.size).map (slot ⟨ts, []⟩)), List.getElem?_map]
  by_cases hi : i < ts.size
  · rw [List.getElem?_range hi, Array.getElem?_eq_getElem hi]
    simp [slot, Array.getD_eq_getD_getElem?, Array.getElem?_eq_getElem hi]
  · rw [Array.getElem?_eq_none (by omega), List.getElem?_eq_none (by simp; omega)]
    rfl
theorem slot_ext {a b : Act} (hs : a.tmps.size = b.tmps.size) (hd : a.defers = b.defers) (h : ∀ t, slot a t = slot b t) : a = b := by
  obtain ⟨ts, ds⟩ := a
  obtain ⟨us, es⟩ := b
  have hd' : ds = es := hd
  subst hd'
  congr 1
  apply Array.ext
  · exact hs
  · intro i h1 h2
    have := h i
    unfold slot at this
    simpa [Array.getD_eq_getD_getElem?, Array.getElem?_eq_getElem h1, Array.getElem?_eq_getElem h2] using this
def puts (a : Act) (ds : List Tmp) (b : Act) : Act := ds.foldl (fun b d => b.put (some d) (slot a d)) b
theorem puts_size (a : Act) : ∀ (ds : List Tmp) (b : Act), (puts a ds b).tmps.size = b.tmps.size ∧ (puts a ds b).defers = b.defers
  | [], _ => ⟨rfl, rfl⟩
  | d :: ds, b => by
    obtain ⟨h1, h2⟩ := puts_size a ds (b.put (some d) (slot a d))
    exact ⟨h1.trans (by simp [Act.put]), h2.trans (by simp [Act.put])⟩
theorem puts_slot (a : Act) (t : Tmp) : ∀ (ds : List Tmp) (b : Act), (∀ d ∈ ds, d < b.tmps.size) → slot (puts a ds b) t = if t ∈ ds then slot a t else slot b t
  | [], _, _ => by simp [puts]
  | d :: ds, b, h => by
    have h1 := puts_slot a t ds (b.put (some d) (slot a d)) (fun x hx => by simpa [Act.put] using h x (List.mem_cons_of_mem _ hx))
    show slot (puts a ds (b.put (some d) (slot a d))) t = _
    rw [h1]
    by_cases h2 : t ∈ ds
    · rw [if_pos h2, if_pos (List.mem_cons_of_mem _ h2)]
    · rw [if_neg h2]
      by_cases h3 : d = t
      · subst h3
        rw [if_pos List.mem_cons_self, slot_put_same _ (h d List.mem_cons_self)]
      · rw [slot_put_other _ h3, if_neg]
        intro h4
        rcases List.mem_cons.1 h4 with h5 | h5
        · exact h3 h5.symm
        · exact h2 h5
/-- The frame behind the region: as it was, with what was put. -/
theorem act_puts (h : Upto ops G a0 w0 (fun _ => True) a w) (ht : tidyB ops a0.tmps.size = true) (ds : List Tmp) (hds : (List.range ops.size).map (dstOf ops) = ds) : a = puts a ds a0 := by
  have hm : ∀ t, t ∈ ds ↔ ∃ i, i < ops.size ∧ dstOf ops i = t := fun t => by
    rw [← hds, List.mem_map]
    constructor
    · rintro ⟨i, hi, he⟩; exact ⟨i, List.mem_range.1 hi, he⟩
    · rintro ⟨i, hi, he⟩; exact ⟨i, List.mem_range.2 hi, he⟩
  obtain ⟨p1, p2⟩ := puts_size a ds a0
  refine slot_ext (h.size.trans p1.symm) (h.defers.trans p2.symm) fun t => ?_
  rw [puts_slot a t ds a0 fun d hd => by
    obtain ⟨i, hi, rfl⟩ := (hm d).1 hd
    obtain ⟨-, -, -, -, h1, -⟩ := tidy_spec ht hi
    exact h1]
  by_cases h1 : t ∈ ds
  · rw [if_pos h1]
  · rw [if_neg h1]
    exact h.old t fun i hi he => h1 ((hm t).2 ⟨i, hi, he⟩)
/-- The one result is in a slot. -/
theorem ret_slot {fn : Func} {R : Ending → World → Prop} {t : Tmp} {v : Value} (hf : fn.results = #[.tmp t]) (h : slot a t = v) (hd : a.defers = []) (hR : R (.returned v) w) : bodyPost P fn R .ret a w := by
  refine bodyPost_ret (v := v) ?_ hd hR
  have h' : a.tmps.getD t undef = v := h
  simp only [results, hf]
  simp [← h']
end
end Go.Proofs.Ytjlmkhomedoolaa
