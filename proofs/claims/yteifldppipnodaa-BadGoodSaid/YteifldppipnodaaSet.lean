/- Sets of numbers: a map that holds just these: asked, and put to. -/
import Derived.Test.YteifldppipnodaaIntsC
import Derived.Maps.OwnSet
namespace Go.Proofs.Yteifldppipnodaa.Bad
open Go.RowKit Go.Sort Go.Maps

theorem lawN : Keyed Try.prog 3 := int_keyed Try.underlying3
theorem zeroU (w : World) : (zeroValue 50).run Try.prog w = .ok (.agg #[]) w := by kernel_rfl
def litN (x : Nat) : Lit := .int .i64 (x : Int)
def setD (l : List Nat) : DataW Unit := setOf (.agg []) (l.map litN)
/-- A block that is a map of at most n entries, and holds just these. -/
def SetN (w : World) (B n : Nat) (l : List Nat) : Prop := w.ownsMap Try.prog 3 (unitElem (H := Unit)) B n (setD l)
theorem setD_snoc (l : List Nat) (x : Nat) : setD (l ++ [x]) = (setD l).put (litN x) (.agg []) := by
  unfold setD
  rw [List.map_append, List.map_cons, List.map_nil, setOf_snoc]
theorem litN_same (x y : Nat) : (litN x).sameKey (litN y) = decide (y = x) := by
  unfold litN
  simp only [Lit.sameKey]
  rw [Bool.eq_iff_iff]
  simp
  omega
theorem has_setD (l : List Nat) (x : Nat) : Maps.has (setD l) (litN x) = decide (x ∈ l) := by
  unfold setD
  rw [has_setOf _ _ _ (fun y hy => by obtain ⟨z, -, rfl⟩ := List.mem_map.1 hy; trivial)]
  induction l with
  | nil => rfl
  | cons y l ih =>
    rw [List.map_cons, List.any_cons, ih, litN_same, Bool.eq_iff_iff]
    simp
theorem keyN {x : Nat} (h : x < 1000000) : keyOf Try.prog 3 (.int .i64 (x : Int)) = some (litN x) := keyOf_int_mk Try.underlying3 (WalkArith.wf_i64 (by omega))
theorem SetN.made (w : World) : SetN (w.alloc (.map #[] 0)) w.heap.size 0 [] := World.ownsMap_made _ _ _ _
theorem SetN.later {w w' : World} {B n : Nat} {l : List Nat} (h : SetN w B n l) (hb : Below w.heap.size w w') : SetN w' B n l := by
  have hl := World.ownsMap.lt h
  obtain ⟨es, clock, h1, r⟩ := h
  exact ⟨es, clock, (hb.block _ hl).trans h1, r⟩
theorem SetN.mono {w : World} {B n n' : Nat} {l : List Nat} (h : SetN w B n l) (hn : n ≤ n') : SetN w B n' l := World.ownsMap.mono h hn

variable {ops : Array Oper} {rest : List Oper} {o : Oper} {a : Act} {Q : Exit → Act → World → Prop} {w : World}
theorem wpList_seen (hgd : o.guard = none) (m x : Operand) (ho : o.op = .lookup 49 m x true) {B n y : Nat} {l : List Nat} (hm : a.eval m = .map (some B)) (hx : a.eval x = .int .i64 (y : Int)) (h : SetN w B n l) (hy : y < 1000000)
    (k : wpList Try.prog ops Q rest (a.put o.dst (.tuple #[.agg #[], .bool (decide (y ∈ l))])) w) : wpList Try.prog ops Q (o :: rest) a w := by
  refine wpList_lookup_own_unit _ hgd m x 49 ho 3 50 lawN Try.underlying49 (zeroU _) B n _ hm h _ _ hx (keyN hy) ?_
  rw [has_setD]
  exact k
theorem wpList_known (hgd : o.guard = none) (m x : Operand) (ho : o.op = .lookup 49 m x true) {B n y : Nat} {l : List Nat} (hm : a.eval m = .map (some B)) (hx : a.eval x = .int .i64 (y : Int)) (h : SetN w B n l) (hy : y < 1000000) (b : Bool) (hb : decide (y ∈ l) = b)
    (k : wpList Try.prog ops Q rest (a.put o.dst (.tuple #[.agg #[], .bool b])) w) : wpList Try.prog ops Q (o :: rest) a w := by
  subst hb
  exact wpList_seen hgd m x ho hm hx h hy k
theorem wpList_note (hgd : o.guard = none) (m x v : Operand) (ho : o.op = .mapUpdate 49 m x v) {B n y : Nat} {l : List Nat} (hm : a.eval m = .map (some B)) (hx : a.eval x = .int .i64 (y : Int)) (hv : a.eval v = .agg #[]) (h : SetN w B n l) (hy : y < 1000000) (hn : n < 1000000)
    (k : ∀ w', SetN w' B (n + 1) (l ++ [y]) → w.grownBy w' (some B) → wpList Try.prog ops Q rest (a.put o.dst undef) w') : wpList Try.prog ops Q (o :: rest) a w := by
  refine wpList_mapUpdate_own _ hgd m x v 49 ho 3 50 lawN Try.underlying49 (unitElem (H := Unit)) B n _ hm h (by unfold maxLen; omega) _ _ _ hx hv (keyN hy) (.agg []) [] unitElem_mk ?_
  intro w' h1 h2
  refine k w' ?_ h2
  unfold SetN
  rw [setD_snoc]
  exact h1
theorem OwnN.noted {w w' : World} {base B : Nat} {v : Value} {l : List Nat} (h : OwnN w base v l) (hg : w.grownBy w' (some B)) (hB : B < base) : OwnN w' base v l :=
  World.ownsRow.kept h hg (.inr fun he => by have := (World.ownsRow.lt h B he).1; omega)
theorem OwnN.shape {w : World} {base : Nat} {v : Value} {l : List Nat} (h : OwnN w base v l) (hl : 0 < l.length) : ∃ g cap, v = .slice (some ⟨g, 0, none⟩) l.length cap ∧ base ≤ g := by
  rcases h.2 with ⟨h1, h2⟩ | ⟨g, cap, cur, h1, h2, h3, h4, h5, h6, h7⟩
  · omega
  · exact ⟨g, cap, h1, h2⟩
end Go.Proofs.Yteifldppipnodaa.Bad
