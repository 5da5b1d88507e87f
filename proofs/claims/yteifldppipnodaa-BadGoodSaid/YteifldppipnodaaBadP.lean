/- Reserves, plainly: two lists of numbers, and what is right of them. -/
import Derived.Test.YteifldppipnodaaSet
namespace Go.Proofs.Yteifldppipnodaa.Bad
open Go.RowKit Go.Sort

structure Good (st lf : List Nat) : Prop where
  nodup : (st ++ lf).Nodup
  small : ∀ x ∈ st ++ lf, x < 255
  some : 1 ≤ (st ++ lf).length
  few : (st ++ lf).length ≤ 255
def rsC (u v : Value) : Array Value := #[u, v]
/-- A reserve that reads so. -/
def RdR (w : World) (r : Value) (st lf : List Nat) : Prop := ∃ u v, r = .agg #[u, v] ∧ RdN w u st ∧ RdN w v lf
theorem RdR.later {w w' : World} {r : Value} {st lf : List Nat} (h : RdR w r st lf) (hb : Below w.heap.size w w') : RdR w' r st lf := by
  obtain ⟨u, v, e, h1, h2⟩ := h
  exact ⟨u, v, e, h1.later hb, h2.later hb⟩
theorem box_cells (w : World) (u v : Value) :
    (w.alloc (.cells #[u, v] 25)).cell? ⟨w.heap.size, 0, none⟩ = some u ∧ (w.alloc (.cells #[u, v] 25)).cell? ⟨w.heap.size, 1, none⟩ = some v := by
  refine ⟨?_, ?_⟩ <;> (rw [World.cell?_alloc_at _ _ _ _ rfl]; rfl)
theorem keep_cell {w w' : World} {a : Addr} {v : Value} (h : w.cell? a = some v) (hb : Below w.heap.size w w') : w'.cell? a = some v :=
  (hb.cell (World.block_lt_of_cell? _ _ h)).trans h
theorem take_next {l : List Nat} {k x : Nat} (h : l[k]? = some x) : l.take (k + 1) = l.take k ++ [x] := by
  have hk : k < l.length := (List.getElem?_eq_some_iff.1 h).1
  rw [List.take_add_one, h]
  rfl
theorem not_before {l : List Nat} (h : l.Nodup) {k x : Nat} (hx : l[k]? = some x) : ¬ x ∈ l.take k := by
  intro hm
  obtain ⟨hk, rfl⟩ := List.getElem?_eq_some_iff.1 hx
  rw [← List.take_append_drop k l] at h
  refine (List.nodup_append.1 h).2.2 _ hm l[k] ?_ rfl
  rw [List.drop_eq_getElem_cons hk]
  exact List.mem_cons_self
end Go.Proofs.Yteifldppipnodaa.Bad
