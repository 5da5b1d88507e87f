/- What TrieWays's walk needs of memory: a row of marks of the call's own; key.Cut at a key's whole bits; keys compared. -/
import Derived.Test.YtggjcjijoihilaaTrieAwake
import Derived.Test.YtggjcjijoihilaaTWaysP
namespace Go.Proofs.Ytggjcjijoihilaa
open Go.RowKit Go.Sort Go.Shelf

def mc (xs : List Bool) : List Value := xs.map fun x => .bool x
def OwnM (w : World) (base : Nat) (v : Value) (xs : List Bool) : Prop := w.ownsRow base 4 1 v xs.length (mc xs)
theorem OwnM.later {w w' : World} {base : Nat} {v : Value} {xs : List Bool} (h : OwnM w base v xs) (hb : Below w.heap.size w w') : OwnM w' base v xs :=
  World.ownsRow.kept (row := none) h ⟨hb.os, hb.tape, hb.output, hb.size, fun k hk _ => hb.block k hk⟩ (by cases hv : v.ownBlock <;> simp)
theorem OwnM.cell {w : World} {base g n cap : Nat} {xs : List Bool} (h : OwnM w base (.slice (some ⟨g, 0, none⟩) n cap) xs) (hn : n = xs.length) {j : Nat} {x : Bool} (hj : xs[j]? = some x) : w.cell? ⟨g, j, none⟩ = some (.bool x) := by
  subst hn
  have hlt := (List.getElem?_eq_some_iff.1 hj).1
  have := World.ownsRow.cellAt h j (by omega)
  rw [this]; unfold mc; rw [List.getElem?_map, hj]; rfl
theorem OwnM.frozen {w : World} {base g n cap : Nat} {xs : List Bool} (h : OwnM w base (.slice (some ⟨g, 0, none⟩) n cap) xs) (hn : n = xs.length) (j : Nat) : w.frozen? ⟨g, j, none⟩ = false := by
  subst hn; exact World.ownsRow.frozenAt h j
theorem OwnM.set {w : World} {base g n cap : Nat} {xs : List Bool} (h : OwnM w base (.slice (some ⟨g, 0, none⟩) n cap) xs) (hn : n = xs.length) (j : Nat) (x : Bool) :
    OwnM (w.setCell ⟨g, j, none⟩ (.bool x)) base (.slice (some ⟨g, 0, none⟩) n cap) (xs.set j x) ∧ w.grownBy (w.setCell ⟨g, j, none⟩ (.bool x)) (some g) := by
  subst hn
  have := World.ownsRow.stored h j (.bool x)
  refine ⟨?_, this.2⟩
  unfold OwnM
  rw [List.length_set]
  have e : mc (xs.set j x) = (mc xs).set j (.bool x) := by unfold mc; rw [List.map_set]
  rw [e]; exact this.1
def marksMake (n m : Value) : Sem Value := Instr.makeSlice 68 n m
theorem make_marks (n m : Value) : Instr.makeSlice 68 n m = marksMake n m := rfl
theorem infoBool : (Try.prog.info? 4).map (fun i => (i.zero, i.size, i.bytes)) = some (some (.bool false), 1, 1) := by kernel_rfl
theorem run_marksMake (n : Nat) (h : n ≤ 512) (w : World) : ∃ w', (marksMake (.int .i64 n) (.int .i64 n)).run Try.prog w = .ok (.slice (some ⟨w.heap.size, 0, none⟩) n n) w' ∧ OwnM w' w.heap.size (.slice (some ⟨w.heap.size, 0, none⟩) n n) (List.replicate n false) ∧ Below w.heap.size w w' := by
  obtain ⟨i, h0, h1, h2, h3⟩ := info_parts infoBool
  obtain ⟨w', r1, r2, r3⟩ := run_makeSlice_full (P := Try.prog) w w.heap.size 68 4 i (.bool false) 1 Try.underlying68 h0 h1 h2 .i64 .i64 n (by omega) (by rw [h3]; omega) (by simp only [maxLen]; omega) (Nat.le_refl _)
  refine ⟨w', r1, ?_, ⟨r3.os, r3.tape, r3.output, r3.size, fun k hk => r3.block k hk (by simp)⟩⟩
  unfold OwnM mc
  rw [List.length_replicate, List.map_replicate]
  have e : (madeCells (Value.bool false).cells (n * 1)).toList = List.replicate n (.bool false) := by rw [Nat.mul_one]; exact toList_madeCells_one _ _
  rw [e] at r2
  exact r2

theorem cut_whole_any (k : Nat → Nat) (hk : Bytes16 k) (bits : Int) (hb : bits = 32 ∨ bits = 128) (w : World) :
    Calls Try.prog 30 #[.agg (kc k), .int .i64 bits] w fun e w' => ∃ q, Bytes16 q ∧ e = .returned (.agg (kc q)) ∧ (keyEq q k = true → mayB (wholeP k bits) = true) ∧ Below w.heap.size w w' := by
  rcases hb with rfl | rfl
  · exact (cut_in k 32 (by omega) (by omega) w hk).mono fun e w' h => ⟨cutB k 32, cutB_bytes hk 32, h.1, fun h2 => cut_whole hk (.inl rfl) h2, h.2⟩
  · exact (cut_all k 128 (by omega) w).mono fun e w' h => ⟨k, hk, h.1, fun _ => cut_whole hk (.inr rfl) ((endsB_iff hk 128).2 fun j h1 h2 => by omega), h.2⟩
end Go.Proofs.Ytggjcjijoihilaa
