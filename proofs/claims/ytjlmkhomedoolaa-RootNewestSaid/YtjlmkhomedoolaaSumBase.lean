/- Bytes as values: a slice of them that reads so, one of the call's own, a piece of one, its text, one behind another. -/
import Derived.Test.YtjlmkhomedoolaaRows
import Derived.Test.YtjlmkhomedoolaaSumQ
import Derived.WalkKit
import Derived.WalkSpells
import Derived.WalkLawsBesides
import Derived.BigQuiet
import Derived.Below
import Derived.Lib.QuietBelow
import Derived.Lib.Hide
import Derived.Laws.AppendOwn
import Derived.Laws.AppendOwnNone
import Derived.Laws.OwnMore
import Derived.Laws.BitsAllLaws
import Derived.Laws.BytesArg
import Derived.Laws.BytesString
import Derived.Lib.SliceRun
namespace Go.Proofs.Ytjlmkhomedoolaa
open Go.RowKit Go.Sort

def byV (x : UInt8) : Value := .int .u8 (x.toNat : Int)
def cellsB (l : List UInt8) : List Value := l.map byV
theorem cellsB_length (l : List UInt8) : (cellsB l).length = l.length := by simp [cellsB]
theorem cellsB_append (a b : List UInt8) : cellsB (a ++ b) = cellsB a ++ cellsB b := by simp [cellsB]
theorem cellsB_one (l : List UInt8) : ∀ u ∈ cellsB l, u.oneCell' = true := fun u hu => by
  obtain ⟨x, -, rfl⟩ := List.mem_map.1 hu; rfl
theorem cellsB_at {l : List UInt8} {i : Nat} {x : UInt8} (h : l[i]? = some x) : (cellsB l)[i]? = some (byV x) := by
  unfold cellsB; rw [List.getElem?_map, h]; rfl

/-- A slice that reads as bytes. -/
def RdB (w : World) (v : Value) (l : List UInt8) : Prop :=
  ∃ a cap, v = .slice a l.length cap ∧ l.length ≤ cap ∧ cap ≤ maxLen ∧ (a = none → cap = 0) ∧ ∀ ad, a = some ad → ∀ (j : Nat) u, (cellsB l)[j]? = some u → w.cell? (ad.add j) = some u
/-- A slice of bytes that is the call's own. -/
def OwnB (w : World) (base : Nat) (v : Value) (l : List UInt8) : Prop := w.ownsRow base 5 1 v l.length (cellsB l)

theorem add_here (g o j : Nat) : (⟨g, o, none⟩ : Addr).add j = ⟨g, o + j, none⟩ := by unfold Addr.add; split <;> simp_all
theorem add_add (a : Addr) (m n : Nat) : (a.add m).add n = a.add (m + n) := by
  obtain ⟨b, o, s⟩ := a
  unfold Addr.add
  by_cases hm : m = 0 <;> by_cases hn : n = 0 <;> simp [hm, hn, Nat.add_assoc]
theorem RdB.later {w w' : World} {v : Value} {l : List UInt8} (h : RdB w v l) (hb : Below w.heap.size w w') : RdB w' v l := by
  obtain ⟨a, cap, h1, h2, h3, h4, h5⟩ := h
  refine ⟨a, cap, h1, h2, h3, h4, fun ad ha j u hu => ?_⟩
  have := h5 ad ha j u hu
  rw [hb.cell (World.block_lt_of_cell? _ _ this)]; exact this
theorem RdB.regrown {w : World} {v : Value} {l : List UInt8} (h : RdB w v l) (d : Nat) (os : Array Obj) : RdB (grow (redrawn w d) os) v l := by
  obtain ⟨a, cap, h1, h2, h3, h4, h5⟩ := h
  exact ⟨a, cap, h1, h2, h3, h4, fun ad ha j u hu => cell_regrown (h5 ad ha j u hu) d os⟩
theorem OwnB.rd {w : World} {base : Nat} {v : Value} {l : List UInt8} (h : OwnB w base v l) : RdB w v l := by
  rcases h.2 with ⟨h1, h2⟩ | ⟨g, cap, cur, h1, h2, h3, h4, h5, h6, h7⟩
  · refine ⟨none, 0, by rw [h1, h2], by omega, Nat.zero_le _, fun _ => rfl, fun ad ha => by cases ha⟩
  · refine ⟨some ⟨g, 0, none⟩, cap, h1, h4, h5, (fun h => by cases h), fun ad ha j u hu => ?_⟩
    cases ha
    exact h.cells (by rw [h1]; rfl) j u hu
theorem OwnB.later {w w' : World} {base : Nat} {v : Value} {l : List UInt8} (h : OwnB w base v l) (hb : Below w.heap.size w w') : OwnB w' base v l := by
  refine ⟨h.1, ?_⟩
  rcases h.2 with h1 | ⟨g, cap, cur, h1, h2, h3, h4⟩
  · exact .inl h1
  · exact .inr ⟨g, cap, cur, h1, h2, by rw [hb.block g (Array.getElem?_eq_some_iff.1 h3).1]; exact h3, h4⟩
theorem OwnB.mono {w : World} {base base' : Nat} {v : Value} {l : List UInt8} (h : OwnB w base v l) (hb : base' ≤ base) : OwnB w base' v l := by
  refine ⟨h.1, ?_⟩
  rcases h.2 with h1 | ⟨g, cap, cur, h1, h2, h3⟩
  · exact .inl h1
  · exact .inr ⟨g, cap, cur, h1, by omega, h3⟩
theorem OwnB.nil (w : World) (base : Nat) : OwnB w base (.slice none 0 0) [] := World.ownsRow_nil _ _ _ _
theorem OwnB.made (w : World) (cur : List UInt8) : OwnB (w.alloc (.cells (cellsB cur).toArray 5)) w.heap.size (.slice (some ⟨w.heap.size, 0, none⟩) cur.length cur.length) cur ∨ ¬ cur.length ≤ maxLen := by
  by_cases h : cur.length ≤ maxLen
  · exact .inl ⟨by rw [cellsB_length]; omega, .inr ⟨w.heap.size, cur.length, _, rfl, Nat.le_refl _, heap_alloc_new w _, Nat.le_refl _, h, by simp [cellsB_length], by rw [Nat.mul_one, List.toList_toArray, List.take_of_length_le (by rw [cellsB_length]; omega)]⟩⟩
  · exact .inr h
/-- The shape of a slice that reads as bytes. -/
theorem RdB.form {w : World} {v : Value} {l : List UInt8} (h : RdB w v l) (hl : 0 < l.length) : ∃ b o cap, v = .slice (some ⟨b, o, none⟩) l.length cap ∧ ∀ (i : Nat) x, l[i]? = some x → w.cell? ⟨b, o + i, none⟩ = some (byV x) := by
  obtain ⟨a, cap, h1, h2, h3, h4, h5⟩ := h
  cases a with
  | none => have := h4 rfl; omega
  | some ad =>
    obtain ⟨b, o, s⟩ := ad
    have c0 := h5 _ rfl 0 _ (cellsB_at (List.getElem?_eq_getElem hl))
    obtain rfl : s = none := by simpa [Addr.add] using World.cell?_spot c0
    exact ⟨b, o, cap, h1, fun i x hx => by rw [← add_here]; exact h5 _ rfl i _ (cellsB_at hx)⟩
theorem RdB.len {w : World} {v : Value} {l : List UInt8} (h : RdB w v l) : ∃ a cap, v = .slice a l.length cap ∧ l.length ≤ cap ∧ cap ≤ maxLen := by
  obtain ⟨a, cap, h1, h2, h3, -⟩ := h
  exact ⟨a, cap, h1, h2, h3⟩

/-- A piece of a slice of bytes, behind a name. -/
def bytesSlice (v : Value) (lo hi : Option Value) : Sem Value := Instr.slice 29 v lo hi none
theorem slice_bytes (v : Value) (lo hi : Option Value) : Instr.slice 29 v lo hi none = bytesSlice v lo hi := rfl
theorem sizeB (w : World) : (Go.sizeOf 5).run Try.prog w = .ok 1 w := by kernel_rfl
theorem elemB : Try.prog.elem 29 = 5 := by simp [Program.elem, Try.underlying29]
theorem underB : Try.prog.underlying 29 = some (.slice (Try.prog.elem 29)) := by rw [elemB]; exact Try.underlying29
theorem cells_drop (l : List UInt8) (k j : Nat) : (cellsB (l.drop k))[j]? = (cellsB l)[k + j]? := by simp [cellsB, List.getElem?_map, List.getElem?_drop]
theorem slice_head {w : World} {v : Value} {l : List UInt8} (h : RdB w v l) {k : Nat} (hk : k ≤ l.length) : ∃ v', (∀ (i : Int) W, i = k → (bytesSlice v none (some (.int .i64 i))).run Try.prog W = .ok v' W) ∧ RdB w v' (l.take k) := by
  obtain ⟨a, cap, h1, h2, h3, h4, h5⟩ := h
  subst h1
  refine ⟨sliced a 0 k cap 1, fun i W hi => ?_, ?_⟩
  · subst hi
    unfold bytesSlice
    rw [run_slice_h W 29 a _ _ underB .i64 _ (by omega) (by omega), elemB, sizeB]
    simp [Result.andThen]
  · have hlen : (l.take k).length = k := by rw [List.length_take]; omega
    refine ⟨if cap = 0 then a else a.map (·.add (0 * 1)), cap, by rw [hlen]; rfl, by omega, h3, ?_, ?_⟩
    · intro ha
      split at ha
      · assumption
      · cases a with
        | none => exact h4 rfl
        | some ad => cases ha
    · intro ad ha j u hu
      have hj : j < k := by
        have := (List.getElem?_eq_some_iff.1 hu).1
        rw [cellsB_length, hlen] at this; exact this
      have hu' : (cellsB l)[j]? = some u := by
        rw [← hu]; unfold cellsB; rw [List.getElem?_map, List.getElem?_map, List.getElem?_take_of_lt hj]
      rw [if_neg (by omega)] at ha
      cases a with
      | none => cases ha
      | some ad0 =>
        simp only [Option.map_some, Option.some.injEq] at ha
        subst ha
        rw [add_add, Nat.zero_mul, Nat.zero_add]
        exact h5 _ rfl j u hu'
theorem slice_tail {w : World} {v : Value} {l : List UInt8} (h : RdB w v l) {k : Nat} (hk : k ≤ l.length) : ∃ v', (∀ (i : Int) W, i = k → (bytesSlice v (some (.int .i64 i)) none).run Try.prog W = .ok v' W) ∧ RdB w v' (l.drop k) := by
  obtain ⟨a, cap, h1, h2, h3, h4, h5⟩ := h
  subst h1
  refine ⟨sliced a k l.length cap 1, fun i W hi => ?_, ?_⟩
  · subst hi
    unfold bytesSlice
    rw [run_slice_l W 29 a _ _ underB .i64 _ (by omega) (by omega), elemB, sizeB]
    simp [Result.andThen]
  · have hlen : (l.drop k).length = l.length - k := List.length_drop
    refine ⟨if cap = k then a else a.map (·.add (k * 1)), cap - k, by rw [hlen]; rfl, by omega, by omega, ?_, ?_⟩
    · intro ha
      split at ha
      · omega
      · cases a with
        | none => have := h4 rfl; omega
        | some ad => cases ha
    · intro ad ha j u hu
      rw [cells_drop] at hu
      have hj : k + j < l.length := by
        have := (List.getElem?_eq_some_iff.1 hu).1
        rw [cellsB_length] at this; exact this
      rw [if_neg (by omega)] at ha
      cases a with
      | none => cases ha
      | some ad0 =>
        simp only [Option.map_some, Option.some.injEq] at ha
        subst ha
        rw [add_add, Nat.mul_one]
        exact h5 _ rfl _ u hu

/-- A text of bytes, and whether two are the same, behind names. -/
def bs (l : List UInt8) : ByteArray := ⟨l.toArray⟩
theorem bs_inj {a b : List UInt8} (h : bs a = bs b) : a = b := by
  have := congrArg (fun x => x.data.toList) h
  simpa [bs] using this
theorem bs_toList (l : List UInt8) : (bs l).toList = l := by rw [ByteArray.toList_eq]; simp [bs]
def bytesText (v : Value) : Sem Value := convert 29 9 v
theorem text_bytes (v : Value) : convert 29 9 v = bytesText v := rfl
theorem run_text {w : World} {v : Value} {l : List UInt8} (h : RdB w v l) : (bytesText v).run Try.prog w = .ok (.string (bs l)) w := by
  obtain ⟨a, cap, h1, h2, h3, h4, h5⟩ := h
  subst h1
  cases l with
  | nil =>
    unfold bytesText
    show (convert _ _ (.slice a 0 cap)).run _ _ = _
    rw [run_convert_bytes_string w 29 9 5 _ 0 cap Try.underlying29 Try.underlying5 Try.underlying9]
    cases a <;> simp [Conv.bytesToString, loadCells] <;> rfl
  | cons x l =>
    obtain ⟨b, o, cap', e1, e2⟩ := RdB.form ⟨a, cap, rfl, h2, h3, h4, h5⟩ (by simp)
    cases e1
    have hr := run_convert_bytes_arg (P := Try.prog) w 29 5 Try.underlying29 Try.underlying5 b o (x :: l).length cap ((x :: l).map fun y => (y.toNat : Int)) (by simp) (fun i hi => by
      rw [e2 i ((x :: l)[i]) (List.getElem?_eq_getElem hi)]
      rw [List.getD_eq_getElem?_getD, List.getElem?_map, List.getElem?_eq_getElem hi]; rfl) 9 Try.underlying9
    unfold bytesText
    rw [hr]
    congr 2
    apply ByteArray.ext
    apply Array.toList_inj.1
    rw [strOfNums_data, List.map_map]
    show _ = (x :: l).toArray.toList
    conv => rhs; rw [List.toList_toArray, ← List.map_id (x :: l)]
    exact List.map_congr_left fun y _ => by simp
def textEq (a b : Value) : Sem Value := binOp .eql 9 a b
def textNe (a b : Value) : Sem Value := binOp .neq 9 a b
theorem eq_text (a b : Value) : binOp .eql 9 a b = textEq a b := rfl
theorem ne_text (a b : Value) : binOp .neq 9 a b = textNe a b := rfl
theorem run_textEq (a b : List UInt8) (w : World) : (textEq (.string (bs a)) (.string (bs b))).run Try.prog w = .ok (.bool (decide (a = b))) w := by
  unfold textEq
  rw [binOp_string_eql, bs_toList, bs_toList]
  have : (a == b) = decide (a = b) := by rw [Bool.eq_iff_iff]; simp
  rw [this]; rfl
theorem run_textNe (a b : List UInt8) (w : World) : (textNe (.string (bs a)) (.string (bs b))).run Try.prog w = .ok (.bool (!decide (a = b))) w := by
  unfold textNe
  have e : binOp .neq 9 (.string (bs a)) (.string (bs b)) = pure (.bool ((bs a).toList != (bs b).toList)) := by simp [binOp, Op.stringOp, bne]
  rw [e, bs_toList, bs_toList]
  have : (a != b) = !decide (a = b) := by rw [Bool.eq_iff_iff]; simp
  rw [this]; rfl

theorem infoB : (Try.prog.info? 5).map (fun i => (i.zero, i.size, i.bytes)) = some (some (.int .u8 0), 1, 1) := by kernel_rfl
/-- Bytes behind bytes of the call's own. -/
theorem run_appendB {w : World} {base : Nat} {v u : Value} {xs ys : List UInt8} (h : OwnB w base v xs) (hr : RdB w u ys) (hb : base ≤ w.heap.size) (hn : xs.length + ys.length ≤ 1000000) (ty : TypeId) :
    ∃ v' w', (Builtin.append_ #[29, 29] ty #[v, u]).run Try.prog w = .ok v' w' ∧ OwnB w' base v' (xs ++ ys) ∧ w.grownBy w' v.ownBlock := by
  obtain ⟨i0, e0, e1, e2, e3⟩ := info_parts infoB
  obtain ⟨a, cap, h1, h2, h3, h4, h5⟩ := hr
  subst h1
  cases a with
  | none =>
    have hc := h4 rfl
    subst hc
    have hy : ys = [] := List.length_eq_zero_iff.1 (by omega)
    subst hy
    refine ⟨v, w, ?_, by rw [List.append_nil]; exact h, ⟨rfl, rfl, rfl, Nat.le_refl _, fun _ _ _ => rfl⟩⟩
    exact run_append_owned_none (P := Try.prog) (w := w) base 29 ty 5 i0 1 Try.underlying29 e0 v _ _ h
  | some ad =>
    obtain ⟨v', w', r1, r2, r3, -⟩ := run_append_own (P := Try.prog) (w := w) base 29 ty 5 i0 (.int .u8 0) 1 1 Try.underlying29 e0 e1 e2 e3 rfl (by decide) v xs.length (cellsB xs) h ad ys.length cap (cellsB ys)
      (by rw [cellsB_length]; omega) (fun j u hu => h5 ad rfl j u hu) (cellsB_one ys) (by unfold maxLen; omega) (by omega) hb
    refine ⟨v', w', r1, ?_, r3⟩
    unfold OwnB
    rw [List.length_append, cellsB_append]
    exact r2
/-- The operation by itself. -/
theorem wpList_appendB {w : World} {ops : Array Oper} {rest : List Oper} {o : Oper} {a : Act} {Q : Exit → Act → World → Prop} (hgd : o.guard = none) (s x : Operand)
    (ho : o.op = .call { callee := .builtin .append, args := #[s, x], argTypes := #[29, 29] })
    {base : Nat} {v u : Value} {xs ys : List UInt8} (hs : a.eval s = v) (hx : a.eval x = u) (h : OwnB w base v xs) (hr : RdB w u ys) (hb : base ≤ w.heap.size) (hn : xs.length + ys.length ≤ 1000000)
    (k : ∀ v' w', OwnB w' base v' (xs ++ ys) → w.grownBy w' v.ownBlock → wpList Try.prog ops Q rest (a.put o.dst v') w') : wpList Try.prog ops Q (o :: rest) a w := by
  refine wpList_plain hgd fun K hK => ?_
  obtain ⟨v', w', hrun, h1, h2⟩ := run_appendB h hr hb hn o.type
  unfold Oper.wp
  simp [execOp, ho, resolve, invoke, builtin, hs, hx, hrun, Result.andThen]
  exact hK _ _ (k v' w' h1 h2)
/-- What grew by one's own is as it was below. -/
theorem OwnB.below {w w' : World} {base : Nat} {v : Value} {l : List UInt8} (h : OwnB w base v l) (hg : w.grownBy w' v.ownBlock) (hb : base ≤ w.heap.size) : Below base w w' :=
  (Below.refl base w).grown hg hb fun k hk => (World.ownsRow.lt h k hk).1

theorem ret_int {k : IntKind} {a b : Int} (h : a = b) : Ending.returned (.int k a) = .returned (.int k b) := by rw [h]
end Go.Proofs.Ytjlmkhomedoolaa
