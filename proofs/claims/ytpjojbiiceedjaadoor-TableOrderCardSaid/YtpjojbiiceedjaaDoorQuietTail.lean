/- A region that draws its order, whose head only reads and calls what makes memory (Below), and whose tail goes one by one: walked once, in the order of the text. Nothing of the program is named. -/
import Derived.StillTail
import Derived.Lib.QuietBelow
namespace Go.Proofs.YtpjojbiiceedjaaDoor.Rr
open Go

section
variable {P : Program} {ops : Array Oper} {md : Region.Mode} {C : World → Prop}

/-- So many operations of the head come up, in whatever order; then 'L'. -/
def HeadQ (P : Program) (md : Region.Mode) (ops : Array Oper) (C : World → Prop) (n : Nat) (L : Array Bool → Act → Prop) : Nat → Array Bool → Act → Prop
  | 0, seen, a => L seen a
  | k + 1, seen, a => Region.ready md ops seen ≠ [] ∧ ∀ i, i ∈ Region.ready md ops seen → i < n ∧ qOp P ops C i (HeadQ P md ops C n L k (seen.setIfInBounds i true)) a

theorem HeadQ.any {n g : Nat} {L : Array Bool → Act → Prop} {Q : Exit → Act → World → Prop} (hL : ∀ seen a w, C w → L seen a → wpAny P md ops Q g seen a w) :
    ∀ (k : Nat) (seen : Array Bool) (a : Act) (w : World), C w → HeadQ P md ops C n L k seen a → wpAny P md ops Q (k + g) seen a w
  | 0, _, _, _, hw, h => by rw [Nat.zero_add]; exact hL _ _ _ hw h
  | k + 1, _, _, _, hw, h => by
    rw [Nat.succ_add_eq_add_succ k g]
    refine ⟨fun none => absurd none h.1, fun i hi => wpOp_of_qOp hw (fun a' w' hw' h' => HeadQ.any hL k _ a' w' hw' h') (h.2 i hi).2⟩

theorem HeadQ.first {n i : Nat} {o : Oper} {v : Value} {L : Array Bool → Act → Prop} (hi : ops[i]? = some o) (plain : ∀ (j : Nat) (p : Oper) cs b, ops[j]? = some p → p.op ≠ .select cs b)
    (sink : Region.sinkB md ops n = true) (chain : Region.chainB md ops n = true) (hn : n < ops.size) (hin : i < n) (done : ∀ seen a, L seen a → ∀ j ∈ Region.ready md ops seen, n ≤ j) :
    ∀ (k : Nat) (seen : Array Bool) (a : Act), HeadInv md ops n seen →
      (∀ j p, ops[j]? = some p → j ≠ i → seen.getD j true = false → (∀ e ∈ p.after, Region.binds md e = true → e.on ≠ i) → o.apart ops p = true) →
      i ∈ Region.ready md ops seen → YieldsIn P ops C o v a → HeadQ P md ops C n L k (seen.setIfInBounds i true) (a.put o.dst v) → HeadQ P md ops C n L (k + 1) seen a := by
  intro k
  induction k with
  | zero =>
    intro seen a inv _ ready yields H
    refine ⟨List.ne_nil_of_mem ready, fun j hj => ?_⟩
    have open_i := (mem_ready.1 ready).1
    have jn : j < n := Nat.lt_of_not_le fun h => tail_waits sink chain hn inv _ i rfl hin open_i j h hj
    by_cases e : j = i
    · exact ⟨jn, by rw [e]; exact yields.qOp hi H⟩
    · exact absurd (done _ _ H j (ready_mono hj e)) (Nat.not_le_of_lt jn)
  | succ k ih =>
    intro seen a inv free ready yields H
    refine ⟨List.ne_nil_of_mem ready, fun j hj => ?_⟩
    have open_i := (mem_ready.1 ready).1
    have jn : j < n := Nat.lt_of_not_le fun h => tail_waits sink chain hn inv _ i rfl hin open_i j h hj
    by_cases e : j = i
    · exact ⟨jn, by rw [e]; exact yields.qOp hi H⟩
    · refine ⟨jn, ?_⟩
      obtain ⟨open_j, p, hp, waits⟩ := mem_ready.1 hj
      have apart_j : ∀ x ∈ p.after, Region.binds md x = true → x.on ≠ i := fun x hx hb he => by
        have := waits x hx hb
        rw [he, getD_both open_i] at this
        cases this
      have both := qOp_put hp (free j p hp e open_j apart_j) (fun cs b => plain i o cs b hi) (fun cs b => plain j p cs b hp) yields (H.2 j (ready_mono hj e)).2
      refine qOp_mono (fun a' ⟨y, h⟩ => ih (seen.setIfInBounds j true) a' (inv.set hj jn) (fun m q hq hm open_m far => ?_) (ready_mono ready (Ne.symm e)) y ?_) both
      · refine free m q hq hm ?_ far
        by_cases same : j = m
        · rw [← same]; exact open_j
        · rw [getD_set_ne true same] at open_m; exact open_m
      · rw [Array.setIfInBounds_comm _ _ e]
        exact h

theorem HeadQ.lex {n g : Nat} {E : Act → Prop} (plain : Region.noSelect ops = true) (sink : Region.sinkB md ops n = true) (chain : Region.chainB md ops n = true) (hn : n < ops.size) :
    ∀ (l : List Oper) (k : Nat) (seen : Array Bool) (a : Act), (∀ j, j < l.length → l[j]? = ops[k + j]?) → k + l.length = n → HeadInv md ops n seen →
      Region.lexHead md ops g l.length k seen = true → wpQuiet P ops C E l a → HeadQ P md ops C n (fun seen' a' => Region.seqB md ops g n seen' = true ∧ E a') l.length seen a
  | [], k, seen, a, _, hk, _, hB, h => by
    obtain rfl : k = n := by simpa using hk
    exact ⟨by simpa [Region.lexHead] using hB, h⟩
  | o :: l, k, seen, a, hl, hk, inv, hB, h => by
    have here : ops[k]? = some o := by simpa using (hl 0 (by simp)).symm
    simp only [List.length_cons, Region.lexHead, Bool.and_eq_true] at hB
    simp only [List.length_cons] at hk
    have ready : k ∈ Region.ready md ops seen := by simpa using hB.1.1
    have now : qOp P ops C k (wpQuiet P ops C E l) a := by unfold qOp; simp only [here]; exact h
    obtain ⟨v, yields, rest⟩ := yieldsIn_of_qOp here now
    refine HeadQ.first here (Region.noSelect_spec plain) sink chain hn (by omega) (fun _ _ hL => seqB_ready hL.1) l.length seen a inv (Region.free_spec here hB.1.2) ready yields ?_
    refine HeadQ.lex plain sink chain hn l (k + 1) _ _ (fun j hj => ?_) (by omega) (inv.set ready (by omega)) hB.2 rest
    have := hl (j + 1) (by simp; omega)
    rw [show k + 1 + j = k + (j + 1) by omega]
    simpa using this

/-- The head, then, in whatever world of the class the head ends, the tail. -/
theorem wp_region_quiet_tail {id : Nat} {Q : Exit → Act → World → Prop} {a : Act} {w : World} {l : List Oper} (n : Nat) (hm : P.follows .mixedOrders = true) (hB : Region.lexTailB .any l.toArray n = true) (hC : C { w with drawn := w.drawn + 1 })
    (h : wpQuiet P l.toArray C (fun a' => ∀ w', C w' → wpList P l.toArray Q (l.drop n) a' w') (l.take n) a) : (Code.region id l.toArray true).wp P Q a w := by
  simp only [Region.lexTailB, Bool.and_eq_true, decide_eq_true_eq] at hB
  obtain ⟨⟨⟨⟨plain, hn⟩, sink⟩, chain⟩, lex⟩ := hB
  have hn' : n < l.length := by simpa using hn
  have ht : (l.take n).length = n := by simp; omega
  have hd : (l.drop n).length = l.toArray.size - n := by simp
  have start : HeadInv .any l.toArray n (Array.replicate l.toArray.size false) :=
    ⟨by simp, fun j p _ seen => (by rw [getD_replicate_false] at seen; cases seen), fun t _ h2 => getD_in (by simpa using h2) (getD_replicate_false _ _)⟩
  have H := HeadQ.lex (md := .any) (g := l.toArray.size - n) plain sink chain hn (l.take n) 0 _ a (fun j hj => by
    rw [ht] at hj
    simp [hj]) (by rw [ht, Nat.zero_add]) start (by rw [ht]; exact lex) h
  have all := HeadQ.any (Q := Q) (g := l.toArray.size - n) (fun seen a' w' hw' hL => by
    have := wpAny_of_seq (md := .any) (Q' := Q) (l.drop n) n seen a' w' (fun j => by simp [List.getElem?_drop]) (by rw [hd]; exact hL.1) (hL.2 w' hw')
    rwa [hd] at this) _ _ _ _ hC H
  rw [ht, show n + (l.toArray.size - n) = l.toArray.size by omega] at all
  exact wp_region_any hm all

/-- The same at the class of all worlds that hold what this one does, and blocks more. -/
theorem wp_region_quiet_tail_below {id : Nat} {Q : Exit → Act → World → Prop} {a : Act} {w : World} {l : List Oper} (n : Nat) (hm : P.follows .mixedOrders = true) (hB : Region.lexTailB .any l.toArray n = true)
    (h : wpQuiet P l.toArray (fun w' => ∃ p : Regrown, w' = Sort.grow (redrawn w p.d) p.os) (fun a' => ∀ w', (∃ p : Regrown, w' = Sort.grow (redrawn w p.d) p.os) → wpList P l.toArray Q (l.drop n) a' w') (l.take n) a) : (Code.region id l.toArray true).wp P Q a w :=
  wp_region_quiet_tail (C := fun w' => ∃ p : Regrown, w' = Sort.grow (redrawn w p.d) p.os) n hm hB ⟨⟨w.drawn + 1, #[]⟩, by rw [Sort.grow_empty]; rfl⟩ h
end
end Go.Proofs.YtpjojbiiceedjaaDoor.Rr
