/- The law of XSlots with a tail: the first n operations in whatever order, slot by slot; the others wait for all of these, and go one by one. Nothing of the program is named. -/
import Derived.Test.YtjlmkhomedoolaaSlots
import Derived.StillTail
namespace Go.Proofs.Ytjlmkhomedoolaa
open Go.RowKit

/-- Of so many operations each one that stands behind waits, through others too, for all; guards are asked ahead. -/
def tailB (ops : Array Oper) (n : Nat) : Bool :=
  decide (n < ops.size) && (Region.sinkB .any ops n && Region.chainB .any ops n) &&
  ((List.range n).all fun i => match ops[i]? with | none => false | some o => match o.guard with | none => true | some g => decide (g.1 < n)) &&
  Region.seqB .any ops (ops.size - n) n ((List.range ops.size).map (fun i => decide (i < n))).toArray
def headOps (l : List Oper) (n : Nat) : Array Oper := (l.take n).toArray

theorem slots_tail_any {P : Program} {l : List Oper} {Q : Exit → Act → World → Prop} {a0 : Act} {w0 : World} (n : Nat) (hT : tailB l.toArray n = true) (ht : tidyB (headOps l n) a0.tmps.size = true)
    (G : Nat → Value → World → Prop) (hG : ∀ i v w w', G i v w → Below w.heap.size w w' → G i v w')
    (hstep : ∀ i o, (headOps l n)[i]? = some o → ∀ a w, Upto (headOps l n) G a0 w0 (fun j => ∃ e ∈ o.after, Region.binds .any e = true ∧ e.on = j) a w → StepOk P (headOps l n) Q G i o a w)
    (fin : ∀ a w, Upto (headOps l n) G a0 w0 (fun _ => True) a w → wpList P l.toArray Q (l.drop n) a w) : wpAny P .any l.toArray Q l.toArray.size (Array.replicate l.toArray.size false) a0 { w0 with drawn := w0.drawn + 1 } := by
  simp only [tailB, Bool.and_eq_true, decide_eq_true_eq] at hT
  obtain ⟨⟨⟨hn, hsink, hchain⟩, hguard⟩, hseq⟩ := hT
  have hnl : n < l.length := by simpa using hn
  have hsz : (headOps l n).size = n := by simp [headOps]; omega
  have hat : ∀ i, i < n → (headOps l n)[i]? = l.toArray[i]? := fun i hi => by simp [headOps, List.getElem?_take_of_lt hi]
  have key : ∀ (fuel : Nat) (listed : Array Bool) (a : Act) (w : World), HeadInv .any l.toArray n listed → left listed = fuel + (l.toArray.size - n) → Upto (headOps l n) G a0 w0 (fun j => listed.getD j false = true) a w → wpAny P .any l.toArray Q (fuel + (l.toArray.size - n)) listed a w := by
    intro fuel
    induction fuel with
    | zero =>
      intro listed a w inv hl hU
      have hs := inv.size
      have htl := inv.tail
      rw [Nat.zero_add] at hl ⊢
      have hall : ∀ i, i < n → listed.getD i true = true := by
        intro i hi
        cases hc : listed.getD i true with
        | true => rfl
        | false =>
          exfalso
          -- at least one more than the tail is not listed
          have h1 := left_set (listed := listed) (i := i) (by omega) hc
          have h2 : ∀ (k : Nat) (L : Array Bool), L.size = l.toArray.size → k ≤ l.toArray.size - n → (∀ t, n ≤ t → t < n + k → L.getD t true = false) → k ≤ left L := by
            intro k
            induction k with
            | zero => intro L _ _ _; exact Nat.zero_le _
            | succ k ihk =>
              intro L hL hk hLt
              have h3 := left_set (listed := L) (i := n + k) (by omega) (hLt (n + k) (by omega) (by omega))
              have h4 := ihk (L.setIfInBounds (n + k) true) (by simpa using hL) (by omega) (fun t h5 h6 => by rw [getD_set_ne true (by omega)]; exact hLt t h5 (by omega))
              omega
          have h3 := h2 (l.toArray.size - n) (listed.setIfInBounds i true) (by simpa using hs) (Nat.le_refl _) (fun t h5 h6 => by rw [getD_set_ne true (by omega)]; exact htl t h5 (by omega))
          omega
      have hlist : listed = ((List.range l.toArray.size).map (fun i => decide (i < n))).toArray := by
        apply Array.ext
        · simpa using hs
        · intro i h1 h2
          have e1 : listed.getD i true = listed[i] := by rw [Array.getD_eq_getD_getElem?, Array.getElem?_eq_getElem h1]; rfl
          rw [← e1]
          simp only [List.getElem_toArray, List.getElem_map, List.getElem_range]
          by_cases hi : i < n
          · rw [hall i hi]; exact (decide_eq_true hi).symm
          · rw [htl i (by omega) (by omega)]; exact (decide_eq_false hi).symm
      have hd : (l.drop n).length = l.toArray.size - n := by simp
      have := wpAny_of_seq (md := .any) (Q' := Q) (P := P) (l.drop n) n listed a w (fun j => by simp [List.getElem?_drop]) (by rw [hd, hlist]; exact hseq)
        (fin a w ⟨hU.size, hU.defers, hU.below, hU.old, fun i hi _ => hU.good i hi (by rw [getD_same (by omega) false true]; exact hall i (by omega))⟩)
      rwa [hd] at this
    | succ fuel ih =>
      intro listed a w inv hl hU
      have hs := inv.size
      have htl := inv.tail
      rw [show fuel + 1 + (l.toArray.size - n) = (fuel + (l.toArray.size - n)) + 1 by omega]
      have htodo : ∃ i, i < n ∧ listed.getD i true = false := by
        refine Classical.byContradiction fun hno => ?_
        have hall : ∀ i, i < n → listed.getD i true = true := fun i hi => by
          cases hc : listed.getD i true with
          | true => rfl
          | false => exact absurd ⟨i, hi, hc⟩ hno
        have h2 : ∀ (k : Nat) (L : Array Bool), L.size = l.toArray.size → k ≤ l.toArray.size - n → (∀ t, t < l.toArray.size → L.getD t true = false → n ≤ t ∧ t < n + k) → left L ≤ k := by
          intro k
          induction k with
          | zero =>
            intro L hL _ hLt
            refine Nat.le_of_eq ?_
            unfold left
            rw [List.length_eq_zero_iff, List.filter_eq_nil_iff]
            intro x hx
            obtain ⟨t, ht1, ht2⟩ := List.getElem_of_mem hx
            have ht1' : t < L.size := by simpa using ht1
            cases x with
            | true => decide
            | false =>
              have := hLt t (by omega) (by rw [Array.getD_eq_getD_getElem?, Array.getElem?_eq_getElem ht1']; simpa using ht2)
              omega
          | succ k ihk =>
            intro L hL hk hLt
            cases hc : L.getD (n + k) true with
            | true =>
              have := ihk L hL (by omega) (fun t h1 h2 => by
                have h3 := hLt t h1 h2
                by_cases e : t = n + k
                · rw [e, hc] at h2; cases h2
                · omega)
              omega
            | false =>
              have h3 := left_set (listed := L) (i := n + k) (by omega) hc
              have h4 := ihk (L.setIfInBounds (n + k) true) (by simpa using hL) (by omega) (fun t h1 h2 => by
                by_cases e : n + k = t
                · rw [← e, Array.getD_eq_getD_getElem?, Array.getElem?_setIfInBounds_self_of_lt (by omega)] at h2
                  simp at h2
                · rw [getD_set_ne true e] at h2
                  have := hLt t h1 h2
                  omega)
              omega
        have := h2 (l.toArray.size - n) listed hs (Nat.le_refl _) (fun t h1 h3 => by
          by_cases e : t < n
          · rw [hall t e] at h3; cases h3
          · omega)
        omega
      refine ⟨fun hr => ?_, fun i hi => ?_⟩
      · exfalso
        have hall : ∀ i, i < n → listed.getD i false = true := by
          intro i
          induction i using Nat.strongRecOn with
          | ind i ihi =>
            intro hi
            cases hc : listed.getD i false with
            | true => rfl
            | false =>
              exfalso
              obtain ⟨o, ho, he, -⟩ := tidy_spec ht (i := i) (by omega)
              rw [hat i hi] at ho
              have : i ∈ Region.ready .any l.toArray listed := mem_ready.2 ⟨by rw [getD_same (by omega) true false]; exact hc, o, ho, fun e hee _ => ihi e.on (he e hee) (by have := he e hee; omega)⟩
              rw [hr] at this
              cases this
        obtain ⟨i, hi, hc⟩ := htodo
        have := hall i hi
        rw [getD_same (by omega) false true, hc] at this
        cases this
      · obtain ⟨h1, o, ho, he⟩ := mem_ready.1 hi
        have hio : i < l.toArray.size := (Array.getElem?_eq_some_iff.1 ho).1
        have hin : i < n := by
          refine Classical.byContradiction fun hge => ?_
          obtain ⟨j, hj, hc⟩ := htodo
          exact tail_waits hsink hchain hn inv _ j rfl hj hc i (by omega) hi
        obtain ⟨o', ho', -, hd, -⟩ := tidy_spec ht (i := i) (by omega)
        rw [hat i hin, ho] at ho'
        cases ho'
        have hsub : Upto (headOps l n) G a0 w0 (fun j => ∃ e ∈ o.after, Region.binds .any e = true ∧ e.on = j) a w :=
          ⟨hU.size, hU.defers, hU.below, hU.old, fun j hj ⟨e, h2, h3, h4⟩ => hU.good j hj (by rw [← h4]; exact he e h2 h3)⟩
        have hnext : ∀ v w', Below w.heap.size w w' → G i v w' → wpAny P .any l.toArray Q (fuel + (l.toArray.size - n)) (listed.setIfInBounds i true) (a.put o.dst v) w' := by
          intro v w' hb hg
          have hl' := left_set (listed := listed) (i := i) (by omega) h1
          refine ih _ _ _ (inv.set hi hin) (by omega) ?_
          have hN := hU.next ht hG (i := i) (by omega) hb hg
          rw [hd]
          refine ⟨hN.size, hN.defers, hN.below, hN.old, fun j hj hlj => hN.good j hj ?_⟩
          by_cases hji : j = i
          · exact .inr hji
          · rw [getD_set_ne false (fun e => hji e.symm)] at hlj
            exact .inl hlj
        have hwant : Region.wanted o (yielded l.toArray a.tmps) = Region.wanted o (yielded (headOps l n) a.tmps) := by
          have h3 := List.all_eq_true.1 hguard i (List.mem_range.2 hin)
          rw [ho] at h3
          simp only at h3
          cases hgd : o.guard with
          | none => simp [Region.wanted, hgd]
          | some g =>
            rw [hgd] at h3
            have h4 := hat g.1 (by simpa using h3)
            simp only [Region.wanted, hgd, yielded, h4]
        unfold wpOp
        rw [ho]
        rcases hstep i o (by rw [hat i hin]; exact ho) a w hsub with ⟨hw, hp⟩ | ⟨hw, hg⟩
        · rw [← hwant] at hw
          simp only [hw, if_true]
          refine .inl (Oper.wp_mono ?_ hp)
          rintro a' w' ⟨v, rfl, hb, hg⟩
          exact hnext v w' hb hg
        · rw [← hwant] at hw
          simp only [hw, Bool.false_eq_true, if_false]
          exact hnext undef w (Below.refl _ _) hg
  have hL0 : ∀ m, left (Array.replicate m false) = m := fun m => by
    unfold left
    rw [Array.toList_replicate]
    simp
  have K := key n (Array.replicate l.toArray.size false) a0 { w0 with drawn := w0.drawn + 1 } ⟨by simp, fun j p _ seen => (by rw [getD_replicate_false] at seen; cases seen), fun t _ h2 => getD_in (by simpa using h2) (getD_replicate_false _ _)⟩ (by rw [hL0]; omega) ⟨rfl, rfl, ⟨rfl, rfl, rfl, Nat.le_refl _, fun _ _ => rfl⟩, fun _ _ => rfl, fun i hi h => by rw [getD_replicate_false] at h; cases h⟩
  rw [show n + (l.toArray.size - n) = l.toArray.size by omega] at K
  exact K
theorem region_slots_tail {P : Program} {id : Nat} {l : List Oper} {Q : Exit → Act → World → Prop} {a0 : Act} {w0 : World} (n : Nat) (hm : P.follows .mixedOrders = true) (hT : tailB l.toArray n = true) (ht : tidyB (headOps l n) a0.tmps.size = true)
    (G : Nat → Value → World → Prop) (hG : ∀ i v w w', G i v w → Below w.heap.size w w' → G i v w')
    (hstep : ∀ i o, (headOps l n)[i]? = some o → ∀ a w, Upto (headOps l n) G a0 w0 (fun j => ∃ e ∈ o.after, Region.binds .any e = true ∧ e.on = j) a w → StepOk P (headOps l n) Q G i o a w)
    (fin : ∀ a w, Upto (headOps l n) G a0 w0 (fun _ => True) a w → wpList P l.toArray Q (l.drop n) a w) : (Code.region id l.toArray true).wp P Q a0 w0 :=
  wp_region_any hm (slots_tail_any n hT ht G hG hstep fin)
end Go.Proofs.Ytjlmkhomedoolaa
