/- The law of XSlotsT within a round of a range over a function. Nothing of the program is named. -/
import Derived.Test.YtjlmkhomedoolaaSlotsT
import Derived.OrdersIn
import Derived.RangeFuncCalls
namespace Go.Proofs.Ytjlmkhomedoolaa
open Go.RowKit

theorem opIn_of {l n : Nat} {P : Program} {o : Oper} {a : Act} {w : World} {K : Act → World → Prop} {Q : Exit → Act → World → Prop} (hd : ∀ c, o.op ≠ .defer c) (h : o.wp P a w K Q) : o.wpIn (Fence.wide.inRound l) n P a w K Q := by
  refine ⟨fun _ _ => trivial, ?_⟩
  rw [show (Fence.wide.inRound l).round = some l from rfl, Oper.semAt_eq (some l) _ _ hd]
  unfold Oper.wp at h
  generalize (execOp a.eval o).run P w = r at *
  have hf : (Fence.wide.inRound l).depth.isSome = true → 1 ≤ n := fun hh => absurd (show (none : Option Nat).isSome = true from hh) (by decide)
  cases r with
  | ok x w' =>
    cases x with
    | value v => exact h
    | skip => exact h
    | defer d => exact h
    | enter f args =>
      refine ⟨hf, CallsIn.inRound l (callsIn_wide.2 (Calls.mono h ?_))⟩
      intro e w'' he
      cases e <;> exact he
    | row row args => exact ⟨hf, fun c cs _ => let ⟨v, w', r, s⟩ := h c cs; ⟨v, w', r, stepsIn_wide.2 s⟩⟩
    | _ => exact h.elim
  | halt x w' => cases x <;> exact h
/-- None of its operations is deferred. -/
def noDefer (l : List Oper) : Bool := l.all fun o => match o.op with | .defer _ => false | _ => true
theorem noDefer_of {l : List Oper} (h : noDefer l = true) {i : Nat} {o : Oper} (ho : l.toArray[i]? = some o) : ∀ c, o.op ≠ .defer c := fun c e => by
  unfold noDefer at h
  rw [List.all_eq_true] at h
  have := h o (List.mem_of_getElem? (by simpa using ho))
  rw [e] at this
  cases this
theorem anyIn_of {r n : Nat} {P : Program} {md : Region.Mode} {l : List Oper} {Q : Exit → Act → World → Prop} (hno : ¬ LetsOut Q) (hd : noDefer l = true) :
    ∀ (fuel : Nat) (listed : Array Bool) (a : Act) (w : World), wpAny P md l.toArray Q fuel listed a w → wpAnyIn (Fence.wide.inRound r) n P md l.toArray Q fuel listed a w
  | 0, _, _, _, h => h
  | fuel + 1, listed, a, w, h => by
    refine ⟨h.1, fun i hi => ?_⟩
    have h1 := h.2 i hi
    unfold wpOp at h1
    unfold wpOpIn
    cases ho : l.toArray[i]? with
    | none =>
      rw [ho] at h1
      exact anyIn_of hno hd fuel _ _ _ h1
    | some o =>
      rw [ho] at h1
      simp only at h1 ⊢
      by_cases hw : Region.wanted o (yielded l.toArray a.tmps) = true
      · rw [if_pos hw] at h1 ⊢
        rcases h1 with h1 | h1
        · exact Oper.wpIn_mono (fun a' w' h' => anyIn_of hno hd fuel _ _ _ h') (opIn_of (noDefer_of hd ho) h1)
        · exact absurd h1.2 hno
      · rw [if_neg hw] at h1 ⊢
        exact ⟨fun _ _ => trivial, anyIn_of hno hd fuel _ _ _ h1⟩
theorem region_slots_tail_in {r m : Nat} {P : Program} {id : Nat} {l : List Oper} {Q : Exit → Act → World → Prop} {a0 : Act} {w0 : World} (n : Nat) (hno : ¬ LetsOut Q) (hd : noDefer l = true) (hm : P.follows .mixedOrders = true) (hT : tailB l.toArray n = true) (ht : tidyB (headOps l n) a0.tmps.size = true)
    (G : Nat → Value → World → Prop) (hG : ∀ i v w w', G i v w → Below w.heap.size w w' → G i v w')
    (hstep : ∀ i o, (headOps l n)[i]? = some o → ∀ a w, Upto (headOps l n) G a0 w0 (fun j => ∃ e ∈ o.after, Region.binds .any e = true ∧ e.on = j) a w → StepOk P (headOps l n) Q G i o a w)
    (fin : ∀ a w, Upto (headOps l n) G a0 w0 (fun _ => True) a w → wpList P l.toArray Q (l.drop n) a w) : (Code.region id l.toArray true).wpIn (Fence.wide.inRound r) m P Q a0 w0 :=
  wpIn_region_any hm (anyIn_of hno hd _ _ _ _ (slots_tail_any n hT ht G hG hstep fin))
end Go.Proofs.Ytjlmkhomedoolaa
