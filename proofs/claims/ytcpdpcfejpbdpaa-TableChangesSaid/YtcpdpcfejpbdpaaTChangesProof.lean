/-
  The statement TableChanges of layer 3 holds: behind changes a prefix leads where the last one of it says; all others as before; what is made of all its own routes is the table again. For whatever routes and changes, whatever lies in memory.
-/
import Derived.Test.YtcpdpcfejpbdpaaTChanges
import Derived.Test.YtcpdpcfejpbdpaaRows
import Derived.Test.YtcpdpcfejpbdpaaTabOpen
import Derived.Below
import Derived.Carry
namespace Go.Proofs.Ytcpdpcfejpbdpaa.tableChanges
open Go.RowKit Go.Sort Go.Shelf
attribute [local go_sem ↓] loadVar_key loadVar_pre loadVar_route storeVar_pre storeVar_route build_pre build_route build_key build_change buildSlice_rows buildSlice_chs binOp_preEql

set_option maxHeartbeats 1000000 in
set_option maxRecDepth 100000 in
theorem walk_no (l : List Rt) (n na : Nat) (a aa : Option Addr) (cap capa : Nat) (w : World) (hR : Rd w (.slice a n cap) l) (hn : n ≤ maxLen) (hna : na ≤ maxLen) (hno : ¬ n ≤ 256 ∨ ¬ na ≤ 40 ∨ rightB l = false) :
    Calls Try.prog 5 #[.slice a n cap, .slice aa na capa] w fun e w' => e = .returned (.bool true) ∧ Below w.heap.size w w' := by
  have H1 := Lib.hid (awake_any w)
  have HR := Lib.hid hR
  unfold maxLen at hn hna
  clear hR
  by_cases h1 : n ≤ 256
  · have h1I : (n : Int) ≤ 256 := by omega
    by_cases h2 : na ≤ 40
    · have h2I : (na : Int) ≤ 40 := by omega
      have hr : rightB l = false := by
        rcases hno with h | h | h
        · exact absurd h1 h
        · exact absurd h2 h
        · exact h
      have H2 : Hid (∀ W, Rd W (.slice a n cap) l → Calls Try.prog 14 #[.slice a n cap] W fun e w' => e = .returned (.bool false) ∧ Below W.heap.size W w') := fun W h => by
        have := right_any l _ W h
        rw [hr] at this; exact this
      clear hno hr h1 h2 hn hna
      go_enter Try.func5, Try.ntmps5
      go_wp2_with fail
      refine H1.out.mono ?_
      rintro e1 w1 ⟨rfl, h1⟩
      have B1 := Lib.hid h1
      clear h1
      go_wp2_with fail
      refine (H2.out _ (HR.out.later B1.out)).mono ?_
      rintro e1 w2 ⟨rfl, h2⟩
      have B2 := Lib.hid (B1.out.trans (h2.mono B1.out.size))
      clear h2
      go_wp2
      go_ret
      exact ⟨rfl, B2.out⟩
    · have h2I : (40 : Int) < na := by omega
      clear hno h1 h2 hn hna
      go_enter Try.func5, Try.ntmps5
      go_wp2_with fail
      refine H1.out.mono ?_
      rintro e1 w1 ⟨rfl, h1⟩
      have B1 := Lib.hid h1
      clear h1
      go_wp2
      go_ret
      exact ⟨rfl, B1.out⟩
  · have h1I : (256 : Int) < n := by omega
    clear hno h1 hn hna
    go_enter Try.func5, Try.ntmps5
    go_wp2_with fail
    refine H1.out.mono ?_
    rintro e1 w1 ⟨rfl, h1⟩
    have B1 := Lib.hid h1
    clear h1
    go_wp2
    go_ret
    exact ⟨rfl, B1.out⟩

theorem walkAll (l : List Rt) (cs : List Ch) (v va : Value) (w : World) (hR : Rd w v l) (hA : RdC w va cs) :
    Calls Try.prog 5 #[v, va] w fun e w' => e = .returned (.bool true) ∧ Below w.heap.size w w' := by
  by_cases hc : l.length ≤ 256 ∧ cs.length ≤ 40 ∧ rightB l = true
  · obtain ⟨g1, g2, g4⟩ := hc
    exact walk l cs v va w hR hA g1 g2 ((right_iff l).1 g4).2
  · obtain ⟨a, cap, hv, h1⟩ := rd_len hR
    obtain ⟨aa, capa, hva, h2⟩ := rdC_len hA
    have hno : ¬ l.length ≤ 256 ∨ ¬ cs.length ≤ 40 ∨ rightB l = false := by
      by_cases g1 : l.length ≤ 256
      · by_cases g2 : cs.length ≤ 40
        · refine .inr (.inr ?_)
          cases h : rightB l with
          | false => rfl
          | true => exact absurd ⟨g1, g2, h⟩ hc
        · exact .inr (.inl g2)
      · exact .inl g1
    rw [hv] at hR
    rw [hv, hva]
    exact walk_no l _ _ a aa cap capa w hR h1 h2 hno
end Go.Proofs.Ytcpdpcfejpbdpaa.tableChanges

namespace Go.Proofs.Ytcpdpcfejpbdpaa.tableChanges
open Go.ChangeShapes Go.WideShapes Go.ChangeAt Go.RowKit
set_option linter.unusedVariables false

theorem own : ownKnob Try.prog.godebug = none := by kernel_rfl
theorem laidOut : laidOutB Try.prog = true := by kernel_rfl

set_option maxRecDepth 100000 in
theorem lifted (os : Os) (started : os.Started) (H : Type) (enc : TypeId × Value → H) :
    ReturnsInHanded {} Try.checked os 5 .any (Rows.tableChangesSpec.pre6 enc Try.prog Try.f5 Rows.tableChangesRow.domain false) (Rows.tableChangesSpec.post enc Try.prog Try.f5 false true false false) := by
  refine returnsInHanded_of_change (C := Try.checked) own started (by kernel_rfl) Try.func5
    (ChangeSpec.witness6 (enc := enc) (C := Try.checked) false ⟨#[], #[.slice none 0 0, .slice none 0 0], []⟩ 8 (by kernel_rfl) (by kernel_rfl) (by kernel_rfl) (by kernel_rfl)) ?_
  intro W base args ds gs before hval0 hW hcnd _
  have hval : ∀ (j : Nat) t v, Try.f5.params[j]? = some t → args[j]? = some v → Value.okWide Try.prog W .any base t v := hval0
  have hW' := hW
  obtain ⟨p, q, hA0, hV, rfl, hfz, hnd⟩ := hW
  have hA : DataW.TrodAll enc Try.prog W 0 (fun _ => true) true Try.f5.params.toList args.toList ds p := hA0
  rw [Try.params5] at hA hval
  obtain ⟨v0, vs0, d0, ds0, p0, q0, hargs, rfl, rfl, h0, n0⟩ := trodAll_cons hA
  obtain ⟨v1, vs1, d1, ds1, p1, q1, rfl, rfl, rfl, h1, n1⟩ := trodAll_cons n0
  obtain ⟨rfl, rfl, rfl⟩ := trodAll_nil n1
  obtain rfl : args = #[v0, v1] := by cases args; simp_all
  obtain ⟨rfl, rfl⟩ := trodVars_none hV
  have k0 := h0
  have lt0 : ∀ x ∈ p0, x.block < W.heap.size := by obtain ⟨m, hm⟩ := k0; exact DataW.trod_lt m _ _ _ hm
  obtain ⟨a0, b0, r0⟩ := open_rts (hval 0 22 v0 rfl rfl) h0
  have k1 := h1
  have lt1 : ∀ x ∈ p1, x.block < W.heap.size := by obtain ⟨m, hm⟩ := k1; exact DataW.trod_lt m _ _ _ hm
  obtain ⟨a1, b1, r1⟩ := open_chs (hval 1 27 v1 rfl rfl) h1
  clear hA0 hval0
  refine (walkAll a0 a1 _ _ W r0 r1).mono fun e W' ⟨he, bel⟩ => ?_
  subst he
  exact ⟨_, rfl, _, _, _, [], _, [], hW', trodAll_mk1 (shut_bool Try.underlying4 _), (trodAll_cons_mk (Below.trod laidOut (by kernel_rfl) (of_decide_eq_true (by kernel_rfl)) k0 bel lt0) (trodAll_cons_mk (Below.trod laidOut (by kernel_rfl) (of_decide_eq_true (by kernel_rfl)) k1 bel lt1) trodAll_mk0)), rfl, bel.frame _, fun h => by cases h⟩

theorem over : Rows.tableChangesRow.holds Try.pinned (OpenSpec.ofChange Rows.tableChangesSpec) :=
  OpenClaim.holds_of_wide 5 Try.f5 rfl rfl rfl rfl rfl rfl rfl ⟨rfl, rfl, rfl, rfl, rfl⟩ rfl rfl rfl rfl rfl (by kernel_rfl) Try.func5 (by kernel_rfl)
    (of_decide_eq_true (by kernel_rfl)) (by unfold Func.isWrapper; first | (rw [if_pos (by decide +kernel)]; kernel_rfl) | (rw [if_neg (by decide +kernel)]; exact ⟨rfl, rfl⟩))
    (fun os started H enc _ => lifted os started H enc)

/-- The statement. -/
theorem proved : Rows.TableChangesSaid := over
#print axioms proved
end Go.Proofs.Ytcpdpcfejpbdpaa.tableChanges
