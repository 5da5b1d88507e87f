/- (*builder).next: the next node for four bits, made if it isn't there. -/
import Derived.Test.YtggjcjijoihilaaTrieNode
import Derived.BigRegion
namespace Go.Proofs.Ytggjcjijoihilaa
open Go.RowKit Go.Sort Go.Shelf
attribute [local go_sem ↓] build_node buildSlice_nodes

def nextL (ns : List Nd) (i b : Nat) : List Nd × Nat :=
  if ((ns.getD i nd0).nx b = 0) ∧ ns.length < 512 then ((ns.set i ((ns.getD i nd0).setNx b ns.length)) ++ [nd0], ns.length) else (ns, (ns.getD i nd0).nx b)

def NextPost (w : World) (B base : Nat) (bits : Int) (x : List Nd × Nat) (e : Ending) (w' : World) : Prop := e = .returned (.int .i64 (x.2 : Nat)) ∧ ∃ v', Bui w' B base bits v' x.1 ∧ Eff base w w'

set_option maxHeartbeats 1500000 in
set_option maxRecDepth 100000 in
theorem next_any (B base : Nat) (bits : Int) (v : Value) (ns : List Nd) (w : World) (hB : Bui w B base bits v ns) (i b : Nat) (hi : i < ns.length) (hb : b < 16) (hl : ns.length ≤ 512) :
    Calls Try.prog 74 #[.pointer (some ⟨B, 0, none⟩), .int .i64 i, .int .i64 b] w (NextPost w B base bits (nextL ns i b)) := by
  obtain ⟨g, cap, hv, hg1, hg2⟩ := hB.own.form (by omega)
  obtain ⟨n, hn⟩ : ∃ n, ns[i]? = some n := ⟨_, List.getElem?_eq_getElem hi⟩
  have hget : ns.getD i nd0 = n := by rw [List.getD_eq_getElem?_getD, hn]; rfl
  obtain ⟨X, hX⟩ : ∃ X, X = nextL ns i b := ⟨_, rfl⟩
  rw [← hX]
  unfold nextL at hX
  rw [hget] at hX
  obtain ⟨m, hm⟩ : ∃ m, m = ns.length := ⟨_, rfl⟩
  have h0 := hB.own
  rw [hv] at h0
  have hc1 : w.cell? ⟨B, 1, none⟩ = some (.slice (some ⟨g, 0, none⟩) m cap) := by rw [cell_of hB.box, hm, ← hv]; rfl
  have hc2 : w.cell? ⟨g, i * 48 + 32 + b, none⟩ = some (.int .i64 (n.nx b : Nat)) := by
    have := h0.cell hn (j := 32 + b) (by omega)
    rw [ndC_next] at this; rw [Nat.add_assoc]; exact this
  rw [← hm] at hX hi hl
  have HX := Lib.hid hX
  have HB := Lib.hid hB
  have hlI : (m : Int) ≤ 512 := by omega
  have hiI : (i : Int) < m := by omega
  have hi0 : (0 : Int) ≤ i := by omega
  have hbI : (b : Int) < 16 := by omega
  have hb0 : (0 : Int) ≤ b := by omega
  have HM := Lib.hid hm
  have HN := Lib.hid hn
  have H0 : Hid (OwnN w base (.slice (some ⟨g, 0, none⟩) ns.length cap) ns) := h0
  have hff : ∀ j, w.frozen? ⟨g, j, none⟩ = false := fun j => h0.frozen j
  have HV := Lib.hid hv
  rw [← hm] at hv
  subst hv
  clear hX hget hB h0 hm hn
  unfold NextPost
  by_cases hz : n.nx b = 0
  · have HZ := Lib.hid hz
    by_cases hm5 : m < 512
    · have hz1 : ((n.nx b : Int) == 0) = true := by rw [beq_iff_eq]; omega
      have hmI : (m : Int) < 512 := by omega
      have hf1 : w.frozen? ⟨g, i * 48 + 32 + b, none⟩ = false := hff _
      have nb := run_nodeBuild0
      have nr := run_nodesBuild nd0
      go_enter Try.func74, Try.ntmps74
      go_wp2
      go_region
      clear hff hf1 hc1 hc2
      obtain ⟨w1, hw1⟩ : ∃ w1, (w.setCell ⟨g, i * 48 + 32 + b, none⟩ (.int .i64 (m : Nat))).drew = w1 := ⟨_, rfl⟩
      obtain ⟨ns1, hns1⟩ : ∃ ns1, ns.set i (n.setNx b m) = ns1 := ⟨_, rfl⟩
      have hl1 : ns1.length = m := by rw [← hns1, List.length_set, HM.out]
      have HS : Bui w1 B base bits (.slice (some ⟨g, 0, none⟩) m cap) ns1 ∧ Eff base w w1 := by
        have hB := HB.out
        rw [HM.out] at hB
        have := hB.set HN.out (j := 32 + b) (by omega) (.int .i64 (m : Nat)) (ndl_setNx n m hb)
        rw [← Nat.add_assoc] at this
        rw [← hw1, ← hns1]
        obtain ⟨h1, h2⟩ := this
        rw [List.length_set, ← HM.out] at h1
        exact ⟨⟨h1.box, h1.own, h1.le⟩, h2.drew⟩
      rw [hw1]
      have HNS := Lib.hid hns1
      clear hw1 hns1
      obtain ⟨hs1, hs2⟩ := HS
      have hc1 : w1.cell? ⟨B, 1, none⟩ = some (.slice (some ⟨g, 0, none⟩) m cap) := by rw [cell_of hs1.box]; rfl
      have hal : Below w1.heap.size w1 (w1.alloc (.cells (nc nd0) 104)) := (Below.refl _ _).alloc (Nat.le_refl _) _
      have hown := hs1.own.later hal
      have hbx := (hs1.later hal).box
      have hne := hs1.own.apart hs1.box
      have hlt := World.ownsRow.lt hs1.own g rfl
      have HS2 := Lib.hid hs2
      have hnew := newNode w1 nd0
      have hsz : base ≤ w1.heap.size := by omega
      obtain ⟨i0, q0, q1, q2, q3⟩ := infoN'
      have HL1 := Lib.hid hl1
      have HHO := Lib.hid hown
      have HHB := Lib.hid hbx
      have HNE := Lib.hid hne
      have HLT := Lib.hid hlt
      have HAL := Lib.hid hal
      have HNW := Lib.hid hnew
      have HLE := Lib.hid hs1.le
      have Q0 := Lib.hid q0
      have Q1 := Lib.hid q1
      have Q2 := Lib.hid q2
      have Q3 := Lib.hid q3
      have HSZ := Lib.hid hsz
      have nr1 := nr w1
      clear hs1 hs2 hl1 hown hbx hne hlt hal hnew q0 q1 q2 q3 hsz nr
      go_wp2_with (at_builtin; refine wpList_append_own _ rfl _ _ 50 rfl base 104 i0 (.agg (nc nd0)) 48 384 Try.underlying50 Q0.out Q1.out Q2.out Q3.out (nc_size _) (by decide) _ ns1.length (fn ns1) rfl HHO.out ⟨w1.heap.size, 0, none⟩ 1 1 (ndl nd0) rfl (ndl_length nd0) HNW.out (ndl_one nd0) (by rw [HL1.out]; simp only [maxLen]; omega) (by rw [HL1.out]; omega) (by have := HAL.out.size; have := HSZ.out; omega) ?_)
      intro v' w3 hown' hg _
      have hO3 : OwnN w3 base v' (ns1 ++ [nd0]) := by unfold OwnN; rw [List.length_append, fn_append, fn_one]; exact hown'
      have hb3 : Eff base w1 w3 := (Eff.below HAL.out HSZ.out).trans (Eff.grown hg (Nat.le_trans HSZ.out HAL.out.size) (fun k hk => HHO.out.block k hk))
      have hx3 : w3.heap[B]? = some (.cells #[.int .i64 bits, .slice (some ⟨g, 0, none⟩) m cap] 94 (0, 0)) := by
        rw [hg.block B (Array.getElem?_eq_some_iff.1 HHB.out).1 (fun e => HNE.out e.symm)]; exact HHB.out
      obtain ⟨g3, cap3, hv3, -, -⟩ := hO3.form (by simp)
      obtain ⟨hk1, hk2⟩ := Bui.keep hx3 hO3 HLE.out
      have hf3 := frozen_of hx3 1
      have hlen : (ns1 ++ [nd0]).length = m + 1 := by rw [List.length_append, HL1.out]; rfl
      rw [hlen] at hv3
      have hcB : (w3.setCell ⟨B, 1, none⟩ v').cell? ⟨B, 1, none⟩ = some v' := by rw [cell_of hk1.box]; rfl
      have hcN : (w3.setCell ⟨B, 1, none⟩ v').cell? ⟨g3, i * 48 + 32 + b, none⟩ = some (.int .i64 (m : Nat)) := by
        have ho := hk1.own
        have hget : (ns1 ++ [nd0])[i]? = some (n.setNx b m) := by
          rw [List.getElem?_append_left (by rw [HL1.out]; exact hi), ← HNS.out, List.getElem?_set, if_pos rfl, if_pos (by rw [← HM.out]; exact hi)]
        rw [hv3] at ho ⊢
        rw [← hlen] at ho ⊢
        have := ho.cell hget (j := 32 + b) (by omega)
        rw [ndC_next] at this
        rw [Nat.add_assoc]
        simpa [Nd.setNx] using this
      have HK1 := Lib.hid hk1
      have HFI := Lib.hid (HS2.out.trans (hb3.trans hk2))
      have hc3 : w3.cell? ⟨B, 1, none⟩ = some (.slice (some ⟨g, 0, none⟩) m cap) := by rw [cell_of hx3]; rfl
      subst hv3
      clear hown' hg hO3 hb3 hx3 hk1 hk2 hlen nr1 hc1
      go_wp2
      go_ret
      exact ⟨by rw [HX.out, if_pos ⟨HZ.out, hm5⟩]; rfl, _, by rw [HX.out, if_pos ⟨HZ.out, hm5⟩, HNS.out]; exact HK1.out, HFI.out⟩
    · have hz1 : ((n.nx b : Int) == 0) = true := by rw [beq_iff_eq]; omega
      have hmI : ¬ (m : Int) < 512 := by omega
      go_enter Try.func74, Try.ntmps74
      go_wp2
      go_ret
      exact ⟨by rw [HX.out, if_neg (by omega)]; show _ = Ending.returned (.int .i64 ((n.nx b : Nat) : Int)); rw [HZ.out]; rfl, ⟨_, by rw [HX.out, if_neg (by omega)]; exact HB.out⟩, Eff.refl _ _⟩
  · have hz1 : ((n.nx b : Int) == 0) = false := by rw [beq_eq_false_iff_ne]; omega
    go_enter Try.func74, Try.ntmps74
    go_wp2
    go_ret
    exact ⟨by rw [HX.out, if_neg (by omega)]; rfl, _, by rw [HX.out, if_neg (by omega)]; exact HB.out, Eff.refl _ _⟩
end Go.Proofs.Ytggjcjijoihilaa
