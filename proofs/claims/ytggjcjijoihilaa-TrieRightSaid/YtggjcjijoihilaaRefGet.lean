/- bywayref03.Get: the first route of a prefix. -/
import Derived.Test.YtggjcjijoihilaaTabLaws
import Derived.Test.YtggjcjijoihilaaTabSort
import Derived.Test.YtggjcjijoihilaaTabPlace
import Derived.Test.YtggjcjijoihilaaRefBit
namespace Go.Proofs.Ytggjcjijoihilaa
open Go.RowKit Go.Sort Go.Shelf
attribute [local go_sem ↓] loadVar_key loadVar_pre loadVar_route storeVar_pre storeVar_route binOp_preEql

def rgetL (l : List Rt) (p : Pre) : Nat × Int := if mayB p = true then (match findP l p with
    | some r => (r.hop, 0)
    | none => (0, 6)) else (0, 1)

theorem find_first {l : List Rt} {p : Pre} {i : Nat} {r : Rt} (hr : l[i]? = some r) (hn : ∀ s ∈ l.take i, preEq s.pre p = false) (he : preEq r.pre p = true) : findP l p = some r := by
  unfold findP
  obtain ⟨hlt, hg⟩ := List.getElem?_eq_some_iff.1 hr
  have e : l = l.take i ++ r :: l.drop (i + 1) := by
    conv => lhs; rw [← List.take_append_drop i l]
    rw [List.drop_eq_getElem_cons hlt, hg]
  rw [e, List.find?_append]
  have : (l.take i).find? (fun r => preEq r.pre p) = none := by
    rw [List.find?_eq_none]; intro s hs; simp [hn s hs]
  rw [this]; simp [he]

set_option maxHeartbeats 1000000 in
set_option maxRecDepth 100000 in
theorem rget_any (l : List Rt) (p : Pre) (hp : Bytes16 p.key) (v : Value) (w : World) (hR : Rd w v l) (h16 : l.length ≤ 65536) :
    Calls Try.prog 19 #[v, .agg (pc p)] w (GetPost w (rgetL l p)) := by
  have hb0 : Below w.heap.size w (w.alloc (.cells (pc p) 26)) := (Below.refl _ _).alloc (Nat.le_refl _) _
  have rp := rowAt_new w (pc p) 26
  have hz0 : (w.alloc (.cells (pc p) 26)).heap.size = w.heap.size + 1 := by simp
  obtain ⟨W0, hW0⟩ : ∃ W0, w.alloc (.cells (pc p) 26) = W0 := ⟨_, rfl⟩
  have HW0 := Lib.hid hW0
  rw [hW0] at hb0 rp hz0
  have lp0 : (preLoad ⟨w.heap.size, 0, none⟩).run Try.prog W0 = .ok (.agg (pc p)) W0 := run_preLoad rp
  rw [← hW0] at lp0
  have C1 := Lib.hid (rmay_any p hp (w.alloc (.cells (pc p) 26)))
  have T : ∀ W, Below W0.heap.size W0 W → RowAt W w.heap.size 0 (pc p) ∧ Rd W v l ∧ Below w.heap.size w W := fun W h =>
    ⟨rp.below h (by omega), hR.later (hb0.trans (h.mono (by omega))), hb0.trans (h.mono (by omega))⟩
  have HT := Lib.hid T
  obtain ⟨a, cap, hv, -⟩ := rd_len hR
  obtain ⟨n, hn⟩ : ∃ n, n = l.length := ⟨_, rfl⟩
  rw [← hn] at hv h16
  have hnI : (n : Int) ≤ 65536 := by omega
  have HN := Lib.hid hn
  obtain ⟨X, hX⟩ : ∃ X, X = rgetL l p := ⟨_, rfl⟩
  rw [← hX]
  have HX := Lib.hid hX
  subst hv
  subst hW0
  unfold GetPost
  clear T hb0 hz0 rp hR hn hX
  cases hm : mayB p with
  | false =>
    have HE : Hid (X = (0, 1)) := by show _ = _; rw [HX.out]; unfold rgetL; rw [hm]; rfl
    rw [hm] at C1
    clear hm
    go_enter Try.func19, Try.ntmps19
    go_wp2_with fail
    refine C1.out.mono ?_
    rintro e1 w1 ⟨rfl, h1⟩
    have FIN := Lib.hid (HT.out w1 h1).2.2
    clear h1 lp0
    go_wp2
    go_ret2
    exact ⟨by rw [HE.out]; rfl, FIN.out⟩
  | true =>
    rw [hm] at C1
    have HM := Lib.hid hm
    clear hm
    go_enter Try.func19, Try.ntmps19
    go_wp2_with fail
    refine C1.out.mono ?_
    rintro e1 w1 ⟨rfl, h1⟩
    have B1 := Lib.hid h1
    clear h1 lp0
    go_wp2
    go_loopw [6] (fun i wr => ∃ i' : Nat, i' ≤ n ∧ i = .int .i64 i' ∧ Hid (∀ s ∈ l.take i', preEq s.pre p = false) ∧ Hid (Below w1.heap.size w1 wr)) (fun i _ => n - (intOf i).toNat)
    case atStart => exact ⟨0, Nat.zero_le _, rfl, (fun s hs => by simp at hs), Below.refl _ _⟩
    case round =>
      obtain ⟨i, hi, rfl, HNO, HW⟩ := hrel
      have BW := Lib.hid (B1.out.trans (HW.out.mono B1.out.size))
      by_cases hlt : i < n
      · have hltI : (i : Int) < n := by omega
        have hi0 : (0 : Int) ≤ i := by omega
        obtain ⟨r, hrr⟩ : ∃ r, l[i]? = some r := ⟨l[i]'(by rw [← HN.out]; exact hlt), List.getElem?_eq_getElem _⟩
        have HRR := Lib.hid hrr
        obtain ⟨rp, rd, -⟩ := HT.out wr BW.out
        obtain ⟨a', rfl, hca⟩ : ∃ a', a = some a' ∧ CellsAt wr a' (fl l) := by
          rcases rd with ⟨h, hnil⟩ | ⟨a', cap', h, _, _, hc⟩
          · exfalso; rw [hnil] at hrr; cases hrr
          · simp only [Value.slice.injEq] at h
            exact ⟨a', h.1, hc⟩
        have hc := hca.route hrr
        have l1 : ∀ k, (preLoad (a'.add (i * 19))).run Try.prog (wr.drewN k) = .ok (.agg (pc r.pre)) (wr.drewN k) := fun k => run_preLoadA (fun j u hu => hc.pre j u hu)
        have l2 : ∀ k, (preLoad ⟨w.heap.size, 0, none⟩).run Try.prog (wr.drewN k) = .ok (.agg (pc p)) (wr.drewN k) := fun k => run_preLoad (fun j u hu => rp j u hu)
        have le := run_preEql r.pre p
        have hh : ∀ k, (wr.drewN k).cell? ⟨(a'.add (i * 19)).block, (a'.add (i * 19)).off + 18, none⟩ = some (.int .u16 (r.hop : Nat)) := fun k => hc.hop
        have hh0 := hc.hop
        clear hrr rp rd hca hc
        cases heq : preEq r.pre p with
        | true =>
          rw [heq] at le
          have HE : Hid (X = (r.hop, 0)) := by
            show _ = _
            rw [HX.out]; unfold rgetL
            rw [HM.out, if_pos rfl, find_first HRR.out HNO.out heq]
          have FIN := Lib.hid (HT.out wr BW.out).2.2
          clear heq
          have HH := Lib.hid hh0
          clear hh0
          go_wp2
          go_quiet (fail)
          clear l1 l2 le
          go_wp2
          go_ret2
          exact ⟨by rw [HE.out]; rfl, ⟨FIN.out.os, FIN.out.tape, FIN.out.output, FIN.out.size, FIN.out.block⟩⟩
        | false =>
          rw [heq] at le
          have HEQ := Lib.hid heq
          clear heq hh hh0
          go_wp2
          go_quiet (fail)
          clear l1 l2 le
          go_wp2
          go_roundw
          case rel => exact ⟨i + 1, by omega, by go_num, (fun s hs => by
            rw [List.take_add_one, HRR.out] at hs
            rcases List.mem_append.1 hs with h | h
            · exact HNO.out s h
            · simp at h; subst h; exact HEQ.out), ⟨HW.out.os, HW.out.tape, HW.out.output, HW.out.size, HW.out.block⟩⟩
          case measure => simp [intOf]; omega
      · obtain rfl : i = n := by omega
        have HE : Hid (X = (0, 6)) := by
          show _ = _
          rw [HX.out]; unfold rgetL
          have : findP l p = none := by
            unfold findP
            rw [List.find?_eq_none]
            intro s hs
            simp [HNO.out s (by rw [List.take_of_length_le (by rw [← HN.out]; exact Nat.le_refl _)]; exact hs)]
          rw [HM.out, if_pos rfl, this]
        have FIN := Lib.hid (HT.out wr BW.out).2.2
        go_wp2
        go_ret2
        exact ⟨by rw [HE.out]; rfl, FIN.out⟩
end Go.Proofs.Ytggjcjijoihilaa
