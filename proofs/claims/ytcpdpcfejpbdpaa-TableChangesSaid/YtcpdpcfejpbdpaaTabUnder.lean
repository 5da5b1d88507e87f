/- table.Under: the routes whose prefixes a prefix covers, in order. -/
import Derived.Test.YtcpdpcfejpbdpaaTabClone
import Derived.Test.YtcpdpcfejpbdpaaTabPure
import Derived.Test.YtcpdpcfejpbdpaaKeyCov
import Derived.Deep.WholeRow
namespace Go.Proofs.Ytcpdpcfejpbdpaa
open Go.RowKit Go.Sort Go.Shelf
attribute [local go_sem ↓] loadVar_key loadVar_pre loadVar_route storeVar_pre storeVar_route buildSlice_row

def underL (l : List Rt) (p : Pre) : List Rt := if rightB l = true then l.filter fun r => coversB p r.pre else []

/-- A whole route stored into a block laid for it. -/
theorem run_routeStore_new (r : Rt) (W : World) (Z : Array Value) (hZ : Z.size = 19) : (routeStore ⟨W.heap.size, 0, none⟩ (.agg (rc r))).run Try.prog (W.alloc (.cells Z 34)) = .ok () (W.alloc (.cells (rc r) 34)) := by
  have h := run_storeVar_row (P := Try.prog) (W.alloc (.cells Z 34)) W.heap.size 34 34 Z (rc r) (Go.heap_alloc_new W _) (by rw [rc_size]; exact infoRoute) (by rw [hZ, rc_size]) (by
    rw [Array.all_eq_true_iff_forall_mem]; intro v hv; exact rl_one r v (by simpa [rc] using hv))
  rw [World.setRow_alloc_new] at h
  exact h

/-- A new block that holds a route. -/
theorem newRoute (W : World) (r : Rt) : CellsAt (W.alloc (.cells (rc r) 34)) ⟨W.heap.size, 0, none⟩ (rl r) := fun j u hu => by
  have hadd : (⟨W.heap.size, 0, none⟩ : Addr).add j = ⟨W.heap.size, j, none⟩ := by unfold Addr.add; split <;> simp_all
  rw [hadd, World.cell?_alloc_at _ _ _ _ rfl]; simpa [rc] using hu

set_option maxHeartbeats 1000000 in
set_option maxRecDepth 100000 in
theorem under_any (l : List Rt) (p : Pre) (hp : Bytes16 p.key) (v : Value) (w : World) (hR : Rd w v l) :
    Calls Try.prog 12 #[v, .agg (pc p)] w (ListPost w (underL l p)) := by
  have hb0 : Below w.heap.size w (w.alloc (.cells (pc p) 26)) := (Below.refl _ _).alloc (Nat.le_refl _) _
  have rp := rowAt_new w (pc p) 26
  have hz0 : (w.alloc (.cells (pc p) 26)).heap.size = w.heap.size + 1 := by simp
  have C1 := right_any l v (w.alloc (.cells (pc p) 26)) (hR.later hb0)
  have T : ∀ w1, Below (w.alloc (.cells (pc p) 26)).heap.size (w.alloc (.cells (pc p) 26)) w1 → (preLoad ⟨w.heap.size, 0, none⟩).run Try.prog w1 = .ok (.agg (pc p)) w1 ∧ Rd w1 v l ∧ Below w.heap.size w w1 := fun w1 h =>
    ⟨run_preLoad (rp.below h (by rw [hz0]; omega)), hR.later (hb0.trans (h.mono (by rw [hz0]; omega))), hb0.trans (h.mono (by rw [hz0]; omega))⟩
  have HT := Lib.hid T
  clear T
  obtain ⟨a, cap, hv, hmx⟩ := rd_len hR
  have HR := Lib.hid hR
  cases hr : rightB l with
  | false =>
    rw [hr] at C1
    have HC := Lib.hid C1
    have HU : Hid (underL l p = []) := by show _ = _; unfold underL; rw [hr]; rfl
    clear C1 hr hv hmx hR
    unfold ListPost
    go_enter Try.func12, Try.ntmps12
    go_wp2_with fail
    refine HC.out.mono ?_
    rintro e w1 ⟨rfl, h1⟩
    obtain ⟨lp, -, hb⟩ := HT.out w1 h1
    go_wp2
    go_ret
    exact ⟨_, rfl, by rw [HU.out]; exact own_nil _ _, hb⟩
  | true =>
    rw [hr] at C1
    have HC := Lib.hid C1
    have hl := ((right_iff l).1 hr).1
    have HU : Hid (underL l p = l.filter fun r => coversB p r.pre) := by show _ = _; unfold underL; rw [hr]; rfl
    obtain ⟨n, hn⟩ : ∃ n, n = l.length := ⟨_, rfl⟩
    rw [← hn] at hv hl
    have hlI : (n : Int) ≤ 256 := by omega
    have HN := Lib.hid hn
    subst hv
    obtain ⟨i0, hi0, hz0, hz1, hz2⟩ := infoR'
    have H0 := Lib.hid hi0
    have H1 := Lib.hid hz0
    have H2 := Lib.hid hz1
    have H3 := Lib.hid hz2
    clear C1 hr hmx hR hn hi0 hz0 hz1 hz2 hb0 rp
    unfold ListPost
    go_enter Try.func12, Try.ntmps12
    go_wp2_with fail
    refine HC.out.mono ?_
    rintro e w1 ⟨rfl, h1⟩
    obtain ⟨lp, -, hb⟩ := HT.out w1 h1
    have HB := Lib.hid hb
    have HB1 := Lib.hid h1
    clear hb h1 lp
    go_wp2
    go_loopw [5, 7, 13] (fun s _ t wr => ∃ i : Nat, i ≤ n ∧ t = .int .i64 i ∧ Hid (Own wr w1.heap.size s ((l.take i).filter fun r => coversB p r.pre)) ∧ Hid (Below w1.heap.size w1 wr)) (fun _ _ t _ => n - (intOf t).toNat)
    case atStart => exact ⟨0, Nat.zero_le _, rfl, own_nil _ _, Below.refl _ _⟩
    case round =>
      obtain ⟨i, hi, rfl, HO, HW⟩ := hrel
      by_cases hlt : i < n
      · have hltI : (i : Int) < n := by omega
        obtain ⟨r, hrr⟩ : ∃ r, l[i]? = some r := ⟨l[i]'(by rw [← HN.out]; exact hlt), List.getElem?_eq_getElem _⟩
        have HRR := Lib.hid hrr
        obtain ⟨lp, hrd, -⟩ := HT.out wr (HB1.out.trans (HW.out.mono HB1.out.size))
        obtain ⟨a', rfl, ld⟩ : ∃ a', a = some a' ∧ (routeLoad (a'.add (i * 19))).run Try.prog wr = .ok (.agg (rc r)) wr := by
          rcases hrd with ⟨h, hnil⟩ | ⟨a', cap', h, _, _, hc⟩
          · exfalso; rw [hnil] at hrr; cases hrr
          · simp only [Value.slice.injEq] at h
            exact ⟨a', h.1, run_routeLoad (hc.route hrr)⟩
        have hst := run_routeStore_new r
        have hbw : Below wr.heap.size wr (wr.alloc (.cells (rc r) 34)) := (Below.refl _ _).alloc (Nat.le_refl _) _
        obtain ⟨lp, -, -⟩ := HT.out (wr.alloc (.cells (rc r) 34)) (HB1.out.trans ((HW.out.trans (hbw.mono HW.out.size)).mono HB1.out.size))
        have lr := run_preLoadA (newRoute wr r).pre
        have C2 := covers_any p r.pre hp r.hk (wr.alloc (.cells (rc r) 34))
        have T2 : ∀ w2, Below (wr.alloc (.cells (rc r) 34)).heap.size (wr.alloc (.cells (rc r) 34)) w2 → (routeLoad ⟨wr.heap.size, 0, none⟩).run Try.prog w2 = .ok (.agg (rc r)) w2 ∧ Own w2 w1.heap.size u5 ((l.take i).filter fun r => coversB p r.pre) ∧ Below w1.heap.size w1 w2 ∧ w1.heap.size ≤ w2.heap.size := fun w2 h2 => by
          have h3 : Below wr.heap.size wr w2 := hbw.trans (h2.mono (by simp))
          refine ⟨run_routeLoad ((newRoute wr r).below h2 (by simp)), HO.out.later h3, HW.out.trans (h3.mono HW.out.size), Nat.le_trans HW.out.size h3.size⟩
        have HT2 := Lib.hid T2
        have htake : l.take (i + 1) = l.take i ++ [r] := by
          rw [List.take_add_one, hrr]; rfl
        clear T2 hrr
        cases hcv : coversB p r.pre with
        | false =>
          rw [hcv] at C2
          have HC2 := Lib.hid C2
          have HE : Hid ((l.take (i + 1)).filter (fun r => coversB p r.pre) = (l.take i).filter fun r => coversB p r.pre) := by
            show _ = _
            rw [htake, List.filter_append]; simp [hcv]
          clear C2 hcv htake hbw
          go_wp2_with fail
          refine HC2.out.mono ?_
          rintro e w2 ⟨rfl, h2⟩
          obtain ⟨-, ho, hb, -⟩ := HT2.out w2 h2
          go_wp2
          go_roundw
          case rel => exact ⟨i + 1, by omega, by go_num, by rw [HE.out]; exact ho, hb⟩
          case measure => simp [intOf]; omega
        | true =>
          rw [hcv] at C2
          have HC2 := Lib.hid C2
          have HE : Hid ((l.take (i + 1)).filter (fun r => coversB p r.pre) = ((l.take i).filter fun r => coversB p r.pre) ++ [r]) := by
            show _ = _
            rw [htake, List.filter_append]; simp [hcv]
          have hf : ((l.take i).filter fun r => coversB p r.pre).length ≤ 256 := Nat.le_trans (List.length_filter_le _ _) (by rw [List.length_take]; omega)
          obtain ⟨q, hq⟩ : ∃ q, q = (l.take i).filter fun r => coversB p r.pre := ⟨_, rfl⟩
          rw [← hq] at hf HE HT2
          clear C2 hcv htake hbw hq
          go_wp2_with fail
          refine HC2.out.mono ?_
          rintro e w2 ⟨rfl, h2⟩
          obtain ⟨lr2, ho, hb, hz⟩ := HT2.out w2 h2
          have hbd := fun W => run_rowBuild r W
          have hal : Below w2.heap.size w2 (w2.alloc (.cells (rc r) 34)) := (Below.refl _ _).alloc (Nat.le_refl _) _
          have hown := ho.later hal
          have hnew := newRoute w2 r
          have hql : Hid (q.length ≤ 256) := hf
          clear hf
          go_wp2_with (at_builtin; refine wpList_append_own _ rfl _ _ 22 rfl w1.heap.size 34 i0 (.agg (rc zrt)) 19 40 Try.underlying22 H0.out H1.out H2.out H3.out (rc_size _) (by decide) _ q.length (fl q) rfl hown ⟨w2.heap.size, 0, none⟩ 1 1 (rl r) rfl (rl_length r) hnew (rl_one r) (by have := hql.out; simp only [maxLen]; omega) (by have := hql.out; omega) (by simp; omega) ?_)
          intro v' w3 hown' hg _
          have hb3 := (hb.trans (hal.mono hz)).grown hg (Nat.le_trans hz hal.size) (fun k hk => (hown.lt k hk).1)
          have hown3 : Own w3 w1.heap.size v' (q ++ [r]) := by unfold Own; rw [List.length_append, fl_append, fl_one]; exact hown'
          clear hown' hg hown
          go_wp2
          go_roundw
          case rel => exact ⟨i + 1, by omega, by go_num, by rw [HE.out]; exact hown3, hb3⟩
          case measure => simp [intOf]; omega
      · obtain rfl : i = n := by omega
        go_wp2
        go_ret
        have hO := HO.out
        rw [List.take_of_length_le (by rw [← HN.out]; exact Nat.le_refl _)] at hO
        exact ⟨_, rfl, by rw [HU.out]; exact ⟨hO.1, hO.2.imp id (fun ⟨g, c, cur, h1, h2, h3⟩ => ⟨g, c, cur, h1, Nat.le_trans HB.out.size h2, h3⟩)⟩, HB.out.trans (HW.out.mono HB.out.size)⟩
end Go.Proofs.Ytcpdpcfejpbdpaa
