/- bywayref03.Under: the routes whose prefixes a prefix covers. -/
import Derived.Test.YtjppingppdmeoaaTabPlace
import Derived.Test.YtjppingppdmeoaaRefBit
import Derived.Test.YtjppingppdmeoaaTabChange
import Derived.Deep.RegionHeld3
namespace Go.Proofs.Ytjppingppdmeoaa
open Go.RowKit Go.Sort Go.Shelf
attribute [local go_sem ↓] loadVar_key loadVar_pre loadVar_route storeVar_pre storeVar_route buildSlice_row

def coveredL (l : List Rt) (p : Pre) : List Rt := l.filter fun r => coversB p r.pre

set_option maxHeartbeats 1500000 in
set_option maxRecDepth 100000 in
theorem runder_any (l : List Rt) (hl : l.length ≤ 65536) (p : Pre) (hp : Bytes16 p.key) (v : Value) (w : World) (hR : Rd w v l) :
    Calls Try.prog 22 #[v, .agg (pc p)] w (ListPost w (coveredL l p)) := by
  have hb0 : Below w.heap.size w (w.alloc (.cells (pc p) 26)) := (Below.refl _ _).alloc (Nat.le_refl _) _
  have rp := rowAt_new w (pc p) 26
  have hz0 : (w.alloc (.cells (pc p) 26)).heap.size = w.heap.size + 1 := by simp
  obtain ⟨W0, hW0⟩ : ∃ W0, w.alloc (.cells (pc p) 26) = W0 := ⟨_, rfl⟩
  rw [hW0] at hb0 rp hz0
  have T : ∀ W, Below W0.heap.size W0 W → (preLoad ⟨w.heap.size, 0, none⟩).run Try.prog W = .ok (.agg (pc p)) W ∧ Rd W v l ∧ Below w.heap.size w W := fun W h =>
    ⟨run_preLoad (rp.below h (by omega)), hR.later (hb0.trans (h.mono (by omega))), hb0.trans (h.mono (by omega))⟩
  have HT := Lib.hid T
  have HZ : Hid (w.heap.size ≤ W0.heap.size) := hb0.size
  obtain ⟨a, cap, hv, -⟩ := rd_len hR
  obtain ⟨n, hn⟩ : ∃ n, n = l.length := ⟨_, rfl⟩
  rw [← hn] at hv hl
  have hlI : (n : Int) ≤ 65536 := by omega
  have HN := Lib.hid hn
  have HL : Hid (n ≤ 65536) := hl
  have HP := Lib.hid hp
  subst hv
  obtain ⟨i0, hi0, hz0', hz1, hz2⟩ := infoR'
  have H0 := Lib.hid hi0
  have H1 := Lib.hid hz0'
  have H2 := Lib.hid hz1
  have H3 := Lib.hid hz2
  have HW0 := Lib.hid hW0
  have hbase : Hid (Below W0.heap.size W0 (w.alloc (.cells (pc p) 26))) := by rw [hW0]; exact Below.refl _ _
  clear hR hn hi0 hz0' hz1 hz2 hl T hb0 rp hz0 hW0 hp
  unfold ListPost
  go_enter Try.func22, Try.ntmps22
  go_wp2
  go_loopw [5, 6] (fun s t wr => ∃ i : Nat, i ≤ n ∧ t = .int .i64 i ∧ Hid (Own wr W0.heap.size s (coveredL (l.take i) p)) ∧ Hid (Below W0.heap.size W0 wr)) (fun _ t _ => n - (intOf t).toNat)
  case atStart => exact ⟨0, Nat.zero_le _, rfl, own_nil _ _, hbase⟩
  case round =>
    obtain ⟨i, hi, rfl, HO, HW⟩ := hrel
    by_cases hlt : i < n
    · have hltI : (i : Int) < n := by omega
      have hi0 : (0 : Int) ≤ i := by omega
      obtain ⟨r, hrr⟩ : ∃ r, l[i]? = some r := ⟨l[i]'(by rw [← HN.out]; exact hlt), List.getElem?_eq_getElem _⟩
      obtain ⟨a', rfl, hca⟩ : ∃ a', a = some a' ∧ CellsAt wr a' (fl l) := by
        rcases (HT.out wr HW.out).2.1 with ⟨h, hnil⟩ | ⟨a', cap', h, _, _, hc⟩
        · exfalso; rw [hnil] at hrr; cases hrr
        · simp only [Value.slice.injEq] at h
          exact ⟨a', h.1, hc⟩
      have hc := hca.route hrr
      have HF : Hid (∀ W, Below wr.heap.size wr W → (preLoad ⟨w.heap.size, 0, none⟩).run Try.prog W = .ok (.agg (pc p)) W ∧ (preLoad (a'.add (i * 19))).run Try.prog W = .ok (.agg (pc r.pre)) W) := fun W h =>
        ⟨(HT.out W (HW.out.trans (h.mono HW.out.size))).1, run_preLoadA (hc.later h).pre⟩
      have HLR : Hid (∀ W, Below wr.heap.size wr W → (routeLoad (a'.add (i * 19))).run Try.prog W = .ok (.agg (rc r)) W) := fun W h => run_routeLoad (hc.later h)
      have htake : l.take (i + 1) = l.take i ++ [r] := by rw [List.take_add_one, hrr]; rfl
      have HCV := Lib.hid (fun W => rcovers_any p r.pre HP.out r.hk W)
      obtain ⟨q, hq⟩ : ∃ q, q = coveredL (l.take i) p := ⟨_, rfl⟩
      have hql : Hid (q.length ≤ 65536) := by
        show q.length ≤ 65536
        rw [hq]; unfold coveredL
        refine Nat.le_trans (List.length_filter_le _ _) ?_
        rw [List.length_take]; have := HL.out; omega
      have HO2 : Hid (Own wr W0.heap.size u5 q) := by rw [hq]; exact HO.out
      have HSP : Hid (coveredL (l.take (i + 1)) p = if coversB p r.pre = true then q ++ [r] else q) := by
        show _ = _
        rw [hq]; unfold coveredL
        rw [htake, List.filter_append]
        cases h : coversB p r.pre <;> simp [h]
      clear hca hc htake hrr hq
      cases hcv : coversB p r.pre with
      | false =>
        rw [hcv] at HCV HSP
        clear hcv
        go_wp2
        go_region_held3 (fun w' => (preLoad ⟨w.heap.size, 0, none⟩).run Try.prog w' = .ok (.agg (pc p)) w' ∧ (preLoad (a'.add (i * 19))).run Try.prog w' = .ok (.agg (pc r.pre)) w')
          (first | exact HF.out _ (Below.refl _ _) | exact HF.out _ h7 | exact HF.out _ h7.drew | exact HF.out _ (Below.refl _ _).drew)
          (first | (go_at_call 54; (with_reducible refine (HCV.out _).mono ?_); rintro e7 w7 ⟨rfl, h7'⟩; have h7 : Below wr.heap.size wr w7 := (Below.refl wr.heap.size wr).drew.trans h7'))
        all_goals
          have HH := Lib.hid h7
          clear h7 h7'
          go_wp2
          go_roundw
          case rel => exact ⟨i + 1, by omega, by go_num, by have := HSP.out; rw [if_neg Bool.false_ne_true] at this; rw [this]; exact HO2.out.later HH.out, HW.out.trans (HH.out.mono HW.out.size)⟩
          case measure => simp [intOf]; omega
      | true =>
        rw [hcv] at HCV HSP
        clear hcv
        go_wp2
        go_region_held3 (fun w' => (preLoad ⟨w.heap.size, 0, none⟩).run Try.prog w' = .ok (.agg (pc p)) w' ∧ (preLoad (a'.add (i * 19))).run Try.prog w' = .ok (.agg (pc r.pre)) w')
          (first | exact HF.out _ (Below.refl _ _) | exact HF.out _ h7 | exact HF.out _ h7.drew | exact HF.out _ (Below.refl _ _).drew)
          (first | (go_at_call 54; (with_reducible refine (HCV.out _).mono ?_); rintro e7 w7 ⟨rfl, h7'⟩; have h7 : Below wr.heap.size wr w7 := (Below.refl wr.heap.size wr).drew.trans h7'))
        all_goals
          have HH := Lib.hid h7
          have ld := HLR.out w7 h7
          have hbd := fun W => run_rowBuild r W
          have hal : Below w7.heap.size w7 (w7.alloc (.cells (rc r) 34)) := (Below.refl _ _).alloc (Nat.le_refl _) _
          have hown := (HO2.out.later h7).later hal
          have hnew := newRoute w7 r
          have hw7 := HW.out.trans (h7.mono HW.out.size)
          have hsz : W0.heap.size ≤ w7.heap.size := hw7.size
          clear h7 h7'
          go_wp2_with (at_builtin; refine wpList_append_own _ rfl _ _ 22 rfl W0.heap.size 34 i0 (.agg (rc zrt)) 19 40 Try.underlying22 H0.out H1.out H2.out H3.out (rc_size _) (by decide) _ q.length (fl q) rfl hown ⟨w7.heap.size, 0, none⟩ 1 1 (rl r) rfl (rl_length r) hnew (rl_one r) (by have := hql.out; simp only [maxLen]; omega) (by have := hql.out; omega) (by simp; omega) ?_)
          intro v' wz hown' hg _
          have hb3 := (hw7.trans (hal.mono hsz)).grown hg (Nat.le_trans hsz hal.size) (fun k hk => (hown.lt k hk).1)
          have hown3 : Own wz W0.heap.size v' (q ++ [r]) := by unfold Own; rw [List.length_append, fl_append, fl_one]; exact hown'
          clear hown' hg hown ld
          go_wp2
          go_roundw
          case rel => exact ⟨i + 1, by omega, by go_num, by have h := HSP.out; simp only [if_true] at h; rw [h]; exact hown3, hb3⟩
          case measure => simp [intOf]; omega
    · obtain rfl : i = n := by omega
      go_wp2
      go_ret
      have hO := HO.out
      rw [List.take_of_length_le (by rw [← HN.out]; exact Nat.le_refl _)] at hO
      exact ⟨_, rfl, hO.base HZ.out, (HT.out wr HW.out).2.2⟩
end Go.Proofs.Ytjppingppdmeoaa
