/- bywayref03.Apply: the table behind all changes, or as it is, and the first change that can't be made. -/
import Derived.Test.YtjppingppdmeoaaRefPut
namespace Go.Proofs.Ytjppingppdmeoaa
open Go.RowKit Go.Sort Go.Shelf
attribute [local go_sem ↓] loadVar_key loadVar_pre loadVar_route storeVar_pre storeVar_route buildSlice_row binOp_preNeq loadVar_change storeVar_change

/-! ### What each change does, as the document goes about it -/
theorem there_iff {m : List Rt} (h : Good m) (c : Rt) : thereB m c.pre (idxL m c.pre) = (findP m c.pre).isSome := by
  cases e : findP m c.pre with
  | none =>
    cases ht : thereB m c.pre (idxL m c.pre) with
    | false => rfl
    | true =>
      obtain ⟨r, hr, he, -⟩ := there_find ht
      unfold findP at e
      exact absurd he (List.find?_eq_none.1 e r hr)
  | some r =>
    obtain ⟨h1, h2⟩ := mem_find e
    have := there_mem h h1
    rw [rt_pre_ext h2] at this
    rw [this]; rfl
def restL (m : List Rt) (p : Pre) : List Rt := m.filter fun r => !preEq r.pre p
theorem rest_is {m : List Rt} (h : Good m) {c : Rt} (ht : thereB m c.pre (idxL m c.pre) = true) : restL m c.pre = m.eraseIdx (idxL m c.pre) := by
  obtain ⟨r0, hr0, he, -⟩ := there_find ht
  have he := rt_pre_ext he
  refine good_same (h.sub (List.filter_sublist)) (h.sub (List.eraseIdx_sublist _ _)) fun s => ?_
  unfold restL
  rw [← he, erase_mem h hr0, List.mem_filter]
  refine ⟨fun ⟨a, b⟩ => ⟨a, fun e => ?_⟩, fun ⟨a, b⟩ => ⟨a, ?_⟩⟩
  · rw [e, preEq_refl] at b; cases b
  · cases e : preEq s.pre r0.pre with
    | false => rfl
    | true => exact absurd (good_one h a hr0 (rt_pre_ext e)) b
/-- How a change ends: not made, put, taken away. -/
inductive Does (m : List Rt) (c : Ch) : Prop
  | bad (h : rgetL m c.rt.pre = (0, 1)) (x : changeL m c = ([], 1))
  | none (h : rgetL m c.rt.pre = (0, 6)) (g : c.gone = true) (x : changeL m c = ([], 6))
  | full (h : rgetL m c.rt.pre = (0, 6)) (g : c.gone = false) (l : m.length = 256) (x : changeL m c = ([], 5))
  | more (h : rgetL m c.rt.pre = (0, 6)) (g : c.gone = false) (l : m.length < 256) (x : changeL m c = (putL m c.rt, 0))
  | over (q : Nat) (h : rgetL m c.rt.pre = (q, 0)) (g : c.gone = false) (x : changeL m c = (putL m c.rt, 0))
  | gone (q : Nat) (h : rgetL m c.rt.pre = (q, 0)) (g : c.gone = true) (x : changeL m c = (restL m c.rt.pre, 0))
theorem does {m : List Rt} (h : Good m) (hl : m.length ≤ 256) (c : Ch) : Does m c := by
  have hr : rgetL m c.rt.pre = if mayB c.rt.pre = true then (match findP m c.rt.pre with
    | some r => (r.hop, (0 : Int))
    | none => (0, 6)) else (0, 1) := rfl
  cases hm : mayB c.rt.pre with
  | false =>
    refine .bad (by rw [hr, hm]; rfl) ?_
    unfold changeL; rw [hm]; rfl
  | true =>
    rw [hm] at hr
    simp only [if_true] at hr
    have ht := there_iff h c.rt
    cases hf : findP m c.rt.pre with
    | none =>
      rw [hf] at hr ht
      simp only [Option.isSome_none] at ht
      cases hg : c.gone with
      | true =>
        refine .none hr hg ?_
        unfold changeL; rw [hm, hg, ht]; rfl
      | false =>
        by_cases h6 : m.length = 256
        · refine .full hr hg h6 ?_
          unfold changeL; rw [hm, hg, ht, h6]; rfl
        · refine .more hr hg (by omega) ?_
          unfold changeL putL; rw [hm, hg, ht]
          simp [h6]
    | some r =>
      rw [hf] at hr ht
      simp only [Option.isSome_some] at ht
      cases hg : c.gone with
      | true =>
        refine .gone r.hop hr hg ?_
        rw [rest_is h ht]
        unfold changeL; rw [hm, hg, ht]; rfl
      | false =>
        refine .over r.hop hr hg ?_
        unfold changeL putL; rw [hm, hg, ht]; rfl

def RApplyPost (w : World) (x : List Rt × Int) (e : Ending) (w' : World) : Prop := ∃ v', e = .returned (.tuple #[v', .int .i64 x.2]) ∧ Rd w' v' x.1 ∧ Below w.heap.size w w'
theorem cl_pre {W : World} {a : Addr} {c : Ch} (h : CellsAt W a (cl c)) : CellsAt W a (rl c.rt) := fun j u hu => h j u (by
  have hj := (List.getElem?_eq_some_iff.1 hu).1
  unfold cl; rw [List.getElem?_append_left hj]; exact hu)
theorem cl_gone {W : World} {a : Addr} {c : Ch} (h : CellsAt W a (cl c)) : W.cell? (a.add 19) = some (.bool c.gone) := h 19 _ (by
  unfold cl; rw [List.getElem?_append_right (by rw [rl_length]; exact Nat.le_refl _), rl_length]; rfl)

set_option maxHeartbeats 4000000 in
set_option maxRecDepth 100000 in
theorem rapply_any (t : List Rt) (cs : List Ch) (hg : Good t) (hl : t.length ≤ 256) (v u : Value) (w : World) (hR : Rd w v t) (hC : RdC w u cs) (hc16 : cs.length ≤ 60000) :
    Calls Try.prog 21 #[v, u] w (RApplyPost w (applyL t cs)) := by
  obtain ⟨X, hX⟩ : ∃ X, X = applyL t cs := ⟨_, rfl⟩
  rw [← hX]
  rw [apply_right hg hl] at hX
  have HX := Lib.hid hX
  have HR := Lib.hid hR
  have HRC := Lib.hid hC
  have HGT : Hid (Good t ∧ t.length ≤ 256) := ⟨hg, hl⟩
  obtain ⟨a, cap, hv, -⟩ := rdC_len hC
  obtain ⟨n, hn⟩ : ∃ n, n = cs.length := ⟨_, rfl⟩
  rw [← hn] at hv hc16
  have HN := Lib.hid hn
  have hnI : (n : Int) ≤ 60000 := by omega
  subst hv
  obtain ⟨i0, hi0, hz0', hz1, hz2⟩ := infoR'
  have H0 := Lib.hid hi0
  have H1 := Lib.hid hz0'
  have H2 := Lib.hid hz1
  have H3 := Lib.hid hz2
  clear hX hR hC hg hl hn hi0 hz0' hz1 hz2
  unfold RApplyPost
  go_enter Try.func21, Try.ntmps21
  go_wp2
  go_loopw [6, 7, 8, 9, 10, 11] (fun s i' _ _ _ _ wr => ∃ (i : Nat) (m : List Rt), i ≤ n ∧ i' = .int .i64 i ∧ Hid (Rd wr s m) ∧ Hid (Good m ∧ m.length ≤ 256) ∧ Hid (foldL m (cs.drop i) = foldL t cs) ∧ Hid (Below w.heap.size w wr)) (fun _ i' _ _ _ _ _ => n - (intOf i').toNat)
  case atStart => exact ⟨0, t, Nat.zero_le _, rfl, HR.out, HGT.out, rfl, Below.refl _ _⟩
  case round =>
    obtain ⟨i, m, hi, rfl, HM, HGM, HFM, HW⟩ := hrel
    by_cases hlt : i < n
    · have hltI : (i : Int) < n := by omega
      have hi0 : (0 : Int) ≤ i := by omega
      obtain ⟨c, hcc⟩ : ∃ c, cs[i]? = some c := ⟨cs[i]'(by rw [← HN.out]; exact hlt), List.getElem?_eq_getElem _⟩
      obtain ⟨a', rfl⟩ : ∃ a', a = some a' := by
        rcases HRC.out with ⟨h, hnil⟩ | ⟨a', cap', h, _, _, hc⟩
        · exfalso; rw [hnil] at hcc; cases hcc
        · simp only [Value.slice.injEq] at h
          exact ⟨a', h.1⟩
      have HF : Hid (∀ W, Below w.heap.size w W → (preLoad (a'.add (i * 20))).run Try.prog W = .ok (.agg (pc c.rt.pre)) W ∧ (routeLoad (a'.add (i * 20))).run Try.prog W = .ok (.agg (rc c.rt)) W ∧ W.cell? ⟨(a'.add (i * 20)).block, (a'.add (i * 20)).off + 19, none⟩ = some (.bool c.gone)) := fun W h => by
        rcases HRC.out.later h with ⟨h2, -⟩ | ⟨a2, cap', h2, _, _, hc⟩
        · simp at h2
        · simp only [Value.slice.injEq, Option.some.injEq] at h2
          obtain ⟨rfl, -, -⟩ := h2
          have hc := hc.change hcc
          exact ⟨run_preLoadA (cl_pre hc).pre, run_routeLoad (cl_pre hc), cl_gone hc⟩
      have hdrop : cs.drop i = c :: cs.drop (i + 1) := by
        have hlt2 : i < cs.length := by rw [← HN.out]; exact hlt
        rw [List.drop_eq_getElem_cons hlt2]
        rw [List.getElem?_eq_getElem hlt2] at hcc
        simp only [Option.some.injEq] at hcc
        rw [hcc]
      have HFO : Hid (foldL t cs = if (changeL m c).2 = 0 then foldL (changeL m c).1 (cs.drop (i + 1)) else ([], (changeL m c).2)) := by
        show _ = _; rw [← HFM.out, hdrop]; rfl
      have HGX : Hid ((changeL m c).2 = 0 → Good (changeL m c).1 ∧ (changeL m c).1.length ≤ 256) := fun h0 => change_good HGM.out.1 HGM.out.2 c h0
      have hds := does HGM.out.1 HGM.out.2 c
      obtain ⟨a6, cap6, hv6, -⟩ := rd_len HM.out
      obtain ⟨m6, hm6⟩ : ∃ m6, m6 = m.length := ⟨_, rfl⟩
      rw [← hm6] at hv6
      have HM6 := Lib.hid hm6
      subst hv6
      have h66 : m6 ≤ 256 := by rw [hm6]; exact HGM.out.2
      have h66I : (m6 : Int) ≤ 256 := by omega
      obtain ⟨lp, -, -⟩ := HF.out wr HW.out
      have HG1 := Lib.hid (rget_any m c.rt.pre c.rt.hk _ wr HM.out (by rw [← HM6.out]; omega))
      have HB1 : Hid (∀ w1, Below wr.heap.size wr w1 → Below w.heap.size w w1) := fun w1 h => HW.out.trans (h.mono HW.out.size)
      clear hcc hdrop hm6
      rcases hds with ⟨h, x⟩ | ⟨h, g, x⟩ | ⟨h, g, hl, x⟩ | ⟨h, g, hl, x⟩ | ⟨q, h, g, x⟩ | ⟨q, h, g, x⟩
      · -- a prefix that may not be
        rw [h] at HG1
        have HXX : Hid (X = (t, 1)) := by
          show _ = _; have h := HFO.out; rw [x] at h; rw [HX.out, h]; rfl
        clear h x
        unfold GetPost at HG1
        go_wp2_with fail
        refine HG1.out.mono ?_
        rintro e w1 ⟨rfl, h1⟩
        have HRT := Lib.hid (HR.out.later (HB1.out w1 h1))
        have HBW := Lib.hid (HB1.out w1 h1)
        clear lp h1
        go_wp2
        go_ret2
        exact ⟨_, by rw [HXX.out]; rfl, by rw [HXX.out]; exact HRT.out, HBW.out⟩
      · -- not there, to be gone
        rw [h] at HG1
        have HXX : Hid (X = (t, 6)) := by
          show _ = _; have h := HFO.out; rw [x] at h; rw [HX.out, h]; rfl
        clear h x
        unfold GetPost at HG1
        go_wp2_with fail
        refine HG1.out.mono ?_
        rintro e w1 ⟨rfl, h1⟩
        obtain ⟨-, -, lg⟩ := HF.out w1 (HB1.out w1 h1)
        rw [g] at lg
        have HRT := Lib.hid (HR.out.later (HB1.out w1 h1))
        have HBW := Lib.hid (HB1.out w1 h1)
        clear lp h1
        go_wp2
        go_ret2
        exact ⟨_, by rw [HXX.out]; rfl, by rw [HXX.out]; exact HRT.out, HBW.out⟩
      · -- no room
        rw [h] at HG1
        have HXX : Hid (X = (t, 5)) := by
          show _ = _; have h := HFO.out; rw [x] at h; rw [HX.out, h]; rfl
        have h6 : (256 : Int) ≤ m6 := by rw [HM6.out, hl]; decide
        clear h x hl
        unfold GetPost at HG1
        go_wp2_with fail
        refine HG1.out.mono ?_
        rintro e w1 ⟨rfl, h1⟩
        obtain ⟨-, -, lg⟩ := HF.out w1 (HB1.out w1 h1)
        rw [g] at lg
        have HRT := Lib.hid (HR.out.later (HB1.out w1 h1))
        have HBW := Lib.hid (HB1.out w1 h1)
        clear lp h1
        go_wp2
        go_ret2
        exact ⟨_, by rw [HXX.out]; rfl, by rw [HXX.out]; exact HRT.out, HBW.out⟩
      · -- a route more
        rw [h] at HG1
        have HXX : Hid (foldL t cs = foldL (putL m c.rt) (cs.drop (i + 1))) := by
          show _ = _; have h := HFO.out; rw [x] at h; exact h
        have HGP : Hid (Good (putL m c.rt) ∧ (putL m c.rt).length ≤ 256) := by have h := HGX.out; rw [x] at h; exact h rfl
        have h6 : ¬ (256 : Int) ≤ m6 := by rw [HM6.out]; omega
        clear h x hl
        unfold GetPost at HG1
        go_wp2_with fail
        refine HG1.out.mono ?_
        rintro e w1 ⟨rfl, h1⟩
        obtain ⟨-, lr, lg⟩ := HF.out w1 (HB1.out w1 h1)
        rw [g] at lg
        have HBW := Lib.hid (HB1.out w1 h1)
        have HP := Lib.hid (rput_any m c.rt (by have := HGM.out.2; omega) _ w1 (HM.out.later h1))
        clear lp h1
        go_wp2_with fail
        refine HP.out.mono ?_
        rintro e w2 ⟨v2, rfl, ho2, h2⟩
        have HB2 := Lib.hid (HBW.out.trans (h2.mono HBW.out.size))
        have HO2 : Hid (Rd w2 v2 (putL m c.rt)) := by rw [putGo_is HGM.out.1] at ho2; exact ho2.rd
        clear ho2 h2 lr lg
        go_wp2
        go_roundw
        case rel => exact ⟨i + 1, putL m c.rt, by omega, by go_num, HO2.out, HGP.out, HXX.out.symm, HB2.out⟩
        case measure => simp [intOf]; omega
      · -- another one in its place
        rw [h] at HG1
        have HXX : Hid (foldL t cs = foldL (putL m c.rt) (cs.drop (i + 1))) := by
          show _ = _; have h := HFO.out; rw [x] at h; exact h
        have HGP : Hid (Good (putL m c.rt) ∧ (putL m c.rt).length ≤ 256) := by have h := HGX.out; rw [x] at h; exact h rfl
        clear h x
        unfold GetPost at HG1
        go_wp2_with fail
        refine HG1.out.mono ?_
        rintro e w1 ⟨rfl, h1⟩
        obtain ⟨-, lr, lg⟩ := HF.out w1 (HB1.out w1 h1)
        rw [g] at lg
        have HBW := Lib.hid (HB1.out w1 h1)
        have HP := Lib.hid (rput_any m c.rt (by have := HGM.out.2; omega) _ w1 (HM.out.later h1))
        clear lp h1
        go_wp2_with fail
        refine HP.out.mono ?_
        rintro e w2 ⟨v2, rfl, ho2, h2⟩
        have HB2 := Lib.hid (HBW.out.trans (h2.mono HBW.out.size))
        have HO2 : Hid (Rd w2 v2 (putL m c.rt)) := by rw [putGo_is HGM.out.1] at ho2; exact ho2.rd
        clear ho2 h2 lr lg
        go_wp2
        go_roundw
        case rel => exact ⟨i + 1, putL m c.rt, by omega, by go_num, HO2.out, HGP.out, HXX.out.symm, HB2.out⟩
        case measure => simp [intOf]; omega
      · -- taken away
        rw [h] at HG1
        have HXX : Hid (foldL t cs = foldL (restL m c.rt.pre) (cs.drop (i + 1))) := by
          show _ = _; have h := HFO.out; rw [x] at h; exact h
        have HGP : Hid (Good (restL m c.rt.pre) ∧ (restL m c.rt.pre).length ≤ 256) := by have h := HGX.out; rw [x] at h; exact h rfl
        clear h x
        unfold GetPost at HG1
        go_wp2_with fail
        refine HG1.out.mono ?_
        rintro e w1 ⟨rfl, h1⟩
        obtain ⟨-, lr, lg⟩ := HF.out w1 (HB1.out w1 h1)
        rw [g] at lg
        have HBW := Lib.hid (HB1.out w1 h1)
        have HMW := Lib.hid (HM.out.later h1)
        clear lp h1 lr
        go_wp2
        clear lg
        go_loopw [10, 11] (fun s k' wr => ∃ k : Nat, k ≤ m6 ∧ k' = .int .i64 k ∧ Hid (Own wr w1.heap.size s (restL (m.take k) c.rt.pre)) ∧ Hid (Below w1.heap.size w1 wr)) (fun _ k' _ => m6 - (intOf k').toNat)
        case atStart => exact ⟨0, Nat.zero_le _, rfl, own_nil _ _, Below.refl _ _⟩
        case round =>
          obtain ⟨k, hk, rfl, HO, HWZ⟩ := hrel
          by_cases hkt : k < m6
          · have hktI : (k : Int) < m6 := by omega
            have hk0 : (0 : Int) ≤ k := by omega
            obtain ⟨s, hss⟩ : ∃ s, m[k]? = some s := ⟨m[k]'(by rw [← HM6.out]; exact hkt), List.getElem?_eq_getElem _⟩
            obtain ⟨b6, rfl⟩ : ∃ b6, a6 = some b6 := by
              rcases HMW.out with ⟨h, hnil⟩ | ⟨b6, cap', h, _, _, hc⟩
              · exfalso; rw [hnil] at hss; cases hss
              · simp only [Value.slice.injEq] at h
                exact ⟨b6, h.1⟩
            have HS : Hid (∀ W, Below w1.heap.size w1 W → (preLoad (b6.add (k * 19))).run Try.prog W = .ok (.agg (pc s.pre)) W ∧ (routeLoad (b6.add (k * 19))).run Try.prog W = .ok (.agg (rc s)) W ∧ (preLoad (a'.add (i * 20))).run Try.prog W = .ok (.agg (pc c.rt.pre)) W) := fun W h => by
              rcases HMW.out.later h with ⟨h2, -⟩ | ⟨a2, cap', h2, _, _, hc⟩
              · simp at h2
              · simp only [Value.slice.injEq, Option.some.injEq] at h2
                obtain ⟨rfl, -, -⟩ := h2
                exact ⟨run_preLoadA (hc.route hss).pre, run_routeLoad (hc.route hss), (HF.out W (HBW.out.trans (h.mono HBW.out.size))).1⟩
            have htake : m.take (k + 1) = m.take k ++ [s] := by rw [List.take_add_one, hss]; rfl
            have hsp : restL (m.take (k + 1)) c.rt.pre = restL (m.take k) c.rt.pre ++ if preEq s.pre c.rt.pre = true then [] else [s] := by
              unfold restL
              rw [htake, List.filter_append]
              cases h : preEq s.pre c.rt.pre <;> simp [h]
            have hol : (restL (m.take k) c.rt.pre).length ≤ 256 := by
              unfold restL
              refine Nat.le_trans (List.length_filter_le _ _) ?_
              rw [List.length_take]; have := HM6.out; omega
            obtain ⟨o, ho⟩ : ∃ o, restL (m.take k) c.rt.pre = o := ⟨_, rfl⟩
            rw [ho] at HO hsp hol
            have HSP := Lib.hid hsp
            have HOL := Lib.hid hol
            have HDR : Hid (∀ j, Below wr.heap.size wr (wr.drewN j)) := fun j => ⟨(Below.refl wr.heap.size wr).os, (Below.refl wr.heap.size wr).tape, (Below.refl wr.heap.size wr).output, (Below.refl wr.heap.size wr).size, (Below.refl wr.heap.size wr).block⟩
            have l1 : ∀ j, (preLoad (b6.add (k * 19))).run Try.prog (wr.drewN j) = .ok (.agg (pc s.pre)) (wr.drewN j) := fun j => (HS.out _ (HWZ.out.trans ((HDR.out j).mono HWZ.out.size))).1
            have l2 : ∀ j, (preLoad (a'.add (i * 20))).run Try.prog (wr.drewN j) = .ok (.agg (pc c.rt.pre)) (wr.drewN j) := fun j => (HS.out _ (HWZ.out.trans ((HDR.out j).mono HWZ.out.size))).2.2
            have le := run_preNeq s.pre c.rt.pre
            clear hss htake hsp hol ho
            cases heq : preEq s.pre c.rt.pre with
            | true =>
              rw [heq] at le HSP
              have HE : Hid (restL (m.take (k + 1)) c.rt.pre = o) := by show _ = _; have h := HSP.out; simpa using h
              clear heq
              go_wp2
              go_quiet (fail)
              clear l1 l2 le
              go_wp2
              go_roundw
              case rel => exact ⟨k + 1, by omega, by go_num, by rw [HE.out]; exact HO.out.later (HDR.out _), HWZ.out.trans ((HDR.out _).mono HWZ.out.size)⟩
              case measure => simp [intOf]; omega
            | false =>
              rw [heq] at le HSP
              have HE : Hid (restL (m.take (k + 1)) c.rt.pre = o ++ [s]) := by show _ = _; have h := HSP.out; simpa using h
              clear heq
              go_wp2
              go_quiet (fail)
              clear l1 l2 le
              obtain ⟨wp', hwp⟩ : ∃ wp', wr.drewN nq = wp' := ⟨_, rfl⟩
              have hbp : Below w1.heap.size w1 wp' := by rw [← hwp]; exact HWZ.out.trans ((HDR.out _).mono HWZ.out.size)
              have hop : Own wp' w1.heap.size u10 o := by rw [← hwp]; exact HO.out.later (HDR.out _)
              rw [hwp]
              clear hwp
              have ld := (HS.out _ hbp).2.1
              have hbd := run_rowBuild s wp'
              have hal : Below wp'.heap.size wp' (wp'.alloc (.cells (rc s) 34)) := (Below.refl _ _).alloc (Nat.le_refl _) _
              have hown := hop.later hal
              have hnew := newRoute wp' s
              go_wp2_with (at_builtin; refine wpList_append_own _ rfl _ _ 22 rfl w1.heap.size 34 i0 (.agg (rc zrt)) 19 40 Try.underlying22 H0.out H1.out H2.out H3.out (rc_size _) (by decide) _ o.length (fl o) rfl hown ⟨wp'.heap.size, 0, none⟩ 1 1 (rl s) rfl (rl_length s) hnew (rl_one s) (by have := HOL.out; simp only [maxLen]; omega) (by have := HOL.out; omega) (by have := hbp.size; simp; omega) ?_)
              intro vz wz hown' hg _
              have HBZ : Hid (Below w1.heap.size w1 wz) := (hbp.trans (hal.mono hbp.size)).grown hg (Nat.le_trans hbp.size hal.size) (fun j hj => (hown.lt j hj).1)
              have HOZ : Hid (Own wz w1.heap.size vz (o ++ [s])) := by show Own _ _ _ _; unfold Own; rw [List.length_append, fl_append, fl_one]; exact hown'
              clear hown' hg hown hal hnew ld hbd hop hbp
              go_wp2
              go_roundw
              case rel => exact ⟨k + 1, by omega, by go_num, by rw [HE.out]; exact HOZ.out, HBZ.out⟩
              case measure => simp [intOf]; omega
          · obtain rfl : k = m6 := by omega
            have HO2 : Hid (Rd wr u10 (restL m c.rt.pre)) := by
              have h := HO.out
              rw [List.take_of_length_le (by rw [← HM6.out]; exact Nat.le_refl _)] at h
              exact h.rd
            have HB2 := Lib.hid (HBW.out.trans (HWZ.out.mono HBW.out.size))
            go_wp2
            go_roundw
            case rel => exact ⟨i + 1, restL m c.rt.pre, by omega, by go_num, HO2.out, HGP.out, HXX.out.symm, HB2.out⟩
            case measure => simp [intOf]; omega
    · obtain rfl : i = n := by omega
      have hd : cs.drop i = [] := List.drop_of_length_le (by rw [← HN.out]; exact Nat.le_refl _)
      have HXX : Hid (X = (m, 0)) := by
        show _ = _; have h := HFM.out; rw [hd] at h; rw [HX.out, ← h]; rfl
      clear hd
      go_wp2
      go_ret2
      exact ⟨_, by rw [HXX.out]; rfl, by rw [HXX.out]; exact HM.out, HW.out⟩
end Go.Proofs.Ytjppingppdmeoaa
