/- The statement TableChanges, walked: every call of it hands back true. -/
import Derived.Test.YtcpdpcfejpbdpaaTabAwakeW
import Derived.Test.YtcpdpcfejpbdpaaTabShort
import Derived.Test.YtcpdpcfejpbdpaaTabSame
namespace Go.Proofs.Ytcpdpcfejpbdpaa.tableChanges
open Go.RowKit Go.Sort Go.Shelf
attribute [local go_sem ↓] loadVar_key loadVar_pre loadVar_route storeVar_pre storeVar_route build_pre build_route build_key build_change buildSlice_rows buildSlice_chs binOp_preEql

theorem run_short (w : World) : (preBuild #[(0, .int .i64 32)]).run Try.prog w = .ok (.agg (pc shortP)) w := by kernel_rfl

theorem ch_pre {w : World} {a : Addr} {c : Ch} (h : CellsAt w a (cl c)) : CellsAt w a (pc c.rt.pre).toList := by
  have hr : CellsAt w a (rl c.rt) := fun j u hu => h j u (by
    unfold cl; rw [List.getElem?_append_left (List.getElem?_eq_some_iff.1 hu).1]; exact hu)
  exact hr.pre
theorem ch_hop {w : World} {a : Addr} {c : Ch} (h : CellsAt w a (cl c)) : w.cell? (a.add 18) = some (.int .u16 (c.rt.hop : Nat)) := by
  have hr : CellsAt w a (rl c.rt) := fun j u hu => h j u (by
    unfold cl; rw [List.getElem?_append_left (List.getElem?_eq_some_iff.1 hu).1]; exact hu)
  exact hr.hop
theorem ch_gone {w : World} {a : Addr} {c : Ch} (h : CellsAt w a (cl c)) : w.cell? (a.add 19) = some (.bool c.gone) :=
  h 19 (.bool c.gone) (by unfold cl; rw [List.getElem?_append_right (by rw [rl_length]; decide), rl_length]; rfl)

structure LastAt (cs : List Ch) (c : Ch) (i j q : Nat) (d : Ch) : Prop where
  at' : cs[j]? = some d
  ij : i ≤ j
  iq : i ≤ q
  pre : d.rt.pre = c.rt.pre
  no : ∀ m e, j < m → m < q → cs[m]? = some e → e.rt.pre ≠ c.rt.pre

theorem chs_at {w : World} {a : Option Addr} {n cap : Nat} {l : List Ch} (h : RdC w (.slice a n cap) l) {i : Nat} {r : Ch} (hr : l[i]? = some r) : ∃ a', a = some a' ∧ CellsAt w a' (fc l) := by
  rcases h with ⟨h, hnil⟩ | ⟨a', cap', h, _, _, hc⟩
  · exfalso; rw [hnil] at hr; cases hr
  · simp only [Value.slice.injEq] at h
    exact ⟨a', h.1, hc⟩
theorem rts_at {w : World} {a : Option Addr} {n cap : Nat} {l : List Rt} (h : Rd w (.slice a n cap) l) {i : Nat} {r : Rt} (hr : l[i]? = some r) : ∃ a', a = some a' ∧ CellsAt w a' (fl l) := by
  rcases h with ⟨h, hnil⟩ | ⟨a', cap', h, _, _, hc⟩
  · exfalso; rw [hnil] at hr; cases hr
  · simp only [Value.slice.injEq] at h
    exact ⟨a', h.1, hc⟩

set_option maxHeartbeats 4000000 in
set_option maxRecDepth 100000 in
theorem walk (l : List Rt) (cs : List Ch) (v vc : Value) (w : World) (hR : Rd w v l) (hC : RdC w vc cs) (hl : l.length ≤ 256) (hc : cs.length ≤ 40) (hg : Good l) :
    Calls Try.prog 5 #[v, vc] w fun e w' => e = .returned (.bool true) ∧ Below w.heap.size w w' := by
  have H1 := Lib.hid (awake_any w)
  have H2 : Hid (∀ W, Rd W v l → Calls Try.prog 14 #[v] W fun e w' => e = .returned (.bool true) ∧ Below W.heap.size W w') := fun W h => by
    have := right_any l v W h
    rw [(right_iff l).2 ⟨by omega, hg⟩] at this; exact this
  have hgu := apply_good hg hl cs
  have hbe := fun h0 => behind_fold hg hl cs h0
  have har := apply_right hg hl cs
  obtain ⟨u, e, hu⟩ : ∃ u e, applyL l cs = (u, e) := ⟨_, _, rfl⟩
  rw [hu] at hgu har
  simp only at hgu
  have H3 : Hid (∀ W, Rd W v l → RdC W vc cs → Calls Try.prog 11 #[v, vc] W (ApplyPost W (u, e))) := fun W h1 h2 => by
    rw [← hu]; exact apply_any l cs v vc W h1 h2 (by omega) (by omega)
  have hcase : (e ≠ 0 ∧ u = l) ∨ (e = 0 ∧ Behind l cs u) := by
    by_cases h0 : (foldL l cs).2 = 0
    · rw [if_pos h0] at har
      simp only [Prod.mk.injEq] at har
      exact .inr ⟨har.2, by rw [har.1]; exact hbe h0⟩
    · rw [if_neg h0] at har
      simp only [Prod.mk.injEq] at har
      exact .inl ⟨by rw [har.2]; exact h0, har.1⟩
  have HS : Hid (∀ W p q (m : List Rt), Rd W p m → Rd W q m → m.length ≤ 65536 → Calls Try.prog 15 #[p, q] W fun e w' => e = .returned (.bool true) ∧ Below W.heap.size W w') := fun W p q m h1 h2 h3 => same_yes m p q W h1 h2 h3
  obtain ⟨a, cap, hv, -⟩ := rd_len hR
  obtain ⟨ac, capc, hvc, -⟩ := rdC_len hC
  obtain ⟨nl, hnl⟩ : ∃ n, n = l.length := ⟨_, rfl⟩
  obtain ⟨nc, hnc⟩ : ∃ n, n = cs.length := ⟨_, rfl⟩
  rw [← hnl] at hv hl
  rw [← hnc] at hvc hc
  have HNL := Lib.hid hnl
  have HNC := Lib.hid hnc
  have HLL : Hid (nl ≤ 256) := hl
  have HLC : Hid (nc ≤ 40) := hc
  have hlI : (nl : Int) ≤ 256 := by omega
  have hcI : (nc : Int) ≤ 40 := by omega
  have HR := Lib.hid hR
  have HC := Lib.hid hC
  have HGU := Lib.hid hgu
  have HG := Lib.hid hg
  have HCASE := Lib.hid hcase
  subst hv
  subst hvc
  clear hR hC hgu hbe har hu hcase hnl hnc hl hc hg
  go_enter Try.func5, Try.ntmps5
  go_wp2_with fail
  refine H1.out.mono ?_
  rintro e1 w1 ⟨rfl, h1⟩
  have B1 := Lib.hid h1
  clear h1
  go_wp2_with fail
  refine (H2.out _ (HR.out.later B1.out)).mono ?_
  rintro e2 w2 ⟨rfl, h2⟩
  have B2 := Lib.hid (B1.out.trans (h2.mono B1.out.size))
  clear h2
  go_wp2_with fail
  refine (H3.out _ (HR.out.later B2.out) (HC.out.later B2.out)).mono ?_
  rintro e3 w3 ⟨vu, rfl, ou, h3⟩
  have B3 := Lib.hid (B2.out.trans (h3.mono B2.out.size))
  have RU := Lib.hid ou.rd
  clear h3 ou
  rcases HCASE.out with ⟨he, hul⟩ | ⟨he, hb⟩
  · have hd : ((e : Int) != 0) = true := by rw [bne_iff_ne]; exact he
    have HUL := Lib.hid hul
    clear he hul
    go_wp2_with fail
    refine (HS.out w3 _ _ u RU.out (by rw [HUL.out]; exact HR.out.later B3.out) (by have := HGU.out.2; omega)).mono ?_
    rintro e4 w4 ⟨rfl, h4⟩
    have FIN := Lib.hid (B3.out.trans (h4.mono B3.out.size))
    clear h4
    go_wp2
    go_ret
    exact ⟨rfl, FIN.out⟩
  · subst he
    have HB := Lib.hid hb
    clear hb
    have HGET : Hid (∀ W, Below w3.heap.size w3 W → ∀ x : Rt, Calls Try.prog 9 #[vu, .agg (pc x.pre)] W (GetPost W (getL u x.pre))) := fun W h x => get_any u x.pre x.hk vu W (RU.out.later h)
    have BW : Hid (∀ W, Below w3.heap.size w3 W → Below w.heap.size w W) := fun W h => B3.out.trans (h.mono B3.out.size)
    go_wp2
    go_loopw [7] (fun i wr => ∃ i' : Nat, i' ≤ nc ∧ i = .int .i64 i' ∧ Hid (Below w3.heap.size w3 wr)) (fun i _ => nc - (intOf i).toNat)
    case atStart => exact ⟨0, Nat.zero_le _, rfl, Below.refl _ _⟩
    case round =>
      obtain ⟨i, hi, rfl, HW⟩ := hrel
      by_cases hlt : i < nc
      · have hltI : (i : Int) < nc := by omega
        have hi0 : (0 : Int) ≤ i := by omega
        obtain ⟨c, hcc⟩ : ∃ c, cs[i]? = some c := ⟨cs[i]'(by rw [← HNC.out]; exact hlt), List.getElem?_eq_getElem _⟩
        have HCC := Lib.hid hcc
        obtain ⟨a', rfl, -⟩ := chs_at HC.out hcc
        have HCA : Hid (∀ W, Below w3.heap.size w3 W → CellsAt W a' (fc cs)) := fun W h => by
          obtain ⟨a2, e2, h2⟩ := chs_at (HC.out.later (BW.out W h)) hcc
          simp only [Option.some.injEq] at e2
          rw [e2]; exact h2
        clear hcc
        go_wp2
        go_loopw [8, 9] (fun j q wr => ∃ (j' q' : Nat) (d : Ch), j = .int .i64 j' ∧ q = .int .i64 q' ∧ j' < nc ∧ q' ≤ nc ∧ Hid (LastAt cs c i j' q' d) ∧ Hid (Below w3.heap.size w3 wr)) (fun _ q _ => nc - (intOf q).toNat)
        case atStart => exact ⟨i, i, c, rfl, rfl, hlt, hi, ⟨HCC.out, Nat.le_refl _, Nat.le_refl _, rfl, fun m e h1 h2 => by omega⟩, HW⟩
        case round =>
          obtain ⟨j, q, d, rfl, rfl, hj, hq, HLA, HW2⟩ := hrel
          by_cases hlq : q < nc
          · have hlqI : (q : Int) < nc := by omega
            have hq0 : (0 : Int) ≤ q := by omega
            obtain ⟨f, hff⟩ : ∃ f, cs[q]? = some f := ⟨cs[q]'(by rw [← HNC.out]; exact hlq), List.getElem?_eq_getElem _⟩
            have hca := HCA.out wr HW2.out
            have l1 : ∀ k, (preLoad (a'.add (i * 20))).run Try.prog (wr.drewN k) = .ok (.agg (pc c.rt.pre)) (wr.drewN k) := fun k => run_preLoadA (fun j u hu => ch_pre (hca.change HCC.out) j u hu)
            have l2 : ∀ k, (preLoad (a'.add (q * 20))).run Try.prog (wr.drewN k) = .ok (.agg (pc f.rt.pre)) (wr.drewN k) := fun k => run_preLoadA (fun j u hu => ch_pre (hca.change hff) j u hu)
            have HFF := Lib.hid hff
            have le := run_preEql f.rt.pre c.rt.pre
            clear hca hff
            cases heq : preEq f.rt.pre c.rt.pre with
            | true =>
              rw [heq] at le
              have HEQ := Lib.hid (rt_pre_ext heq)
              clear heq
              go_wp2
              go_quiet (fail)
              clear l1 l2 le
              go_wp2
              go_roundw
              case rel => exact ⟨q, q + 1, f, rfl, by go_num, hlq, by omega, ⟨HFF.out, HLA.out.iq, Nat.le_succ_of_le HLA.out.iq, HEQ.out, fun m e h1 h2 => by omega⟩, ⟨HW2.out.os, HW2.out.tape, HW2.out.output, HW2.out.size, HW2.out.block⟩⟩
              case measure => simp [intOf]; omega
            | false =>
              rw [heq] at le
              have HEQ : Hid (f.rt.pre ≠ c.rt.pre) := fun e => by rw [e, preEq_refl] at heq; cases heq
              clear heq
              go_wp2
              go_quiet (fail)
              clear l1 l2 le
              go_wp2
              go_roundw
              case rel => exact ⟨j, q + 1, d, rfl, by go_num, hj, by omega, ⟨HLA.out.at', HLA.out.ij, Nat.le_succ_of_le HLA.out.iq, HLA.out.pre, fun m e h1 h2 h3 => by
                rcases Nat.lt_or_ge m q with h4 | h4
                · exact HLA.out.no m e h1 h4 h3
                · obtain rfl : m = q := by omega
                  rw [HFF.out] at h3
                  simp only [Option.some.injEq] at h3
                  rw [← h3]; exact HEQ.out⟩, ⟨HW2.out.os, HW2.out.tape, HW2.out.output, HW2.out.size, HW2.out.block⟩⟩
              case measure => simp [intOf]; omega
          · obtain rfl : q = nc := by omega
            have hjI : (j : Int) < q := by omega
            have hj0 : (0 : Int) ≤ j := by omega
            have F : ∀ W, Below w3.heap.size w3 W → (preLoad (a'.add (i * 20))).run Try.prog W = .ok (.agg (pc c.rt.pre)) W ∧ W.cell? ⟨(a'.add (j * 20)).block, (a'.add (j * 20)).off + 19, none⟩ = some (.bool d.gone) ∧ W.cell? ⟨(a'.add (j * 20)).block, (a'.add (j * 20)).off + 18, none⟩ = some (.int .u16 (d.rt.hop : Nat)) := fun W h =>
              ⟨run_preLoadA (ch_pre ((HCA.out W h).change HCC.out)), ch_gone ((HCA.out W h).change HLA.out.at'), ch_hop ((HCA.out W h).change HLA.out.at')⟩
            have HF := Lib.hid F
            have hget : (d.gone = true ∧ getL u c.rt.pre = (0, 6)) ∨ (d.gone = false ∧ getL u c.rt.pre = (d.rt.hop, 0)) := by
              have hla := HB.out.last j d HLA.out.at' (fun m e h1 h2 h3 => HLA.out.no m e h1 (by rw [HNC.out]; exact (List.getElem?_eq_some_iff.1 h2).1) h2 (h3.trans HLA.out.pre))
              have hmay : mayB c.rt.pre = true := HB.out.may c (List.mem_of_getElem? HCC.out)
              cases hgn : d.gone with
              | true =>
                refine .inl ⟨rfl, get_gone HGU.out.1 HGU.out.2 hmay (fun s hs e => ?_)⟩
                have := (hla s (e.trans HLA.out.pre.symm)).1 hs
                rw [hgn] at this; cases this.1
              | false => exact .inr ⟨rfl, get_some HGU.out.1 HGU.out.2 ((hla d.rt rfl).2 ⟨hgn, rfl⟩) HLA.out.pre⟩
            have hgc := HGET.out wr HW2.out c.rt
            have HGET2 := Lib.hid hget
            have HGC := Lib.hid hgc
            obtain ⟨f1, f2, f3⟩ := F wr HW2.out
            clear F hget hgc
            rcases HGET2.out with ⟨hd, hgl⟩ | ⟨hd, hgl⟩
            · have HGC2 : Hid (Calls Try.prog 9 #[vu, .agg (pc c.rt.pre)] wr (GetPost wr (0, 6))) := by
                show Calls _ _ _ _ _
                rw [← hgl]; exact HGC.out
              rw [hd] at HF f2
              clear hgl hd
              go_wp2_with fail
              refine HGC2.out.mono ?_
              rintro e5 w5 ⟨rfl, h5⟩
              have HW5 := Lib.hid (HW2.out.trans (h5.mono HW2.out.size))
              clear f1 f2 f3 h5
              obtain ⟨f1, f2, f3⟩ := HF.out w5 HW5.out
              go_wp2
              go_roundw
              case rel => exact ⟨i + 1, by omega, by go_num, HW5⟩
              case measure => simp [intOf]; omega
            · have HGC2 : Hid (Calls Try.prog 9 #[vu, .agg (pc c.rt.pre)] wr (GetPost wr (d.rt.hop, 0))) := by
                show Calls _ _ _ _ _
                rw [← hgl]; exact HGC.out
              rw [hd] at HF f2
              clear hgl hd
              go_wp2_with fail
              refine HGC2.out.mono ?_
              rintro e5 w5 ⟨rfl, h5⟩
              have HW5 := Lib.hid (HW2.out.trans (h5.mono HW2.out.size))
              clear f1 f2 f3 h5
              obtain ⟨f1, f2, f3⟩ := HF.out w5 HW5.out
              go_wp2
              go_roundw
              case rel => exact ⟨i + 1, by omega, by go_num, HW5⟩
              case measure => simp [intOf]; omega
      · obtain rfl : i = nc := by omega
        go_wp2
        go_loopw [12] (fun i wr => ∃ i' : Nat, i' ≤ nl ∧ i = .int .i64 i' ∧ Hid (Below w3.heap.size w3 wr)) (fun i _ => nl - (intOf i).toNat)
        case atStart => exact ⟨0, Nat.zero_le _, rfl, HW⟩
        case round =>
          obtain ⟨k, hk, rfl, HW2⟩ := hrel
          by_cases hlk : k < nl
          · have hlkI : (k : Int) < nl := by omega
            have hk0 : (0 : Int) ≤ k := by omega
            obtain ⟨r, hrr⟩ : ∃ r, l[k]? = some r := ⟨l[k]'(by rw [← HNL.out]; exact hlk), List.getElem?_eq_getElem _⟩
            have HRR := Lib.hid hrr
            obtain ⟨at', rfl, -⟩ := rts_at HR.out hrr
            have HRA : Hid (∀ W, Below w3.heap.size w3 W → CellsAt W at' (fl l)) := fun W h => by
              obtain ⟨a2, e2, h2⟩ := rts_at (HR.out.later (BW.out W h)) hrr
              simp only [Option.some.injEq] at e2
              rw [e2]; exact h2
            clear hrr
            go_wp2
            go_loopw [13, 14] (fun b q wr => ∃ (b' : Bool) (q' : Nat), b = .bool b' ∧ q = .int .i64 q' ∧ q' ≤ i ∧ Hid (b' = false → ∀ m d, m < q' → cs[m]? = some d → d.rt.pre ≠ r.pre) ∧ Hid (Below w3.heap.size w3 wr)) (fun _ q _ => i - (intOf q).toNat)
            case atStart => exact ⟨false, 0, rfl, rfl, Nat.zero_le _, fun _ m d h => by omega, HW2⟩
            case round =>
              obtain ⟨b, q, rfl, rfl, hq, HNO, HW3⟩ := hrel
              by_cases hlq : q < i
              · have hlqI : (q : Int) < i := by omega
                have hq0 : (0 : Int) ≤ q := by omega
                obtain ⟨f, hff⟩ : ∃ f, cs[q]? = some f := ⟨cs[q]'(by rw [← HNC.out]; exact hlq), List.getElem?_eq_getElem _⟩
                obtain ⟨a', rfl, -⟩ := chs_at HC.out hff
                have hca : CellsAt wr a' (fc cs) := by
                  obtain ⟨a2, e2, h2⟩ := chs_at (HC.out.later (BW.out wr HW3.out)) hff
                  simp only [Option.some.injEq] at e2
                  rw [e2]; exact h2
                have hra := HRA.out wr HW3.out
                have l1 : ∀ k, (preLoad (a'.add (q * 20))).run Try.prog (wr.drewN k) = .ok (.agg (pc f.rt.pre)) (wr.drewN k) := fun k => run_preLoadA (fun j u hu => ch_pre (hca.change hff) j u hu)
                have l2 : ∀ n, (preLoad (at'.add (k * 19))).run Try.prog (wr.drewN n) = .ok (.agg (pc r.pre)) (wr.drewN n) := fun n => run_preLoadA (fun j u hu => (hra.route HRR.out).pre j u hu)
                have HFF := Lib.hid hff
                have le := run_preEql f.rt.pre r.pre
                clear hca hff hra
                cases b with
                | true =>
                  go_wp2
                  go_quiet (fail)
                  clear l1 l2 le
                  go_wp2
                  go_roundw
                  case rel => exact ⟨true, q + 1, rfl, by go_num, by omega, (fun h => by cases h), ⟨HW3.out.os, HW3.out.tape, HW3.out.output, HW3.out.size, HW3.out.block⟩⟩
                  case measure => simp [intOf]; omega
                | false =>
                  cases heq : preEq f.rt.pre r.pre with
                  | true =>
                    rw [heq] at le
                    clear heq
                    go_wp2
                    go_quiet (fail)
                    clear l1 l2 le
                    go_wp2
                    go_roundw
                    case rel => exact ⟨true, q + 1, rfl, by go_num, by omega, (fun h => by cases h), ⟨HW3.out.os, HW3.out.tape, HW3.out.output, HW3.out.size, HW3.out.block⟩⟩
                    case measure => simp [intOf]; omega
                  | false =>
                    rw [heq] at le
                    have HEQ : Hid (f.rt.pre ≠ r.pre) := fun e => by rw [e, preEq_refl] at heq; cases heq
                    clear heq
                    go_wp2
                    go_quiet (fail)
                    clear l1 l2 le
                    go_wp2
                    go_roundw
                    case rel => exact ⟨false, q + 1, rfl, by go_num, by omega, (fun _ m d h1 h2 => by
                      rcases Nat.lt_or_ge m q with h4 | h4
                      · exact HNO.out (by first | exact trivial | rfl) m d h4 h2
                      · obtain rfl : m = q := by omega
                        rw [HFF.out] at h2
                        simp only [Option.some.injEq] at h2
                        rw [← h2]; exact HEQ.out), ⟨HW3.out.os, HW3.out.tape, HW3.out.output, HW3.out.size, HW3.out.block⟩⟩
                    case measure => simp [intOf]; omega
              · obtain rfl : q = i := by omega
                have F : ∀ W, Below w3.heap.size w3 W → (preLoad (at'.add (k * 19))).run Try.prog W = .ok (.agg (pc r.pre)) W ∧ W.cell? ⟨(at'.add (k * 19)).block, (at'.add (k * 19)).off + 18, none⟩ = some (.int .u16 (r.hop : Nat)) := fun W h =>
                  ⟨run_preLoadA ((HRA.out W h).route HRR.out).pre, ((HRA.out W h).route HRR.out).hop⟩
                have HF := Lib.hid F
                have HGC := Lib.hid (HGET.out wr HW3.out r)
                obtain ⟨f1, f2⟩ := F wr HW3.out
                obtain ⟨gx, ge, hge⟩ : ∃ gx ge, getL u r.pre = (gx, ge) := ⟨_, _, rfl⟩
                have HGC2 : Hid (Calls Try.prog 9 #[vu, .agg (pc r.pre)] wr (GetPost wr (gx, ge))) := by
                  show Calls _ _ _ _ _
                  rw [← hge]; exact HGC.out
                have HGE := Lib.hid hge
                clear F hge HGC
                cases b with
                | true =>
                  go_wp2_with fail
                  refine HGC2.out.mono ?_
                  rintro e5 w5 ⟨rfl, h5⟩
                  have HW5 := Lib.hid (HW3.out.trans (h5.mono HW3.out.size))
                  clear f1 f2 h5
                  go_wp2
                  go_roundw
                  case rel => exact ⟨k + 1, by omega, by go_num, HW5⟩
                  case measure => simp [intOf]; omega
                | false =>
                  have hg2 : gx = r.hop ∧ ge = 0 := by
                    have hr2 := (HB.out.other r (fun d hd => by
                      obtain ⟨m, hm⟩ := List.mem_iff_getElem?.1 hd
                      exact HNO.out (by first | exact trivial | rfl) m d (by rw [HNC.out]; exact (List.getElem?_eq_some_iff.1 hm).1) hm)).2 (List.mem_of_getElem? HRR.out)
                    have := HGE.out
                    rw [get_mem HGU.out.1 HGU.out.2 hr2] at this
                    simp only [Prod.mk.injEq] at this
                    exact ⟨this.1.symm, this.2.symm⟩
                  obtain ⟨g1, g2⟩ := hg2
                  subst g1
                  subst g2
                  go_wp2_with fail
                  refine HGC2.out.mono ?_
                  rintro e5 w5 ⟨rfl, h5⟩
                  have HW5 := Lib.hid (HW3.out.trans (h5.mono HW3.out.size))
                  clear f1 f2 h5
                  obtain ⟨f1, f2⟩ := HF.out w5 HW5.out
                  go_wp2
                  go_roundw
                  case rel => exact ⟨k + 1, by omega, by go_num, HW5⟩
                  case measure => simp [intOf]; omega
          · obtain rfl : k = nl := by omega
            have HRT : Hid (∀ W, Below w3.heap.size w3 W → Calls Try.prog 14 #[vu] W fun e w' => e = .returned (.bool true) ∧ Below W.heap.size W w') := fun W h => by
              have := right_any u vu W (RU.out.later h)
              rw [(right_iff u).2 ⟨HGU.out.2, HGU.out.1⟩] at this; exact this
            have HSO : Hid (∀ W, Below w3.heap.size w3 W → Calls Try.prog 16 #[vu] W (SortPost W u)) := fun W h => sort_any u vu W (RU.out.later h) (by have := HGU.out.2; omega)
            have HUN : Hid (∀ W, Below w3.heap.size w3 W → Calls Try.prog 12 #[vu, .agg (pc shortP)] W (ListPost W (shortL u))) := fun W h => by
              rw [← under_short HGU.out.1 HGU.out.2]; exact under_any u shortP zkey_bytes vu W (RU.out.later h)
            have HSH : Hid (∀ W, Below w3.heap.size w3 W → Calls Try.prog 24 #[vu] W (ListPost W (shortL u))) := fun W h => short_any u HGU.out.2 vu W (RU.out.later h)
            have hsl : Hid ((shortL u).length ≤ 65536) := by
              show _ ≤ _
              have h1 := HGU.out.2
              have h2 : (shortL u).length ≤ u.length := List.length_filter_le _ _
              omega
            have bd := run_short
            go_wp2_with fail
            refine (HRT.out wr HW2.out).mono ?_
            rintro e5 w5 ⟨rfl, h5⟩
            have D5 := Lib.hid (HW2.out.trans (h5.mono HW2.out.size))
            clear h5
            go_wp2_with fail
            refine (HSO.out w5 D5.out).mono ?_
            rintro e6 w6 ⟨v6, out, rfl, o6, s6, h6⟩
            have D6 := Lib.hid (D5.out.trans (h6.mono D5.out.size))
            have eo := sort_good HGU.out.1 s6
            have R6 : Hid (Rd w6 v6 u) := by rw [← eo]; exact o6.rd
            clear h6 o6 s6 eo
            go_wp2_with fail
            refine (HS.out w6 _ _ u R6.out (RU.out.later D6.out) (by have := HGU.out.2; omega)).mono ?_
            rintro e7 w7 ⟨rfl, h7⟩
            have D7 := Lib.hid (D6.out.trans (h7.mono D6.out.size))
            clear h7 R6
            go_wp2_with fail
            refine (HUN.out w7 D7.out).mono ?_
            rintro e8 w8 ⟨v8, rfl, o8, h8⟩
            have D8 := Lib.hid (D7.out.trans (h8.mono D7.out.size))
            have R8 := Lib.hid o8.rd
            clear h8 o8
            go_wp2_with fail
            refine (HSH.out w8 D8.out).mono ?_
            rintro e9 w9 ⟨v9, rfl, o9, h9⟩
            have D9 := Lib.hid (D8.out.trans (h9.mono D8.out.size))
            have R9 := Lib.hid o9.rd
            have R89 := Lib.hid (R8.out.later h9)
            clear h9 o9 R8
            go_wp2_with fail
            refine (HS.out w9 _ _ (shortL u) R89.out R9.out hsl.out).mono ?_
            rintro e10 w10 ⟨rfl, h10⟩
            have FIN := Lib.hid (BW.out w10 (D9.out.trans (h10.mono D9.out.size)))
            clear h10 bd
            go_wp2
            go_ret
            exact ⟨rfl, FIN.out⟩
end Go.Proofs.Ytcpdpcfejpbdpaa.tableChanges
