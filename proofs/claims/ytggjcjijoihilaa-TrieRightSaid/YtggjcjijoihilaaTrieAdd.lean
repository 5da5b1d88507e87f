/- (*builder).add: a route put into what is being made. -/
import Derived.Test.YtggjcjijoihilaaTrieBits
import Derived.Test.YtggjcjijoihilaaKeyStep
import Derived.BigRegion
namespace Go.Proofs.Ytggjcjijoihilaa
open Go.RowKit Go.Sort Go.Shelf
attribute [local go_sem ↓] loadVar_key loadVar_pre loadVar_route storeVar_pre storeVar_route storeVar_slot

def AddPost (w : World) (B base : Nat) (bits : Int) (T : Tr) (r : Rt) (e : Ending) (w' : World) : Prop :=
  e = .returned (.bool (decide ((T.addR r).ws.length ≤ 512))) ∧ ((T.addR r).ws.length ≤ 512 → ∃ v', Bui w' B base bits v' (T.addR r).nodes) ∧ Eff base w w'

theorem key_box {w : World} {b : Nat} {r : Rt} (h : w.heap[b]? = some (.cells (rc r) 34 (0, 0))) : (keyLoad ⟨b, 2, none⟩).run Try.prog w = .ok (.agg (kc r.pre.key)) w :=
  run_keyLoad fun j u hu => by
    have hj : j < 16 := by have := (Array.getElem?_eq_some_iff.1 hu).1; rw [kc_size] at this; exact this
    rw [cell_of h, rc_pre r (2 + j) (by omega)]
    rw [kc_at _ _ hj] at hu
    rw [← hu]
    have h2 := pc_key r.pre
    have h3 : ((pc r.pre).extract 2 18)[j]? = (pc r.pre)[2 + j]? := by rw [Array.getElem?_extract, if_pos (by rw [pc_size]; omega)]
    rw [← h3, h2, kc_at _ _ hj]

set_option maxHeartbeats 4000000 in
set_option maxRecDepth 100000 in
theorem add_any (B base : Nat) (bits : Int) (T : Tr) (hT : T.Ok) (hl : T.ws.length ≤ 512) (r : Rt) (hm : mayB r.pre = true) (v : Value) (w : World) (hB : Bui w B base bits v T.nodes) (hbw : base ≤ w.heap.size) :
    Calls Try.prog 56 #[.pointer (some ⟨B, 0, none⟩), .agg (rc r)] w (AddPost w B base bits T r) := by
  obtain ⟨m1, m2, m3, m4⟩ := (mayB_iff r.pre r.hk).1 hm
  have hw0 : Below w.heap.size w (w.alloc (.cells (rc r) 34)) := (Below.refl _ _).alloc (Nat.le_refl _) _
  have hx0 : (w.alloc (.cells (rc r) 34)).heap[w.heap.size]? = some (.cells (rc r) 34 (0, 0)) := Go.heap_alloc_new w _
  have hE0 : Eff base w (w.alloc (.cells (rc r) 34)) := Eff.below hw0 hbw
  have hB0 := hB.later hw0
  obtain ⟨l, hlen⟩ : ∃ l : Nat, r.pre.len = l := ⟨r.pre.len.toNat, by omega⟩
  have hl128 : l ≤ 128 := by omega
  have hc1 : (w.alloc (.cells (rc r) 34)).cell? ⟨w.heap.size, 1, none⟩ = some (.int .i64 (l : Nat)) := by rw [cell_of hx0, rc_pre r 1 (by omega), pc_len, hlen]
  obtain ⟨q, hq⟩ : ∃ q, q = lastN r := ⟨_, rfl⟩
  have hq2 : q = (l - 1) / 4 := by rw [hq]; unfold lastN; rw [hlen]; simp
  have hmax : max ((l : Int) - 1) 0 = ((l - 1 : Nat) : Int) := by omega
  have hquo : Int.tdiv ((l - 1 : Nat) : Int) 4 = (q : Nat) := by rw [hq2]; rfl
  unfold AddPost
  have HX0 := Lib.hid hx0
  have HE0 := Lib.hid hE0
  have HB0 := Lib.hid hB0
  have HQ := Lib.hid hq
  have HQ2 := Lib.hid hq2
  have HT := Lib.hid hT
  have HL := Lib.hid hl
  have HLEN := Lib.hid hlen
  have hlI : (l : Int) ≤ 128 := by omega
  have hl0 : (0 : Int) ≤ l := by omega
  have hq31 : q ≤ 31 := by clear hmax hquo; omega
  have hqI : (q : Int) ≤ 31 := by clear hmax hquo; omega
  have hq0 : (0 : Int) ≤ q := by clear hmax hquo; omega
  have hwq : wrap64 (q : Int) = (q : Int) := by clear hmax hquo; unfold wrap64; omega
  have hrm := nib_room r hm q l hq hq2 hlen
  have HRM := Lib.hid hrm
  have hcs := many_c _ q l hq2 hl128 (many_is r q l hq hlen)
  have HCS := Lib.hid hcs
  have HK := Lib.hid (fun (s : Nat) (hs : s < 32) (W : World) => (by have h := step_any r.pre.key s W r.hk; rw [stepZ_nib _ hs] at h; exact h : Calls Try.prog 61 #[.agg (kc r.pre.key), .int .i64 s] W fun e w' => e = .returned (.int .i64 (nib r.pre.key s : Nat)) ∧ Below W.heap.size W w'))
  obtain ⟨W0, hW0⟩ : ∃ W0, w.alloc (.cells (rc r) 34) = W0 := ⟨_, rfl⟩
  rw [hW0] at HX0 HE0 HB0
  have HW0 := Lib.hid hW0
  have HLK : Hid (∀ W, Eff base W0 W → (keyLoad ⟨w.heap.size, 2, none⟩).run Try.prog W = .ok (.agg (kc r.pre.key)) W ∧ W.cell? ⟨w.heap.size, 1, none⟩ = some (.int .i64 (l : Nat)) ∧ W.cell? ⟨w.heap.size, 18, none⟩ = some (.int .u16 (r.hop : Nat))) := fun W h => by
    have hx := h.oth _ _ _ (by decide) (by decide) HX0.out
    exact ⟨key_box hx, by rw [cell_of hx, rc_pre r 1 (by omega), pc_len, HLEN.out], by rw [cell_of hx, rc_hop]⟩
  have HBW : Hid (base ≤ W0.heap.size) := by rw [← hW0]; show _ ≤ _; simp; omega
  clear hw0 hx0 hE0 hB0 hq hq2 hT hl hlen hB m1 m2 m3 m4 hW0 hcs hm hrm
  go_enter Try.func56, Try.ntmps56
  go_wp2
  go_region
  rw [HW0.out]
  go_wp2
  clear hc1 hmax hquo
  go_loopw [5, 7, 18] (fun at' _ t18 wr => ∃ s : Nat, s ≤ q ∧ t18 = .int .i64 s ∧ at' = .int .i64 (idx0 (T.along r.pre.key s).ws (pathN r.pre.key s) : Nat) ∧ Hid ((T.along r.pre.key s).ws.length ≤ 512) ∧ Hid (∃ v, Bui wr B base bits v (T.along r.pre.key s).nodes) ∧ Hid (Eff base W0 wr)) (fun _ _ t18 _ => q - (intOf t18).toNat)
  case atStart =>
    refine ⟨0, Nat.zero_le _, rfl, ?_, HL.out, ⟨v, HB0.out.later (Below.refl _ _).drew⟩, (Eff.refl _ _).drew⟩
    have h0 : idx0 T.ws [] = 0 := idx_at HT.out.nodup HT.out.root
    show _ = Value.int .i64 ((idx0 T.ws [] : Nat) : Int)
    rw [h0]; rfl
  case round =>
    obtain ⟨s, hs, rfl, rfl, HLS, HBS, HES⟩ := hrel
    obtain ⟨hok, hmem⟩ := HT.out.along r.pre.key s
    obtain ⟨v1, hb1⟩ := HBS.out
    have hidx := idx_lt hmem
    obtain ⟨i, hi⟩ : ∃ i, idx0 (T.along r.pre.key s).ws (pathN r.pre.key s) = i := ⟨_, rfl⟩
    rw [hi] at hidx ⊢
    have hi0 : (0 : Int) ≤ i := by omega
    have hi512 : (i : Int) ≤ 512 := by have := HLS.out; omega
    have hs0 : (0 : Int) ≤ s := by omega
    by_cases hlt : s < q
    · have hltI : (s : Int) < q := by omega
      obtain ⟨lk, -, -⟩ := HLK.out wr HES.out
      have hnx := hok.next (b := nib r.pre.key s) hmem HLS.out
      rw [← pathN_succ, hi] at hnx
      have hst : (T.along r.pre.key s).step (pathN r.pre.key (s + 1)) = T.along r.pre.key (s + 1) := rfl
      rw [hst] at hnx
      have hcall := fun w1 (h1 : Below wr.heap.size wr w1) => next_any B base bits v1 _ w1 (hb1.later h1) i (nib r.pre.key s) (by rw [Tr.nodes_length]; exact hidx) (nib_lt r.hk s) (by rw [Tr.nodes_length]; exact HLS.out)
      have C1 := Lib.hid (HK.out s (by omega) wr)
      have HHB : Hid (base ≤ wr.heap.size) := Nat.le_trans HBW.out HES.out.bel.size
      by_cases hfit : (T.along r.pre.key (s + 1)).ws.length ≤ 512
      · have hne := hnx.2 hfit
        rw [hnx.1, if_pos hfit] at hcall
        have C2 := Lib.hid hcall
        have hz : ((idx0 (T.along r.pre.key (s + 1)).ws (pathN r.pre.key (s + 1)) : Int) == 0) = false := by rw [beq_eq_false_iff_ne]; omega
        have HFIT : Hid ((T.along r.pre.key (s + 1)).ws.length ≤ 512) := hfit
        clear hnx hcall hne hok hmem hb1 hidx hi hst hfit
        unfold NextPost at C2
        go_wp2_with fail
        refine C1.out.mono ?_
        rintro e1 w1 ⟨rfl, h1⟩
        have H1 := Lib.hid h1
        clear h1 lk
        go_wp2_with fail
        refine (C2.out w1 H1.out).mono ?_
        rintro e2 w2 ⟨rfl, v2, hb2, he2⟩
        have HB2 := Lib.hid hb2
        have HE2 := Lib.hid (HES.out.trans ((Eff.below H1.out HHB.out).trans he2))
        clear hb2 he2
        go_wp2
        go_roundw
        case rel => exact ⟨s + 1, by omega, by go_num, rfl, HFIT, ⟨v2, HB2.out⟩, HE2⟩
        case measure => simp [intOf]; omega
      · rw [hnx.1, if_neg hfit] at hcall
        have C2 := Lib.hid hcall
        have HNO : Hid (decide ((T.addR r).ws.length ≤ 512) = false) := by
          show _ = _
          rw [decide_eq_false_iff_not]
          have h1 := T.along_mono r.pre.key (s := s + 1) (u := q) (by omega)
          rw [HQ.out] at h1
          have h2 : (T.addR r).ws.length = (T.along r.pre.key (lastN r)).ws.length := rfl
          omega
        have HNF : Hid (¬ (T.addR r).ws.length ≤ 512) := of_decide_eq_false HNO.out
        clear hnx hcall hok hmem hb1 hidx hi hst hfit
        unfold NextPost at C2
        go_wp2_with fail
        refine C1.out.mono ?_
        rintro e1 w1 ⟨rfl, h1⟩
        have H1 := Lib.hid h1
        clear h1 lk
        go_wp2_with fail
        refine (C2.out w1 H1.out).mono ?_
        rintro e2 w2 ⟨rfl, v2, -, he2⟩
        have HE2 := Lib.hid (HE0.out.trans (HES.out.trans ((Eff.below H1.out HHB.out).trans he2)))
        clear he2
        go_wp2
        go_ret
        exact ⟨by rw [HNO.out]; rfl, fun h => absurd h HNF.out, HE2.out⟩
    · obtain rfl : s = q := by omega
      obtain ⟨lk, lc, lh⟩ := HLK.out wr HES.out
      have C1 := Lib.hid (HK.out s (by omega) wr)
      obtain ⟨c, hc4, hcl, hcm0⟩ := HCS.out
      have HCM := Lib.hid hcm0
      clear hcm0
      have hcI : 4 * ((s : Int) + 1) = (l : Int) + c := by omega
      have HHB : Hid (base ≤ wr.heap.size) := Nat.le_trans HBW.out HES.out.bel.size
      clear hok hmem hb1 hidx lc lh
      go_wp2_with fail
      refine C1.out.mono ?_
      rintro e1 w1 ⟨rfl, h1⟩
      have H1 := Lib.hid h1
      have HE1 := Lib.hid (HES.out.trans (Eff.below H1.out HHB.out))
      clear h1 lk
      obtain ⟨lk, lc, lh⟩ := HLK.out w1 HE1.out
      go_wp2
      obtain ⟨M, hM⟩ : ∃ M, manyN r = M := ⟨_, rfl⟩
      have hpow : wrap64 ((2 : Int) ^ (l + c - l)) = ((M : Nat) : Int) := by
        rw [← hM, HCM.out, show l + c - l = c by omega]
        exact pow_wrap hc4
      rw [hpow]
      clear hpow
      have hM16 : M ≤ 16 := by rw [← hM, HCM.out]; exact pow_le hc4
      have hroom : nib r.pre.key s + M ≤ 16 := by rw [← hM]; exact HRM.out
      have HMM := Lib.hid hM
      obtain ⟨f, hf⟩ : ∃ f, nib r.pre.key s = f := ⟨_, rfl⟩
      rw [hf] at hroom ⊢
      have HFF := Lib.hid hf
      have HSQ : Hid (s = lastN r) := HQ.out
      have hM0 : (M : Int) ≤ 16 := by omega
      have hf0 : (0 : Int) ≤ f := by omega
      have hf16 : (f : Int) ≤ 16 := by omega
      obtain ⟨v1, hb1⟩ := HBS.out
      obtain ⟨hok, hmem⟩ := HT.out.along r.pre.key s
      have hat := at_idx hmem
      rw [hi] at hat
      obtain ⟨T1, hT1⟩ : ∃ T1, T.along r.pre.key s = T1 := ⟨_, rfl⟩
      obtain ⟨p, hp⟩ : ∃ p, pathN r.pre.key s = p := ⟨_, rfl⟩
      rw [hT1] at hb1 hok hat HLS
      rw [hp] at hat
      have HOK := Lib.hid hok
      have HAT := Lib.hid hat
      have HT1 := Lib.hid hT1
      have HPP := Lib.hid hp
      have HB1 := Lib.hid (hb1.later H1.out)
      clear hM hf hb1 hok hmem hat hT1 hp hi lk lc lh hcl hcI
      go_loopw [10, 46] (fun _ t46 wr => ∃ j : Nat, j ≤ M ∧ t46 = .int .i64 j ∧ Hid (∃ v, Bui wr B base bits v (T1.put p f j (l + 1, r.hop)).nodes) ∧ Hid (Eff base W0 wr)) (fun _ t46 _ => M - (intOf t46).toNat)
      case atStart => exact ⟨0, Nat.zero_le _, rfl, ⟨v1, by rw [Tr.put_zero]; exact HB1.out⟩, HE1.out⟩
      case round =>
        obtain ⟨j, hj, rfl, HBJ, HEJ⟩ := hrel
        have hj0 : (0 : Int) ≤ j := by omega
        by_cases hjM : j < M
        · have hjI : (j : Int) < M := by omega
          obtain ⟨v2, hb2⟩ := HBJ.out
          have hnode : (T1.put p f j (l + 1, r.hop)).nodes[i]? = some ((T1.put p f j (l + 1, r.hop)).node p) := Tr.nodes_at _ HAT.out
          have hil := (List.getElem?_eq_some_iff.1 hnode).1
          obtain ⟨g, cap, hv, hg1, hg2⟩ := hb2.own.form (by omega)
          obtain ⟨ns, hns⟩ : ∃ ns, (T1.put p f j (l + 1, r.hop)).nodes = ns := ⟨_, rfl⟩
          obtain ⟨n, hn⟩ : ∃ n, (T1.put p f j (l + 1, r.hop)).node p = n := ⟨_, rfl⟩
          rw [hns] at hb2 hnode hil hv
          rw [hn] at hnode
          rw [hv] at hb2
          have hset := hb2.set2 hnode (n' := n.setSl (f + j) (l + 1, r.hop)) (j := 2 * (f + j)) (j' := 2 * (f + j) + 1) (by omega) (by omega) _ _ (ndl_setSl n (l + 1, r.hop) (by omega))
          have hc1 : wr.cell? ⟨B, 1, none⟩ = some (.slice (some ⟨g, 0, none⟩) ns.length cap) := by rw [cell_of hb2.box]; rfl
          have hod : wr.drew.ownsRow base 104 48 (.slice (some ⟨g, 0, none⟩) ns.length cap) ns.length (fn ns) := hb2.own.drew
          obtain ⟨ho2, -⟩ := World.ownsRow.stored hod (i * 48 + (f + j) * 2) (.int .i64 ((l : Int) + 1))
          have hl48 : i * 48 + 48 ≤ ns.length * 48 := by have := hil; omega
          have hfA := hod.frozenAt (i * 48 + (f + j) * 2)
          have hfB := ho2.frozenAt (i * 48 + (f + j) * 2 + 1)
          have hcA : wr.drew.cell? ⟨g, i * 48 + (f + j) * 2, none⟩ = some (ndC n ((f + j) * 2)) := by rw [hod.cellAt _ (by omega), fn_at hnode (by omega)]
          have hcB : (wr.drew.setCell ⟨g, i * 48 + (f + j) * 2, none⟩ (.int .i64 ((l : Int) + 1))).cell? ⟨g, i * 48 + (f + j) * 2 + 1, none⟩ = some (ndC n ((f + j) * 2 + 1)) := by
            rw [ho2.cellAt _ (by omega), List.getElem?_set, if_neg (by omega), Nat.add_assoc, fn_at hnode (by omega)]
          have hst := run_slotStore (x := (l : Int) + 1) (y := (r.hop : Int)) hcA hfA hcB hfB
          have hwf : IntKind.i64.wrap ((f : Int) + j) = ((f + j : Nat) : Int) := by rw [IntKind.wrap_i64]; omega
          obtain ⟨lk, lc, lh⟩ := HLK.out wr HEJ.out
          have hilI : (i : Int) < ns.length := by omega
          have HNS := Lib.hid hns
          have HNN := Lib.hid hn
          have HSET : Hid (Bui ((wr.setCell ⟨g, i * 48 + (f + j) * 2, none⟩ (.int .i64 ((l : Int) + 1))).setCell ⟨g, i * 48 + (f + j) * 2 + 1, none⟩ (.int .u16 (r.hop : Int))).drew B base bits (.slice (some ⟨g, 0, none⟩) (ns.set i (n.setSl (f + j) (l + 1, r.hop))).length cap) (ns.set i (n.setSl (f + j) (l + 1, r.hop))) ∧ Eff base wr ((wr.setCell ⟨g, i * 48 + (f + j) * 2, none⟩ (.int .i64 ((l : Int) + 1))).setCell ⟨g, i * 48 + (f + j) * 2 + 1, none⟩ (.int .u16 (r.hop : Int))).drew) := by
            show _ ∧ _
            rw [show 2 * (f + j) = (f + j) * 2 by omega, ← Nat.add_assoc] at hset
            exact ⟨⟨hset.1.box, hset.1.own, hset.1.le⟩, hset.2.drew⟩
          clear hset hns hn hnode hb2 hv hod ho2 hcA hcB hfA hfB
          go_wp2
          go_region
          go_wp2
          go_roundw
          case rel => exact ⟨j + 1, by omega, by go_num, ⟨_, by rw [HOK.out.put_nodes HAT.out, HNS.out, HNN.out]; exact HSET.out.1⟩, HEJ.out.trans HSET.out.2⟩
          case measure => simp [intOf]; omega
        · obtain rfl : j = M := by omega
          go_wp2
          go_ret
          have e : T.addR r = T1.put p f j (l + 1, r.hop) := by
            unfold Tr.addR
            rw [← HSQ.out, HT1.out, HPP.out, HFF.out, HMM.out, HLEN.out, Int.toNat_natCast]
          have h5 : (T.addR r).ws.length ≤ 512 := by rw [e]; exact HLS.out
          rw [decide_eq_true h5, e]
          exact ⟨rfl, fun _ => HBJ.out, HE0.out.trans HEJ.out⟩
end Go.Proofs.Ytggjcjijoihilaa
