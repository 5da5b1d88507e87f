/- The statement TrieMore, walked: every call of it hands back true. -/
import Derived.Test.YtjppingppdmeoaaTrieSame
import Derived.Test.YtjppingppdmeoaaTMoreP
namespace Go.Proofs.Ytjppingppdmeoaa.trieMore
open Go.RowKit Go.Sort Go.Shelf
attribute [local go_sem ↓] loadVar_key loadVar_pre loadVar_route storeVar_pre storeVar_route build_change buildSlice_chs loadVar_trie storeVar_trie

theorem slice_of {w : World} {base : Nat} {v : Value} {ns : List Nd} (h : OwnN w base v ns) : v.oneCell' = true := by
  rcases h.2 with ⟨h1, h2⟩ | ⟨g, cap, cur, h1, -⟩
  · rw [h1]; rfl
  · rw [h1]; rfl
theorem build_zero {l : List Rt} {bits : Int} (h : (buildL l bits).2.2 = 0) : rightB l = true ∧ mayB (keysP bits) = true ∧ (treeL l bits).ws.length ≤ 512 ∧ buildL l bits = (bits, (treeL l bits).nodes, 0) := by
  unfold buildL at h ⊢
  by_cases h1 : rightB l = true ∧ mayB (keysP bits) = true
  · rw [if_pos h1] at h ⊢
    by_cases h2 : (treeL l bits).ws.length ≤ 512
    · rw [if_pos h2]; exact ⟨h1.1, h1.2, h2, rfl⟩
    · rw [if_neg h2] at h; simp at h
  · rw [if_neg h1] at h; simp at h
/-- What Find hands back of a table's trie is what the table's Best does. -/
theorem find_best {l : List Rt} (hr : rightB l = true) (hl : l.length ≤ 256) {k : Nat → Nat} (hk : Bytes16 k) {bits : Int} {x : Rt} {e : Int} (he : bestL l k bits = (x, e)) {w : World} {en : Ending} {w' : World} (h : FindPost w (treeL l bits) k bits en w') :
    en = .returned (.tuple #[.int .i64 x.pre.len, .int .u16 x.hop, .int .i64 e]) ∧ Below w.heap.size w w' := by
  obtain ⟨hb, ⟨h1, h2⟩ | ⟨h1, m, hm, h2⟩⟩ := h
  · rw [best_zero hr h1] at he
    simp only [Prod.mk.injEq] at he
    obtain ⟨rfl, rfl⟩ := he
    exact ⟨h2, hb⟩
  · obtain ⟨n, hn, hf⟩ := tree_best ((right_iff l).1 hr).2 hl hk h1 hm
    rw [he] at hn hf
    rw [hf] at h2
    refine ⟨?_, hb⟩
    rw [h2]
    show _ = Ending.returned (.tuple #[.int .i64 x.pre.len, _, _])
    rw [show x.pre.len = (n : Int) from hn]

/-- The two answers, as the document asks. -/
def Cases (r : Rt) (k : Nat → Nat) (bits : Int) (x1 x2 : Rt) (e1 e2 : Int) (na nb : List Nd) : Prop :=
  (r.pre.bits ≠ bits ∧ x2 = x1 ∧ e2 = e1 ∧ nb = na) ∨ (r.pre.bits = bits ∧ fitsB r.pre k = false ∧ x2 = x1 ∧ e2 = e1) ∨
  (r.pre.bits = bits ∧ fitsB r.pre k = true ∧ e1 = 0 ∧ r.pre.len < x1.pre.len ∧ x2 = x1 ∧ e2 = e1) ∨
  (r.pre.bits = bits ∧ fitsB r.pre k = true ∧ ¬ (e1 = 0 ∧ r.pre.len < x1.pre.len) ∧ x2 = r ∧ e2 = 0)
theorem cases_of {l u : List Rt} {r : Rt} (h : Good l) (hl : l.length ≤ 256) (hu : More l r u) {k : Nat → Nat} (hk : Bytes16 k) {bits : Int} {x1 x2 : Rt} {e1 e2 : Int} (h1 : bestL l k bits = (x1, e1)) (h2 : bestL u k bits = (x2, e2)) :
    Cases r k bits x1 x2 e1 e2 (treeL l bits).nodes (treeL u bits).nodes := by
  have eqs : bestL u k bits = bestL l k bits → x2 = x1 ∧ e2 = e1 := fun e => by
    rw [h1, h2] at e; simpa using e
  by_cases hb : r.pre.bits = bits
  · cases hf : fitsB r.pre k with
    | false =>
      obtain ⟨a, b⟩ := eqs (more_other h hl hu hk (.inr hf))
      exact .inr (.inl ⟨hb, hf, a, b⟩)
    | true =>
      by_cases hc : e1 = 0 ∧ r.pre.len < x1.pre.len
      · obtain ⟨rfl, hlt⟩ := hc
        obtain ⟨a, b⟩ := eqs (more_long h hl hu hk h1 hlt)
        exact .inr (.inr (.inl ⟨hb, hf, rfl, hlt, a, b⟩))
      · have := more_new h hl hu hk hb hf (by
          rw [h1]; intro e; simp only at e ⊢
          rcases Int.lt_or_le r.pre.len x1.pre.len with h3 | h3
          · exact absurd ⟨e, h3⟩ hc
          · exact h3)
        rw [h2] at this
        simp only [Prod.mk.injEq] at this
        exact .inr (.inr (.inr ⟨hb, hf, hc, this.1, this.2⟩))
  · obtain ⟨a, b⟩ := eqs (more_other h hl hu hk (.inl hb))
    exact .inl ⟨hb, a, b, by rw [hu.tree bits hb]⟩

set_option maxHeartbeats 4000000 in
set_option maxRecDepth 100000 in
theorem walk (l : List Rt) (r : Rt) (k : Nat → Nat) (hk0 : Bytes16 k) (bits : Int) (v : Value) (w : World) (hR : Rd w v l) (hl : l.length ≤ 60) (hr : rightB l = true) :
    Calls Try.prog 7 #[v, .agg (rc r), .agg (kc k), .int .i64 bits] w fun e w' => e = .returned (.bool true) ∧ Below w.heap.size w w' := by
  have hb1 : Below w.heap.size w (w.alloc (.cells (rc r) 34)) := (Below.refl _ _).alloc (Nat.le_refl _) _
  have hb0 : Below w.heap.size w ((w.alloc (.cells (rc r) 34)).alloc (.cells (kc k) 24)) := hb1.alloc (by simp) _
  have hz0 : ((w.alloc (.cells (rc r) 34)).alloc (.cells (kc k) 24)).heap.size = w.heap.size + 2 := by simp
  have hz1 : (w.alloc (.cells (rc r) 34)).heap.size = w.heap.size + 1 := by simp
  have hrr := (newRoute w r).below (B := w.heap.size + 1) (w' := (w.alloc (.cells (rc r) 34)).alloc (.cells (kc k) 24)) (by rw [← hz1]; exact (Below.refl _ _).alloc (Nat.le_refl _) _) (by simp)
  have rk := rowAt_new (w.alloc (.cells (rc r) 34)) (kc k) 24
  rw [hz1] at rk
  obtain ⟨W0, hW0⟩ : ∃ W0, (w.alloc (.cells (rc r) 34)).alloc (.cells (kc k) 24) = W0 := ⟨_, rfl⟩
  rw [hW0] at hb0 hz0 hrr rk
  have T : ∀ W, Below W0.heap.size W0 W → (keyLoad ⟨w.heap.size + 1, 0, none⟩).run Try.prog W = .ok (.agg (kc k)) W ∧ (routeLoad ⟨w.heap.size, 0, none⟩).run Try.prog W = .ok (.agg (rc r)) W ∧ (preLoad ⟨w.heap.size, 0, none⟩).run Try.prog W = .ok (.agg (pc r.pre)) W ∧ W.cell? ⟨w.heap.size, 0, none⟩ = some (.int .i64 r.pre.bits) ∧ W.cell? ⟨w.heap.size, 1, none⟩ = some (.int .i64 r.pre.len) ∧ W.cell? ⟨w.heap.size, 18, none⟩ = some (.int .u16 r.hop) ∧ Rd W v l ∧ Below w.heap.size w W := fun W h => by
    have hc := hrr.below h (by rw [hz0]; show w.heap.size < _; omega)
    have hwb := hb0.trans (h.mono (by rw [hz0]; omega))
    refine ⟨run_keyLoad (rk.below h (by rw [hz0]; omega)), run_routeLoad hc, run_preLoadA hc.pre, ?_, ?_, ?_, hR.later hwb, hwb⟩
    · exact hc 0 (.int .i64 r.pre.bits) (by unfold rl pc; rfl)
    · exact hc 1 (.int .i64 r.pre.len) (by unfold rl pc; rfl)
    · exact hc 18 (.int .u16 r.hop) (by unfold rl pc; rfl)
  have HT := Lib.hid T
  have H1 := Lib.hid (awake4_any W0)
  have H2 : Hid (∀ W, Rd W v l → Calls Try.prog 15 #[v] W fun e w' => e = .returned (.bool true) ∧ Below W.heap.size W w') := fun W h => by
    have := right_any l v W h
    rw [hr] at this; exact this
  have hg := ((right_iff l).1 hr).2
  obtain ⟨u, eu, hu⟩ : ∃ u eu, applyL l [⟨r, false⟩] = (u, eu) := ⟨_, _, rfl⟩
  have H3 : Hid (∀ W vc, Rd W v l → RdC W vc [⟨r, false⟩] → Calls Try.prog 12 #[v, vc] W (ApplyPost W (u, eu))) := fun W vc h1 h2 => by
    rw [← hu]; exact apply_any l [⟨r, false⟩] v vc W h1 h2 (by omega) (by simp)
  obtain ⟨ba, na, ea, ha⟩ : ∃ ba na ea, buildL l bits = (ba, na, ea) := ⟨_, _, _, rfl⟩
  obtain ⟨bb, nb, eb, hbu⟩ : ∃ bb nb eb, buildL u bits = (bb, nb, eb) := ⟨_, _, _, rfl⟩
  have H4 : Hid (∀ W, Rd W v l → Calls Try.prog 25 #[v, .int .i64 bits] W (BuildPost W (ba, na, ea))) := fun W h => by
    have := build_any l bits v W h
    rw [ha] at this; exact this
  have H5 : Hid (∀ W q, Rd W q u → Calls Try.prog 25 #[q, .int .i64 bits] W (BuildPost W (bb, nb, eb))) := fun W q h => by
    have := build_any u bits q W h
    rw [hbu] at this; exact this
  unfold BuildPost at H4 H5
  unfold ApplyPost at H3
  -- where all three come off
  have hgood : eu = 0 ∧ ea = 0 ∧ eb = 0 → ∃ x1 x2 e1 e2, ba = bits ∧ bb = bits ∧ na.length ≤ 512 ∧ Cases r k bits x1 x2 e1 e2 na nb ∧
      (∀ W q base, OwnN W base q na → Calls Try.prog 29 #[.agg (tc bits q), .agg (kc k)] W fun en w' => en = .returned (.tuple #[.int .i64 x1.pre.len, .int .u16 x1.hop, .int .i64 e1]) ∧ Below W.heap.size W w') ∧
      (∀ W q base, OwnN W base q nb → Calls Try.prog 29 #[.agg (tc bits q), .agg (kc k)] W fun en w' => en = .returned (.tuple #[.int .i64 x2.pre.len, .int .u16 x2.hop, .int .i64 e2]) ∧ Below W.heap.size W w') := by
    rintro ⟨rfl, rfl, rfl⟩
    obtain ⟨-, k1, f1, q1⟩ := build_zero (l := l) (bits := bits) (by rw [ha])
    obtain ⟨ru, k2, f2, q2⟩ := build_zero (l := u) (bits := bits) (by rw [hbu])
    rw [ha] at q1
    rw [hbu] at q2
    simp only [Prod.mk.injEq, and_true] at q1 q2
    have hm := more_is hg (by omega) r (by rw [hu])
    rw [hu] at hm
    obtain ⟨x1, e1, hx1⟩ : ∃ x e, bestL l k bits = (x, e) := ⟨_, _, rfl⟩
    obtain ⟨x2, e2, hx2⟩ : ∃ x e, bestL u k bits = (x, e) := ⟨_, _, rfl⟩
    refine ⟨x1, x2, e1, e2, q1.1, q2.1, ?_, ?_, fun W q base h => ?_, fun W q base h => ?_⟩
    · rw [q1.2, Tr.nodes_length]; exact f1
    · rw [q1.2, q2.2]; exact cases_of hg (by omega) hm hk0 hx1 hx2
    · rw [q1.2] at h
      exact (find_any (treeL l bits) bits (stands_of hr k1 f1) k hk0 q W base h).mono fun en w' h => find_best hr (by omega) hk0 hx1 h
    · rw [q2.2] at h
      exact (find_any (treeL u bits) bits (stands_of ru k2 f2) k hk0 q W base h).mono fun en w' h => find_best ru hm.few hk0 hx2 h
  have HG := Lib.hid hgood
  have HFit : Hid (∀ W, Calls Try.prog 34 #[.agg (pc r.pre), .agg (kc k)] W fun e w' => e = .returned (.bool (fitsB r.pre k)) ∧ Below W.heap.size W w') := fun W => fits_any r.pre k r.hk hk0 W
  obtain ⟨a, cap, hv, -⟩ := rd_len hR
  obtain ⟨n, hn⟩ : ∃ n, n = l.length := ⟨_, rfl⟩
  rw [← hn] at hv hl
  have hnI : (n : Int) ≤ 60 := by omega
  have b8 := run_changeBuild r
  have b9 := run_chs1 ⟨r, false⟩
  subst hv
  clear hR hr hg hn hl T hb0 hb1 hz0 hz1 hrr rk hgood hu ha hbu
  go_enter Try.func7, Try.ntmps7
  try rw [hW0]
  go_wp2_with fail
  refine H1.out.mono ?_
  rintro e1 w1 ⟨rfl, h1⟩
  have B1 := Lib.hid h1
  clear h1
  go_wp2_with fail
  refine (H2.out _ (HT.out _ B1.out).2.2.2.2.2.2.1).mono ?_
  rintro e2 w2 ⟨rfl, h2⟩
  have B2 := Lib.hid (B1.out.trans (h2.mono B1.out.size))
  clear h2
  obtain ⟨-, lr, -⟩ := HT.out _ B2.out
  have hal2 : Below w2.heap.size w2 (w2.alloc (.cells (fc [⟨r, false⟩]).toArray 71)) := (Below.refl _ _).alloc (Nat.le_refl _) _
  have B2a := Lib.hid (B2.out.trans (hal2.mono B2.out.size))
  have RC := Lib.hid (rdC_new w2 [⟨r, false⟩] (by simp))
  clear hal2
  go_wp2_with fail
  refine (H3.out _ _ (HT.out _ B2a.out).2.2.2.2.2.2.1 RC.out).mono ?_
  rintro e3 w3 ⟨vu, rfl, ou, h3⟩
  have B3 := Lib.hid (B2a.out.trans (h3.mono B2a.out.size))
  have RU := Lib.hid ou.rd
  clear h3 ou lr RC b8 b9
  go_wp2_with fail
  refine (H4.out _ (HT.out _ B3.out).2.2.2.2.2.2.1).mono ?_
  rintro e4 w4 ⟨va, rfl, oa, h4⟩
  have st4 := run_trieStore_new ba va (slice_of oa) w4
  have hx4 := Go.heap_alloc_new w4 (.cells (tc ba va) 52)
  have hal4 : Below w4.heap.size w4 (w4.alloc (.cells (tc ba va) 52)) := (Below.refl _ _).alloc (Nat.le_refl _) _
  have hb4 := B3.out.trans (h4.mono B3.out.size)
  have B4 := Lib.hid (hb4.trans (hal4.mono hb4.size))
  have h34 := h4.trans (hal4.mono h4.size)
  have oa4 := oa.later hal4
  have ru4 := RU.out.later h34
  obtain ⟨c1, hc1⟩ : ∃ c, w4.heap.size = c := ⟨_, rfl⟩
  rw [hc1] at hx4 st4
  obtain ⟨w5, hw5⟩ : ∃ w5, w4.alloc (.cells (tc ba va) 52) = w5 := ⟨_, rfl⟩
  rw [hw5] at hx4 st4 oa4 ru4 B4
  have HX4 := Lib.hid hx4
  have OA := Lib.hid oa4
  replace RU := Lib.hid ru4
  clear oa h4 hal4 hb4 h34 oa4 ru4 hx4
  go_wp2_with fail
  refine (H5.out _ _ RU.out).mono ?_
  rintro e6 w6 ⟨vb, rfl, ob, h6⟩
  have st6 := run_trieStore_new bb vb (slice_of ob) w6
  have hx6 := Go.heap_alloc_new w6 (.cells (tc bb vb) 52)
  have hal6 : Below w6.heap.size w6 (w6.alloc (.cells (tc bb vb) 52)) := (Below.refl _ _).alloc (Nat.le_refl _) _
  have h56 := h6.trans (hal6.mono h6.size)
  have ob6 := ob.later hal6
  obtain ⟨c2, hc2⟩ : ∃ c, w6.heap.size = c := ⟨_, rfl⟩
  rw [hc2] at hx6 st6
  obtain ⟨w7, hw7⟩ : ∃ w7, w6.alloc (.cells (tc bb vb) 52) = w7 := ⟨_, rfl⟩
  rw [hw7] at hx6 st6 ob6 h56
  have HX6 := Lib.hid hx6
  have OB := Lib.hid ob6
  have B7 := Lib.hid (B4.out.trans (h56.mono B4.out.size))
  replace OA := Lib.hid (OA.out.later h56)
  replace HX4 := Lib.hid ((h56.block _ (Array.getElem?_eq_some_iff.1 HX4.out).1).trans HX4.out)
  clear ob h6 hal6 ob6 hx6 h56 RU st4
  have FIN7 := Lib.hid (HT.out _ B7.out).2.2.2.2.2.2.2
  by_cases z1 : eu = 0
  · by_cases z2 : ea = 0
    · by_cases z3 : eb = 0
      · obtain ⟨x1, x2, e1, e2, rfl, rfl, hna, hcs, hf1, hf2⟩ := HG.out ⟨z1, z2, z3⟩
        subst z1
        subst z2
        subst z3
        have HF1 := Lib.hid hf1
        have HF2 := Lib.hid hf2
        have HNA := Lib.hid hna
        have HCS := Lib.hid hcs
        clear hf1 hf2 hna hcs HG H1 H2 H3 H4 H5 FIN7
        obtain ⟨lk, -⟩ := HT.out _ B7.out
        have lt := run_trieLoad HX4.out
        go_wp2_with fail
        refine (HF1.out _ _ _ OA.out).mono ?_
        rintro e8 w8 ⟨rfl, h8⟩
        have B8 := Lib.hid (B7.out.trans (h8.mono B7.out.size))
        replace OA := Lib.hid (OA.out.later h8)
        replace OB := Lib.hid (OB.out.later h8)
        replace HX4 := Lib.hid ((h8.block _ (Array.getElem?_eq_some_iff.1 HX4.out).1).trans HX4.out)
        replace HX6 := Lib.hid ((h8.block _ (Array.getElem?_eq_some_iff.1 HX6.out).1).trans HX6.out)
        clear h8 lk lt st6
        obtain ⟨lk, -⟩ := HT.out _ B8.out
        have lt := run_trieLoad HX6.out
        go_wp2_with fail
        refine (HF2.out _ _ _ OB.out).mono ?_
        rintro e9 w9 ⟨rfl, h9⟩
        have B9 := Lib.hid (B8.out.trans (h9.mono B8.out.size))
        replace OA := Lib.hid (OA.out.later h9)
        replace OB := Lib.hid (OB.out.later h9)
        replace HX4 := Lib.hid ((h9.block _ (Array.getElem?_eq_some_iff.1 HX4.out).1).trans HX4.out)
        replace HX6 := Lib.hid ((h9.block _ (Array.getElem?_eq_some_iff.1 HX6.out).1).trans HX6.out)
        clear h9 lk lt
        obtain ⟨lk, -, lp, k0, k1, k18, -, fin⟩ := HT.out _ B9.out
        have FIN := Lib.hid fin
        clear fin
        rcases HCS.out with ⟨g1, rfl, rfl, rfl⟩ | ⟨g1, g2, rfl, rfl⟩ | ⟨g1, g2, rfl, g4, rfl, rfl⟩ | ⟨g1, g2, g3, hx2, he2⟩
        · have q1 : (r.pre.bits != bb) = true := by rw [bne_iff_ne]; exact g1
          have lt1 := run_trieLoad HX4.out
          have lt2 := run_trieLoad HX6.out
          have HSM := Lib.hid (tsame_yes nb bb va vb w9 OA.out.rdz OB.out.rdz HNA.out)
          clear g1 lk lp k18 k1
          go_wp2_with fail
          refine HSM.out.mono ?_
          rintro e10 w10 ⟨rfl, h10⟩
          have FIN2 := Lib.hid (FIN.out.trans (h10.mono FIN.out.size))
          clear h10
          go_wp2
          go_ret
          exact ⟨rfl, FIN2.out⟩
        · have q1 : (r.pre.bits != r.pre.bits) = false := by rw [bne_self_eq_false]
          have HFF : Hid (∀ W, Calls Try.prog 34 #[.agg (pc r.pre), .agg (kc k)] W fun e w' => e = .returned (.bool false) ∧ Below W.heap.size W w') := fun W => by
            have := HFit.out W
            rw [g2] at this; exact this
          clear g2 k1 k18
          subst g1
          go_wp2_with fail
          refine (HFF.out _).mono ?_
          rintro e10 w10 ⟨rfl, h10⟩
          have FIN2 := Lib.hid (FIN.out.trans (h10.mono FIN.out.size))
          clear h10
          go_wp2
          go_ret
          exact ⟨rfl, FIN2.out⟩
        · have HFF : Hid (∀ W, Calls Try.prog 34 #[.agg (pc r.pre), .agg (kc k)] W fun e w' => e = .returned (.bool true) ∧ Below W.heap.size W w') := fun W => by
            have := HFit.out W
            rw [g2] at this; exact this
          clear g2 k18
          subst g1
          go_wp2_with fail
          refine (HFF.out _).mono ?_
          rintro e10 w10 ⟨rfl, h10⟩
          have FIN2 := Lib.hid (FIN.out.trans (h10.mono FIN.out.size))
          have k1b : w10.cell? ⟨w.heap.size, 1, none⟩ = some (.int .i64 r.pre.len) := by rw [h10.cell (block_lt_of_cell k1)]; exact k1
          clear h10
          go_wp2
          go_ret
          exact ⟨rfl, FIN2.out⟩
        · subst x2
          subst he2
          have HFF : Hid (∀ W, Calls Try.prog 34 #[.agg (pc r.pre), .agg (kc k)] W fun e w' => e = .returned (.bool true) ∧ Below W.heap.size W w') := fun W => by
            have := HFit.out W
            rw [g2] at this; exact this
          clear g2
          subst g1
          obtain ⟨A, hA⟩ : ∃ A, x1.pre.len = A := ⟨_, rfl⟩
          obtain ⟨H, hH⟩ : ∃ H, x1.hop = H := ⟨_, rfl⟩
          rw [hA] at g3 ⊢
          rw [hH]
          clear hA hH
          by_cases h0 : e1 = 0
          · have h3 : ¬ r.pre.len < A := fun h => g3 ⟨h0, h⟩
            subst h0
            clear g3
            by_cases pA : A = r.pre.len
            · subst A
              by_cases pH : H = r.hop
              · subst H
                go_wp2_with fail
                refine (HFF.out _).mono ?_
                rintro e10 w10 ⟨rfl, h10⟩
                have FIN2 := Lib.hid (FIN.out.trans (h10.mono FIN.out.size))
                have k1b : w10.cell? ⟨w.heap.size, 1, none⟩ = some (.int .i64 r.pre.len) := by rw [h10.cell (block_lt_of_cell k1)]; exact k1
                have k18b : w10.cell? ⟨w.heap.size, 18, none⟩ = some (.int .u16 r.hop) := by rw [h10.cell (block_lt_of_cell k18)]; exact k18
                clear h10 k1 k18 k0
                go_wp2
                go_ret
                exact ⟨rfl, FIN2.out⟩
              · have pI : ((H : Int) == (r.hop : Int)) = false := by rw [beq_eq_false_iff_ne]; omega
                go_wp2_with fail
                refine (HFF.out _).mono ?_
                rintro e10 w10 ⟨rfl, h10⟩
                have FIN2 := Lib.hid (FIN.out.trans (h10.mono FIN.out.size))
                have k1b : w10.cell? ⟨w.heap.size, 1, none⟩ = some (.int .i64 r.pre.len) := by rw [h10.cell (block_lt_of_cell k1)]; exact k1
                have k18b : w10.cell? ⟨w.heap.size, 18, none⟩ = some (.int .u16 r.hop) := by rw [h10.cell (block_lt_of_cell k18)]; exact k18
                clear h10 k1 k18 k0
                go_wp2
                go_ret
                exact ⟨rfl, FIN2.out⟩
            · have pB : (A == r.pre.len) = false := by rw [beq_eq_false_iff_ne]; exact pA
              go_wp2_with fail
              refine (HFF.out _).mono ?_
              rintro e10 w10 ⟨rfl, h10⟩
              have FIN2 := Lib.hid (FIN.out.trans (h10.mono FIN.out.size))
              have k1b : w10.cell? ⟨w.heap.size, 1, none⟩ = some (.int .i64 r.pre.len) := by rw [h10.cell (block_lt_of_cell k1)]; exact k1
              have k18b : w10.cell? ⟨w.heap.size, 18, none⟩ = some (.int .u16 r.hop) := by rw [h10.cell (block_lt_of_cell k18)]; exact k18
              clear h10 k1 k18 k0
              go_wp2
              go_ret
              exact ⟨rfl, FIN2.out⟩
          · have h3 : (e1 == 0) = false := by rw [beq_eq_false_iff_ne]; exact h0
            clear g3
            by_cases pA : A = r.pre.len
            · subst A
              by_cases pH : H = r.hop
              · subst H
                go_wp2_with fail
                refine (HFF.out _).mono ?_
                rintro e10 w10 ⟨rfl, h10⟩
                have FIN2 := Lib.hid (FIN.out.trans (h10.mono FIN.out.size))
                have k1b : w10.cell? ⟨w.heap.size, 1, none⟩ = some (.int .i64 r.pre.len) := by rw [h10.cell (block_lt_of_cell k1)]; exact k1
                have k18b : w10.cell? ⟨w.heap.size, 18, none⟩ = some (.int .u16 r.hop) := by rw [h10.cell (block_lt_of_cell k18)]; exact k18
                clear h10 k1 k18 k0
                go_wp2
                go_ret
                exact ⟨rfl, FIN2.out⟩
              · have pI : ((H : Int) == (r.hop : Int)) = false := by rw [beq_eq_false_iff_ne]; omega
                go_wp2_with fail
                refine (HFF.out _).mono ?_
                rintro e10 w10 ⟨rfl, h10⟩
                have FIN2 := Lib.hid (FIN.out.trans (h10.mono FIN.out.size))
                have k1b : w10.cell? ⟨w.heap.size, 1, none⟩ = some (.int .i64 r.pre.len) := by rw [h10.cell (block_lt_of_cell k1)]; exact k1
                have k18b : w10.cell? ⟨w.heap.size, 18, none⟩ = some (.int .u16 r.hop) := by rw [h10.cell (block_lt_of_cell k18)]; exact k18
                clear h10 k1 k18 k0
                go_wp2
                go_ret
                exact ⟨rfl, FIN2.out⟩
            · have pB : (A == r.pre.len) = false := by rw [beq_eq_false_iff_ne]; exact pA
              go_wp2_with fail
              refine (HFF.out _).mono ?_
              rintro e10 w10 ⟨rfl, h10⟩
              have FIN2 := Lib.hid (FIN.out.trans (h10.mono FIN.out.size))
              have k1b : w10.cell? ⟨w.heap.size, 1, none⟩ = some (.int .i64 r.pre.len) := by rw [h10.cell (block_lt_of_cell k1)]; exact k1
              have k18b : w10.cell? ⟨w.heap.size, 18, none⟩ = some (.int .u16 r.hop) := by rw [h10.cell (block_lt_of_cell k18)]; exact k18
              clear h10 k1 k18 k0
              go_wp2
              go_ret
              exact ⟨rfl, FIN2.out⟩
      · have q : (eb != 0) = true := by rw [bne_iff_ne]; exact z3
        subst z1
        subst z2
        go_wp2
        go_ret
        exact ⟨rfl, FIN7.out⟩
    · have q : (ea != 0) = true := by rw [bne_iff_ne]; exact z2
      subst z1
      go_wp2
      go_ret
      exact ⟨rfl, FIN7.out⟩
  · have q : (eu != 0) = true := by rw [bne_iff_ne]; exact z1
    go_wp2
    go_ret
    exact ⟨rfl, FIN7.out⟩

set_option maxHeartbeats 1000000 in
set_option maxRecDepth 100000 in
theorem walk_no (l : List Rt) (n : Nat) (r : Rt) (k : Nat → Nat) (bits : Int) (a : Option Addr) (cap : Nat) (w : World) (hR : Rd w (.slice a n cap) l) (hn : n ≤ maxLen) (hno : ¬ n ≤ 60 ∨ rightB l = false) :
    Calls Try.prog 7 #[.slice a n cap, .agg (rc r), .agg (kc k), .int .i64 bits] w fun e w' => e = .returned (.bool true) ∧ Below w.heap.size w w' := by
  have hb1 : Below w.heap.size w (w.alloc (.cells (rc r) 34)) := (Below.refl _ _).alloc (Nat.le_refl _) _
  have hb0 : Below w.heap.size w ((w.alloc (.cells (rc r) 34)).alloc (.cells (kc k) 24)) := hb1.alloc (by simp) _
  have hz0 : ((w.alloc (.cells (rc r) 34)).alloc (.cells (kc k) 24)).heap.size = w.heap.size + 2 := by simp
  obtain ⟨W0, hW0⟩ : ∃ W0, (w.alloc (.cells (rc r) 34)).alloc (.cells (kc k) 24) = W0 := ⟨_, rfl⟩
  rw [hW0] at hb0 hz0
  have T : ∀ W, Below W0.heap.size W0 W → Rd W (.slice a n cap) l ∧ Below w.heap.size w W := fun W h =>
    ⟨hR.later (hb0.trans (h.mono (by rw [hz0]; omega))), hb0.trans (h.mono (by rw [hz0]; omega))⟩
  have HT := Lib.hid T
  have H1 := Lib.hid (awake4_any W0)
  unfold maxLen at hn
  by_cases h1 : n ≤ 60
  · have h1I : (n : Int) ≤ 60 := by omega
    have hr : rightB l = false := hno.resolve_left (fun h => h h1)
    have H2 : Hid (∀ W, Rd W (.slice a n cap) l → Calls Try.prog 15 #[.slice a n cap] W fun e w' => e = .returned (.bool false) ∧ Below W.heap.size W w') := fun W h => by
      have := right_any l _ W h
      rw [hr] at this; exact this
    clear hno hr h1 hn hR T hb0 hb1 hz0
    go_enter Try.func7, Try.ntmps7
    try rw [hW0]
    go_wp2_with fail
    refine H1.out.mono ?_
    rintro e1 w1 ⟨rfl, h1⟩
    have HW1 := Lib.hid h1
    clear h1
    go_wp2_with fail
    refine (H2.out _ (HT.out _ HW1.out).1).mono ?_
    rintro e1 w2 ⟨rfl, h2⟩
    have FIN := Lib.hid (HT.out _ (HW1.out.trans (h2.mono HW1.out.size))).2
    clear h2
    go_wp2
    go_ret
    exact ⟨rfl, FIN.out⟩
  · have h1I : (60 : Int) < n := by omega
    clear hno h1 hn hR T hb0 hb1 hz0
    go_enter Try.func7, Try.ntmps7
    try rw [hW0]
    go_wp2_with fail
    refine H1.out.mono ?_
    rintro e1 w1 ⟨rfl, h1⟩
    have FIN := Lib.hid (HT.out _ h1).2
    clear h1
    go_wp2
    go_ret
    exact ⟨rfl, FIN.out⟩

theorem walkAll (l : List Rt) (r : Rt) (k : Nat → Nat) (hk0 : Bytes16 k) (bits : Int) (v : Value) (w : World) (hR : Rd w v l) :
    Calls Try.prog 7 #[v, .agg (rc r), .agg (kc k), .int .i64 bits] w fun e w' => e = .returned (.bool true) ∧ Below w.heap.size w w' := by
  by_cases h : l.length ≤ 60 ∧ rightB l = true
  · exact walk l r k hk0 bits v w hR h.1 h.2
  · obtain ⟨a, cap, hv, h1⟩ := rd_len hR
    have hno : ¬ l.length ≤ 60 ∨ rightB l = false := by
      by_cases g : l.length ≤ 60
      · exact .inr (by cases h2 : rightB l with
          | false => rfl
          | true => exact absurd ⟨g, h2⟩ h)
      · exact .inl g
    rw [hv] at hR
    rw [hv]
    exact walk_no l _ r k bits a cap w hR h1 hno
end Go.Proofs.Ytjppingppdmeoaa.trieMore
