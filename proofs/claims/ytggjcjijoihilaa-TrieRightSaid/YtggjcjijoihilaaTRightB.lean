/- The document's Build of layer 4: the same trie. -/
import Derived.Test.YtggjcjijoihilaaTRightQ
import Derived.Test.YtggjcjijoihilaaRefRight
namespace Go.Proofs.Ytggjcjijoihilaa
open Go.RowKit Go.Sort Go.Shelf
attribute [local go_sem ↓] loadVar_key loadVar_pre loadVar_route storeVar_key storeVar_pre storeVar_route loadVar_way storeVar_way build_way buildSlice_ways binOp_wayEql loadVar_trie storeVar_trie build_trie loadVar_node storeVar_node buildSlice_nodes storeVar_slot loadVar_slot

theorem OwnW.lt2 {w : World} {base g n cap : Nat} {vs : List (List Nat)} (h : OwnW w base (.slice (some ⟨g, 0, none⟩) n cap) vs) : g < w.heap.size := (World.ownsRow.lt h g rfl).2
theorem rt_pre {w : World} {b o n cap : Nat} {l : List Rt} (h : Rd w (.slice (some ⟨b, o, none⟩) n cap) l) {i : Nat} {r : Rt} (hr : l[i]? = some r) :
    (preLoad ⟨b, o + i * 19, none⟩).run Try.prog w = .ok (.agg (pc r.pre)) w ∧ w.cell? ⟨b, o + i * 19 + 18, none⟩ = some (.int .u16 (r.hop : Nat)) := by
  rcases h with ⟨h, hnil⟩ | ⟨a', cap', h, _, _, hc⟩
  · exfalso; rw [hnil] at hr; cases hr
  · simp only [Value.slice.injEq, Option.some.injEq] at h
    obtain ⟨rfl, -⟩ := h
    have h1 := hc.route hr
    rw [show (⟨b, o, none⟩ : Addr).add (i * 19) = ⟨b, o + i * 19, none⟩ from add_here _ _ _] at h1
    refine ⟨run_preLoadA h1.pre, ?_⟩
    have := h1.hop
    rwa [add_here] at this
theorem rbuild_out {W : World} {b : Nat} {bits e : Int} {v : Value} (h : W.heap[b]? = some (.cells (tc bits v) 52 (0, 0))) (tmps : Array Value) (h4 : tmps.getD 4 undef = .pointer (some ⟨b, 0, none⟩)) (h5 : tmps.getD 5 undef = .int .i64 e) :
    (results Try.f26 tmps).run Try.prog W = .ok (.tuple #[.agg (tc bits v), .int .i64 e]) W := by
  have e1 : (loadVar 52 ⟨b, 0, none⟩).run Try.prog W = .ok (.agg (tc bits v)) W := run_trieLoad h
  unfold results
  rw [show Try.f26.results = #[ResultVar.cell 4 52, ResultVar.tmp 5] from rfl]
  simp only [Array.getD_eq_getD_getElem?] at h4 h5
  simp [h4, h5, asAddr, e1]

set_option maxHeartbeats 4000000 in
set_option maxRecDepth 100000 in
theorem rbuild_any (t : List Rt) (ht : t.length ≤ 40) (bits : Int) (v : Value) (w : World) (hR : Rd w v t) :
    Calls Try.prog 26 #[v, .int .i64 bits] w (BuildPost w (buildL t bits)) := by
  have hb0 : Below w.heap.size w (w.alloc (.cells tzero 52)) := (Below.refl _ _).alloc (Nat.le_refl _) _
  have hx0 : (w.alloc (.cells tzero 52)).heap[w.heap.size]? = some (.cells tzero 52 (0, 0)) := Go.heap_alloc_new w _
  obtain ⟨W0, hW0⟩ : ∃ W0, w.alloc (.cells tzero 52) = W0 := ⟨_, rfl⟩
  have hz0 : W0.heap.size = w.heap.size + 1 := by rw [← hW0]; simp
  rw [hW0] at hb0 hx0
  have HT : Hid (∀ W, Below W0.heap.size W0 W → W.heap[w.heap.size]? = some (.cells tzero 52 (0, 0)) ∧ Rd W v t ∧ Below w.heap.size w W) := fun W h =>
    ⟨(h.block _ (by omega)).trans hx0, hR.later (hb0.trans (h.mono (by omega))), hb0.trans (h.mono (by omega))⟩
  have HW0 : Hid (w.alloc (.cells #[.int .i64 0, .slice none 0 0] 52) = W0) := hW0
  have HZ := Lib.hid hz0
  have b0 : ∀ w : World, (trieBuild #[]).run Try.prog w = .ok (.agg (tc 0 (.slice none 0 0))) w := run_trieBuild0
  have HB0 : Hid (∀ w : World, (trieBuild #[]).run Try.prog w = .ok (.agg (tc 0 (.slice none 0 0))) w) := b0
  have C1 : Hid (∀ W, Below W0.heap.size W0 W → Calls Try.prog 14 #[v] W fun e w' => e = .returned (.bool (rightB t)) ∧ Below W.heap.size W w') := fun W h => rright_any t v W (HT.out W h).2.1
  have HRZ : Hid (Below W0.heap.size W0 W0) := Below.refl _ _
  obtain ⟨X, hX⟩ : ∃ X, X = buildL t bits := ⟨_, rfl⟩
  rw [← hX]
  unfold buildL at hX
  rw [keys_may] at hX
  have HX0 := Lib.hid hX
  have HT40 := Lib.hid ht
  clear hX hb0 hx0 hz0 hW0 hR ht
  have BAD : Hid (∀ (W : World) (c : Int), Below W0.heap.size W0 W → X = (0, [], c) → (∃ W', (trieStore ⟨w.heap.size, 0, none⟩ (.agg (tc 0 (.slice none 0 0)))).run Try.prog W = .ok () W' ∧ W'.heap[w.heap.size]? = some (.cells (tc 0 (.slice none 0 0)) 52 (0, 0)) ∧ BuildPost w X (.returned (.tuple #[.agg (tc 0 (.slice none 0 0)), .int .i64 c])) W')) := fun W c h hx => by
    obtain ⟨t1, t2, t3⟩ := HT.out W h
    have hf := trie_fin t1 t3 0 (.slice none 0 0)
    exact ⟨_, run_trieStore t1 (b2 := 0) (v2 := .slice none 0 0) rfl, hf.1, _, by rw [hx], by rw [hx]; exact ownN_nil _ _, hf.2⟩
  cases hr : rightB t with
  | false =>
    rw [hr] at C1
    have HX1 : Hid (X = (0, [], 1)) := by show _ = _; rw [HX0.out, hr]; rfl
    clear hr b0
    go_enter Try.func26, Try.ntmps26
    go_wp2_with fail
    rw [HW0.out]
    refine (C1.out _ HRZ.out).mono ?_
    rintro e w1 ⟨rfl, h1⟩
    have HWC := Lib.hid h1
    clear h1
    obtain ⟨W', st, st2, st3⟩ := BAD.out w1 1 HWC.out HX1.out
    have b0 := HB0.out
    have S2 := Lib.hid st2
    have S3 := Lib.hid st3
    clear st2 st3
    go_wp2
    exact bodyPost_ret (v := .tuple #[.agg (tc 0 (.slice none 0 0)), .int .i64 1]) (rbuild_out S2.out _ rfl rfl) rfl S3.out
  | true =>
    rw [hr] at C1
    have HRT := Lib.hid hr
    obtain ⟨hl256, hgood⟩ := (right_iff t).1 hr
    have HGD := Lib.hid hgood
    clear hl256 hgood hr
    by_cases hb : bits = 32 ∨ bits = 128
    · have HXB : Hid (X = if (treeL t bits).ws.length ≤ 512 then (bits, (treeL t bits).nodes, 0) else (0, [], 5)) := by show _ = _; rw [HX0.out, HRT.out, if_pos ⟨rfl, by simpa using hb⟩]
      have HBI := Lib.hid hb
      have HWY : Hid (∀ W, Below W0.heap.size W0 W → Calls Try.prog 57 #[v, .int .i64 bits] W fun e w' => ∃ v', e = .returned v' ∧ OwnW w' W.heap.size v' (treeL t bits).ws ∧ Below W.heap.size W w') := fun W h => rways_any t HT40.out HGD.out.may bits v W (HT.out W h).2.1
      have HWO := Lib.hid (ways_tree bits t HGD.out.may)
      have HOK : Hid (treeL t bits).Ok := Tr.adds_ok bits _ tr0 tr0_ok
      have HROOM := Lib.hid (ways_room hb t HGD.out.may)
      have HSL : Hid (∀ u ∈ (treeL t bits).ws, ∀ b < 16, t.foldl (slotD bits (keyOf (u ++ [b])) u.length) (0, 0) = (treeL t bits).sl u b) := fun u hu b hb2 =>
        slots_are HGD.out (HWO.out.low u hu).1 hb2 (whole_of hb (low_snoc (HWO.out.low u hu).1 hb2) (by have := HROOM.out u hu; rw [List.length_append]; simp; omega))
      obtain ⟨T, hT⟩ : ∃ T, T = treeL t bits := ⟨_, rfl⟩
      rw [← hT] at HXB HWY HWO HOK HROOM HSL
      clear hT hb b0
      by_cases h32 : bits = 32
      all_goals have H32 := Lib.hid h32
      · have q1 : (bits != 32) = false := by rw [h32]; rfl
        clear h32
        go_enter Try.func26, Try.ntmps26
        go_wp2_with fail
        rw [HW0.out]
        refine (C1.out _ HRZ.out).mono ?_
        rintro e w1 ⟨rfl, h1⟩
        have HWC := Lib.hid h1
        clear h1
        go_wp2_with fail
        refine (HWY.out w1 HWC.out).mono ?_
        rintro e w2 ⟨v6, rfl, ho6, h2⟩
        have HW2 := Lib.hid (HWC.out.trans (h2.mono HWC.out.size))
        have HO6 := Lib.hid (ho6.base (HWC.out.size))
        clear h2 ho6
        obtain ⟨gw, cw, hv6, hg1, hg2⟩ := HO6.out.form HWO.out.pos
        subst hv6
        obtain ⟨N, hN⟩ : ∃ N, N = T.ws.length := ⟨_, rfl⟩
        rw [← hN] at HO6 HXB ⊢
        have HWC2 : Hid (CellsAt w2 ⟨gw, 0, none⟩ (fw T.ws)) := HO6.out.cells hN
        have HN := Lib.hid hN
        have hNI : (N : Int) ≤ 1241 := by have h1 := HWO.out.le; have h2 := HT40.out; omega
        clear hN hg1 hg2
        by_cases h512 : N ≤ 512
        · have h512I : (N : Int) ≤ 512 := by omega
          have HXX : Hid (X = (bits, T.nodes, 0)) := by show _ = _; rw [HXB.out, if_pos h512]
          have bt := fun W => run_trieBuild0 W
          have bt2 : ∀ W : World, (trieBuild #[(0, .int .i64 bits)]).run Try.prog W = .ok (.agg (tc bits (.slice none 0 0))) W := fun W => by kernel_rfl
          have st7 : (trieStore ⟨w2.heap.size, 0, none⟩ (.agg (tc bits (.slice none 0 0)))).run Try.prog (w2.alloc (.cells #[.int .i64 0, .slice none 0 0] 52)) = .ok () (w2.alloc (.cells (tc bits (.slice none 0 0)) 52)) := by
            have h := run_trieStore (W := w2.alloc (.cells (tc 0 (.slice none 0 0)) 52)) (b2 := bits) (v2 := .slice none 0 0) (Go.heap_alloc_new w2 _) rfl
            rw [World.setRow_alloc_new] at h
            exact h
          have H7 : Hid ((w2.alloc (.cells (tc bits (.slice none 0 0)) 52)).heap[w2.heap.size]? = some (.cells (tc bits (.slice none 0 0)) 52 (0, 0))) := Go.heap_alloc_new w2 _
          have B7 : Hid (Below w2.heap.size w2 (w2.alloc (.cells (tc bits (.slice none 0 0)) 52))) := (Below.refl _ _).alloc (Nat.le_refl _) _
          obtain ⟨w7, hw7⟩ : ∃ w7, w2.alloc (.cells (tc bits (.slice none 0 0)) 52) = w7 := ⟨_, rfl⟩
          have hz7 : Hid (w7.heap.size = w2.heap.size + 1) := by show _ = _; rw [← hw7]; simp
          rw [hw7] at st7 H7 B7
          clear hw7
          go_wp2
          clear bt bt2 st7
          go_loopw [8] (fun i wr => ∃ n : Nat, n ≤ N ∧ i = .int .i64 n ∧ Hid (∃ v7, wr.heap[w2.heap.size]? = some (.cells (tc bits v7) 52 (0, 0)) ∧ OwnN wr w7.heap.size v7 (T.nodes.take n)) ∧ Hid (Below w2.heap.size w2 wr)) (fun i _ => N - (intOf i).toNat)
          case atStart => exact ⟨0, Nat.zero_le _, rfl, ⟨_, H7.out, ownN_nil _ _⟩, B7.out⟩
          case round =>
            obtain ⟨n, hn, rfl, HO, HW⟩ := hrel
            obtain ⟨wo, hwo⟩ : ∃ wo, wo = wr := ⟨_, rfl⟩
            subst hwo
            by_cases hlt : n < N
            · have hltI : (n : Int) < N := by omega
              have hn0 : (0 : Int) ≤ n := by omega
              obtain ⟨u, hu⟩ : ∃ u, T.ws[n]? = some u := ⟨T.ws[n]'(by rw [← HN.out]; exact hlt), List.getElem?_eq_getElem _⟩
              have HU := Lib.hid hu
              have hmem := List.mem_of_getElem? hu
              have HLOW := Lib.hid (HWO.out.low u hmem)
              have HRM := Lib.hid (HROOM.out u hmem)
              have HS := Lib.hid (HSL.out u hmem)
              have lw : (wayLoad ⟨gw, n * 17, none⟩).run Try.prog wo = .ok (.agg (wc u)) wo := run_wayLoad fun i x hx => by
                have := (HWC2.out.below HW.out HO6.out.lt2).way hu i x hx
                rw [show (⟨gw, 0, none⟩ : Addr).add (n * 17) = ⟨gw, n * 17, none⟩ by rw [add_here, Nat.zero_add]] at this
                exact this
              have wst := run_wayStore_new u wo #[Value.int IntKind.i64 0, Value.int IntKind.u8 0, Value.int IntKind.u8 0, Value.int IntKind.u8 0, Value.int IntKind.u8 0, Value.int IntKind.u8 0, Value.int IntKind.u8 0, Value.int IntKind.u8 0, Value.int IntKind.u8 0, Value.int IntKind.u8 0, Value.int IntKind.u8 0, Value.int IntKind.u8 0, Value.int IntKind.u8 0, Value.int IntKind.u8 0, Value.int IntKind.u8 0, Value.int IntKind.u8 0, Value.int IntKind.u8 0] rfl
              have HL9 : Hid (CellsAt (wo.alloc (.cells (wc u) 98)) ⟨wo.heap.size, 0, none⟩ (wl u)) := newWay wo u
              have HB9 : Hid (Below wo.heap.size wo (wo.alloc (.cells (wc u) 98))) := (Below.refl _ _).alloc (Nat.le_refl _) _
              have hs9 : (wo.alloc (.cells (wc u) 98)).heap.size = wo.heap.size + 1 := by simp
              obtain ⟨w9, hw9⟩ : ∃ w9, wo.alloc (.cells (wc u) 98) = w9 := ⟨_, rfl⟩
              rw [hw9] at wst HL9 HB9 hs9
              have HB10 : Hid (Below w9.heap.size w9 (w9.alloc (.cells (nc nd0) 104))) := (Below.refl _ _).alloc (Nat.le_refl _) _
              have hx10 : (w9.alloc (.cells (nc nd0) 104)).heap[w9.heap.size]? = some (.cells (nc nd0) 104 (0, 0)) := Go.heap_alloc_new w9 _
              rw [hs9] at hx10
              obtain ⟨w10, hw10⟩ : ∃ w10, w9.alloc (.cells (nc nd0) 104) = w10 := ⟨_, rfl⟩
              rw [hw10] at HB10 hx10
              have HX10 := Lib.hid hx10
              have HW10 : Hid (w9.alloc (.cells #[Value.int IntKind.i64 0, Value.int IntKind.u16 0, Value.int IntKind.i64 0, Value.int IntKind.u16 0, Value.int IntKind.i64 0, Value.int IntKind.u16 0, Value.int IntKind.i64 0, Value.int IntKind.u16 0, Value.int IntKind.i64 0, Value.int IntKind.u16 0, Value.int IntKind.i64 0, Value.int IntKind.u16 0, Value.int IntKind.i64 0, Value.int IntKind.u16 0, Value.int IntKind.i64 0, Value.int IntKind.u16 0, Value.int IntKind.i64 0, Value.int IntKind.u16 0, Value.int IntKind.i64 0, Value.int IntKind.u16 0, Value.int IntKind.i64 0, Value.int IntKind.u16 0, Value.int IntKind.i64 0, Value.int IntKind.u16 0, Value.int IntKind.i64 0, Value.int IntKind.u16 0, Value.int IntKind.i64 0, Value.int IntKind.u16 0, Value.int IntKind.i64 0, Value.int IntKind.u16 0, Value.int IntKind.i64 0, Value.int IntKind.u16 0, Value.int IntKind.i64 0, Value.int IntKind.i64 0, Value.int IntKind.i64 0, Value.int IntKind.i64 0, Value.int IntKind.i64 0, Value.int IntKind.i64 0, Value.int IntKind.i64 0, Value.int IntKind.i64 0, Value.int IntKind.i64 0, Value.int IntKind.i64 0, Value.int IntKind.i64 0, Value.int IntKind.i64 0, Value.int IntKind.i64 0, Value.int IntKind.i64 0, Value.int IntKind.i64 0, Value.int IntKind.i64 0] 104) = w10) := hw10
              have HK : Hid (∀ W, Below w9.heap.size w9 W → CellsAt W ⟨wo.heap.size, 0, none⟩ (wl u) ∧ CellsAt W ⟨gw, 0, none⟩ (fw T.ws) ∧ Below w2.heap.size w2 W ∧ ∃ v7, W.heap[w2.heap.size]? = some (.cells (tc bits v7) 52 (0, 0)) ∧ OwnN W w7.heap.size v7 (T.nodes.take n)) := fun W h => by
                have h2 : Below wo.heap.size wo W := HB9.out.trans (h.mono (by omega))
                have h3 := HW.out.trans (h2.mono HW.out.size)
                obtain ⟨v7, h4, h5⟩ := HO.out
                exact ⟨HL9.out.later h, HWC2.out.below h3 HO6.out.lt2, h3, v7, (h2.block _ (Array.getElem?_eq_some_iff.1 h4).1).trans h4, h5.later h2⟩
              have HS9 := Lib.hid hs9
              clear hu hmem hx10 hw10 hw9 hs9
              go_wp2
              rw [HS9.out, HW10.out]
              clear lw wst
              go_loopw [11] (fun i wr => ∃ b : Nat, b ≤ 16 ∧ i = .int .i64 b ∧ Hid (wr.heap[wo.heap.size + 1]? = some (.cells (nc (ndU T u b)) 104 (0, 0))) ∧ Hid (Below w9.heap.size w9 wr)) (fun i _ => 16 - (intOf i).toNat)
              case atStart => exact ⟨0, Nat.zero_le _, rfl, by rw [ndU_zero]; exact HX10.out, HB10.out⟩
              case round =>
                obtain ⟨b, hb, rfl, HN2, HW2b⟩ := hrel
                obtain ⟨wb, hwb⟩ : ∃ wb, wb = wr := ⟨_, rfl⟩
                subst hwb
                have hb0 : (0 : Int) ≤ b := by omega
                by_cases hb16 : b < 16
                · have hb16I : (b : Int) < 16 := by omega
                  have HBB : Hid (b < 16) := hb16
                  obtain ⟨k1, -, -, -⟩ := HK.out wb HW2b.out
                  have lk : (keyLoad ⟨wo.heap.size, 1, none⟩).run Try.prog wb = .ok (.agg (kc (keyOf u))) wb := run_keyLoad fun j x hx => by
                    have := k1 (1 + j) x (by show (wl u)[1 + j]? = some x; unfold wl; rw [Nat.add_comm, List.getElem?_cons_succ]; simpa [kc] using hx)
                    rw [add_here, Nat.zero_add] at this
                    exact this
                  have cs : wb.cell? ⟨wo.heap.size, 0, none⟩ = some (.int .i64 (u.length : Int)) := by
                    have := k1 0 _ (show (wl u)[0]? = some (.int .i64 (u.length : Int)) from rfl)
                    rw [add_here] at this; exact this
                  have HSET := Lib.hid (fun W => set_any u HLOW.out.1 (by have := HLOW.out.2; omega) b hb16 W)
                  have hzk : ∀ W : World, (keyStore ⟨W.heap.size, 0, none⟩ (.agg (kc (keyOf (u ++ [b]))))).run Try.prog (W.alloc (.cells #[Value.int IntKind.u8 0, Value.int IntKind.u8 0, Value.int IntKind.u8 0, Value.int IntKind.u8 0, Value.int IntKind.u8 0, Value.int IntKind.u8 0, Value.int IntKind.u8 0, Value.int IntKind.u8 0, Value.int IntKind.u8 0, Value.int IntKind.u8 0, Value.int IntKind.u8 0, Value.int IntKind.u8 0, Value.int IntKind.u8 0, Value.int IntKind.u8 0, Value.int IntKind.u8 0, Value.int IntKind.u8 0] 24)) = .ok () (W.alloc (.cells (kc (keyOf (u ++ [b]))) 24)) := fun W => by
                    have h := run_keyStore (w := W.alloc (.cells (kc zkey) 24)) (k := keyOf (u ++ [b])) (Go.heap_alloc_new W _) (kc_size _)
                    rw [World.setRow_alloc_new] at h
                    exact h
                  clear k1
                  go_wp2_with fail
                  refine (HSET.out wb).mono ?_
                  rintro e w11 ⟨rfl, h11⟩
                  have HW11 := Lib.hid (HW2b.out.trans (h11.mono HW2b.out.size))
                  have HN11 : Hid (w11.heap[wo.heap.size + 1]? = some (.cells (nc (ndU T u b)) 104 (0, 0))) := (h11.block _ (Array.getElem?_eq_some_iff.1 HN2.out).1).trans HN2.out
                  clear h11 lk cs
                  have hzk1 := hzk w11
                  have hal : Below w11.heap.size w11 (w11.alloc (.cells (kc (keyOf (u ++ [b]))) 24)) := (Below.refl _ _).alloc (Nat.le_refl _) _
                  have h12 : (w11.alloc (.cells (kc (keyOf (u ++ [b]))) 24)).heap[w11.heap.size]? = some (.cells (kc (keyOf (u ++ [b]))) 24 (0, 0)) := Go.heap_alloc_new w11 _
                  obtain ⟨w12, hw12⟩ : ∃ w12, w11.alloc (.cells (kc (keyOf (u ++ [b]))) 24) = w12 := ⟨_, rfl⟩
                  rw [hw12] at hzk1 hal h12
                  have HW12 := Lib.hid (HW11.out.trans (hal.mono HW11.out.size))
                  have HN12 : Hid (w12.heap[wo.heap.size + 1]? = some (.cells (nc (ndU T u b)) 104 (0, 0))) := (hal.block _ (Array.getElem?_eq_some_iff.1 HN11.out).1).trans HN11.out
                  have HK12 := Lib.hid h12
                  have HLT12 : Hid (wo.heap.size + 1 < w11.heap.size) := (Array.getElem?_eq_some_iff.1 HN11.out).1
                  clear hzk hal h12 hw12
                  go_wp2
                  clear hzk1
                  obtain ⟨a, cap, hv, -⟩ := rd_len (HT.out W0 HRZ.out).2.1
                  obtain ⟨m, hm⟩ : ∃ m, m = t.length := ⟨_, rfl⟩
                  rw [← hm] at hv
                  have HM := Lib.hid hm
                  have hmI : (m : Int) ≤ 40 := by have := HT40.out; omega
                  have HRD : Hid (∀ W, Below w9.heap.size w9 W → Rd W v t) := fun W h => (HT.out W (HW2.out.trans ((HK.out W h).2.2.1.mono HW2.out.size))).2.1
                  subst hv
                  clear hm
                  obtain ⟨q, hq⟩ : ∃ q, q = keyOf (u ++ [b]) := ⟨_, rfl⟩
                  have HQB : Hid (Bytes16 q) := by show Bytes16 q; rw [hq]; exact keyOf_bytes (low_snoc HLOW.out.1 HBB.out)
                  rw [← hq] at HK12
                  have HQ := Lib.hid hq
                  clear hq
                  generalize w11.heap.size = B12 at HK12 HLT12 ⊢
                  go_loopw [13] (fun i wr => ∃ i' : Nat, i' ≤ m ∧ i = .int .i64 i' ∧ Hid (wr.heap[wo.heap.size + 1]? = some (.cells (nc ((ndU T u b).setSl b ((t.take i').foldl (slotD bits q u.length) (0, 0)))) 104 (0, 0))) ∧ Hid (wr.heap[B12]? = some (.cells (kc q) 24 (0, 0))) ∧ Hid (Below w9.heap.size w9 wr)) (fun i _ => m - (intOf i).toNat)
                  case atStart => exact ⟨0, Nat.zero_le _, rfl, by show _ = _; rw [List.take_zero, List.foldl_nil, ndU_slot]; exact HN12.out, HK12.out, HW12.out⟩
                  case round =>
                    obtain ⟨i, hi, rfl, HNi, HKi, HWi⟩ := hrel
                    obtain ⟨wi, hwi⟩ : ∃ wi, wi = wr := ⟨_, rfl⟩
                    subst hwi
                    by_cases hlt3 : i < m
                    · have hltI3 : (i : Int) < m := by omega
                      have hi0 : (0 : Int) ≤ i := by omega
                      obtain ⟨r, hr⟩ : ∃ r, t[i]? = some r := ⟨t[i]'(by rw [← HM.out]; exact hlt3), List.getElem?_eq_getElem _⟩
                      obtain ⟨b0, o0, hab⟩ := rt_place (HRD.out wi HWi.out) hr
                      subst hab
                      have lp := (rt_pre (HRD.out wi HWi.out) hr).1
                      have HRR := Lib.hid hr
                      have hst : (preStore ⟨wi.heap.size, 0, none⟩ (.agg (pc r.pre))).run Try.prog (wi.alloc (.cells #[Value.int IntKind.i64 0, Value.int IntKind.i64 0, Value.int IntKind.u8 0, Value.int IntKind.u8 0, Value.int IntKind.u8 0, Value.int IntKind.u8 0, Value.int IntKind.u8 0, Value.int IntKind.u8 0, Value.int IntKind.u8 0, Value.int IntKind.u8 0, Value.int IntKind.u8 0, Value.int IntKind.u8 0, Value.int IntKind.u8 0, Value.int IntKind.u8 0, Value.int IntKind.u8 0, Value.int IntKind.u8 0, Value.int IntKind.u8 0, Value.int IntKind.u8 0] 26)) = .ok () (wi.alloc (.cells (pc r.pre) 26)) := by
                        have h := run_preStore (w := wi.alloc (.cells #[Value.int IntKind.i64 0, Value.int IntKind.i64 0, Value.int IntKind.u8 0, Value.int IntKind.u8 0, Value.int IntKind.u8 0, Value.int IntKind.u8 0, Value.int IntKind.u8 0, Value.int IntKind.u8 0, Value.int IntKind.u8 0, Value.int IntKind.u8 0, Value.int IntKind.u8 0, Value.int IntKind.u8 0, Value.int IntKind.u8 0, Value.int IntKind.u8 0, Value.int IntKind.u8 0, Value.int IntKind.u8 0, Value.int IntKind.u8 0, Value.int IntKind.u8 0] 26)) (p := r.pre) (Go.heap_alloc_new wi _) rfl
                        rw [World.setRow_alloc_new] at h
                        exact h
                      have hal : Below wi.heap.size wi (wi.alloc (.cells (pc r.pre) 26)) := (Below.refl _ _).alloc (Nat.le_refl _) _
                      have hx14 : (wi.alloc (.cells (pc r.pre) 26)).heap[wi.heap.size]? = some (.cells (pc r.pre) 26 (0, 0)) := Go.heap_alloc_new wi _
                      obtain ⟨w14, hw14⟩ : ∃ w14, wi.alloc (.cells (pc r.pre) 26) = w14 := ⟨_, rfl⟩
                      rw [hw14] at hst hal hx14
                      obtain ⟨x, hx⟩ : ∃ x, x = (t.take i).foldl (slotD bits q u.length) (0, 0) := ⟨_, rfl⟩
                      have HNX : Hid ((t.take (i + 1)).foldl (slotD bits q u.length) (0, 0) = slotD bits q u.length x r) := by show _ = _; rw [foldl_take_snoc hr, hx]
                      rw [← hx] at HNi
                      have HL14 := Lib.hid hal
                      have HX14 := Lib.hid hx14
                      have hmr := last_le (HGD.out.may r (List.mem_of_getElem? hr))
                      have HLST := Lib.hid hmr
                      have HFF : Hid (∀ W, Below w14.heap.size w14 W → (preLoad ⟨wi.heap.size, 0, none⟩).run Try.prog W = .ok (.agg (pc r.pre)) W ∧ W.cell? ⟨wi.heap.size, 0, none⟩ = some (.int .i64 r.pre.bits) ∧ W.cell? ⟨wi.heap.size, 1, none⟩ = some (.int .i64 r.pre.len) ∧
                          W.cell? ⟨wo.heap.size, 0, none⟩ = some (.int .i64 (u.length : Int)) ∧ (keyLoad ⟨B12, 0, none⟩).run Try.prog W = .ok (.agg (kc q)) W ∧ W.cell? ⟨wo.heap.size + 1, b * 2, none⟩ = some (.int .i64 (x.1 : Nat)) ∧
                          W.heap[wo.heap.size + 1]? = some (.cells (nc ((ndU T u b).setSl b x)) 104 (0, 0)) ∧ W.heap[B12]? = some (.cells (kc q) 24 (0, 0)) ∧ Below w9.heap.size w9 W) := fun W h => by
                        have h1 : Below wi.heap.size wi W := HL14.out.trans (h.mono HL14.out.size)
                        have h2 := HWi.out.trans (h1.mono HWi.out.size)
                        have h14 : W.heap[wi.heap.size]? = some (.cells (pc r.pre) 26 (0, 0)) := (h.block _ (Array.getElem?_eq_some_iff.1 HX14.out).1).trans HX14.out
                        have hn : W.heap[wo.heap.size + 1]? = some (.cells (nc ((ndU T u b).setSl b x)) 104 (0, 0)) := (h1.block _ (Array.getElem?_eq_some_iff.1 HNi.out).1).trans HNi.out
                        have hk : W.heap[B12]? = some (.cells (kc q) 24 (0, 0)) := (h1.block _ (Array.getElem?_eq_some_iff.1 HKi.out).1).trans HKi.out
                        refine ⟨run_preLoad fun j y hy => ?_, ?_, ?_, ?_, run_keyLoad fun j y hy => ?_, ?_, hn, hk, h2⟩
                        · rw [cell_of h14, Nat.zero_add]; exact hy
                        · rw [cell_of h14]; exact pc_bits r.pre
                        · rw [cell_of h14]; exact pc_len r.pre
                        · have := (HK.out W h2).1 0 _ (show (wl u)[0]? = some (.int .i64 (u.length : Int)) from rfl)
                          rw [add_here] at this; exact this
                        · rw [cell_of hk, Nat.zero_add]; exact hy
                        · rw [cell_of hn, nc_at _ (by have := HBB.out; omega), Nat.mul_comm, ndC_len _ HBB.out]
                          show some (Value.int .i64 (((if b = b then x else (ndU T u b).sl b).1 : Nat) : Int)) = _
                          rw [if_pos rfl]
                      have HLAST := Lib.hid (fun W => last_any r HLST.out.1 HLST.out.2.1 W)
                      have HFIT := Lib.hid (fun W => rfits_any r.pre q r.hk HQB.out W)
                      clear hr hx hw14 hal hx14 hmr
                      go_wp2
                      clear lp hst
                      by_cases c1 : r.pre.bits = bits
                      · have C1b : (r.pre.bits == bits) = true := by rw [beq_iff_eq]; exact c1
                        have C1h := Lib.hid c1
                        clear c1
                        by_cases c2 : lastN r = u.length
                        · have C2b : ((lastN r : Int) == (u.length : Int)) = true := by rw [beq_iff_eq]; omega
                          have C2n : (lastN r == u.length) = true := by rw [beq_iff_eq]; exact c2
                          have C2h := Lib.hid c2
                          clear c2
                          cases c3 : fitsB r.pre q with
                          | false =>
                            rw [c3] at HFIT
                            have HD : Hid (slotD bits q u.length x r = x) := by show _ = _; unfold slotD; rw [if_neg (fun h => by have := h.2.2.1; rw [c3] at this; cases this)]
                            clear c3
                            refine region_slots (by kernel_rfl) (by kernel_rfl) (Gof [Gd.eq (.pointer (some ⟨wi.heap.size, 0, none⟩)), Gd.eq (.int .i64 r.pre.bits), Gd.eq (.int .i64 bits), Gd.eq (.bool true), Gd.eq (.bool true), Gd.eq (.agg (pc r.pre)), Gd.eq (.int .i64 (lastN r : Nat)), Gd.eq (.pointer (some ⟨wo.heap.size, 0, none⟩)), Gd.eq (.int .i64 (u.length : Int)), Gd.eq (.bool true), Gd.eq (.bool true), Gd.eq (.bool true), Gd.eq (.agg (pc r.pre)), Gd.eq (.agg (kc q)), Gd.eq (.bool false), Gd.eq (.bool false), Gd.eq (.bool false), Gd.any, Gd.any, Gd.any, Gd.any, Gd.any, Gd.any, Gd.any, Gd.any, Gd.eq (Value.bool false)]) (Gof_st _) (steps_all ?_) ?_
                            · dsimp only
                              refine StepsFrom.cons ?s0 (StepsFrom.cons ?s1 (StepsFrom.cons ?s2 (StepsFrom.cons ?s3 (StepsFrom.cons ?s4 (StepsFrom.cons ?s5 (StepsFrom.cons ?s6 (StepsFrom.cons ?s7 (StepsFrom.cons ?s8 (StepsFrom.cons ?s9 (StepsFrom.cons ?s10 (StepsFrom.cons ?s11 (StepsFrom.cons ?s12 (StepsFrom.cons ?s13 (StepsFrom.cons ?s14 (StepsFrom.cons ?s15 (StepsFrom.cons ?s16 (StepsFrom.cons ?s17 (StepsFrom.cons ?s18 (StepsFrom.cons ?s19 (StepsFrom.cons ?s20 (StepsFrom.cons ?s21 (StepsFrom.cons ?s22 (StepsFrom.cons ?s23 (StepsFrom.cons ?s24 (StepsFrom.cons ?s25 StepsFrom.nil)))))))))))))))))))))))))
                              case s0 =>
                                intro ac wc hU
                                have e14 : slot ac 14 = .pointer (some ⟨wi.heap.size, 0, none⟩) := (hU.keep 14 (by kernel_rfl)).trans rfl
                                refine step_val (wanted_none rfl) (v := .pointer (some ⟨wi.heap.size, 0, none⟩)) ?_ rfl
                                have e14 : slot ac 14 = .pointer (some ⟨wi.heap.size, 0, none⟩) := e14
                                simp [execOp, eval_tmp, e14] <;> go_simp
                              case s1 =>
                                intro ac wc hU
                                have e68 : (Gd.eq (.pointer (some ⟨wi.heap.size, 0, none⟩))).p (slot ac 68) wc := hU.dep 0 68 (by kernel_rfl)
                                refine step_val (wanted_none rfl) (v := .int .i64 r.pre.bits) ?_ rfl
                                have hc := (HFF.out wc hU.below).2.1
                                have e68 : slot ac 68 = .pointer (some ⟨wi.heap.size, 0, none⟩) := e68
                                simp [execOp, eval_tmp, e68] <;> go_simp
                              case s2 =>
                                intro ac wc hU
                                have e1 : slot ac 1 = .int .i64 bits := (hU.keep 1 (by kernel_rfl)).trans rfl
                                refine step_val (wanted_none rfl) (run_move rfl) ?_
                                show (Gd.eq (.int .i64 bits)).p _ wc
                                exact (by rw [eval_tmp]; exact e1)
                              case s3 =>
                                intro ac wc hU
                                have e69 : (Gd.eq (.int .i64 r.pre.bits)).p (slot ac 69) wc := hU.dep 1 69 (by kernel_rfl)
                                have e70 : (Gd.eq (.int .i64 bits)).p (slot ac 70) wc := hU.dep 2 70 (by kernel_rfl)
                                refine step_val (wanted_none rfl) (v := .bool true) ?_ rfl
                                have e69 : slot ac 69 = .int .i64 r.pre.bits := e69
                                have e70 : slot ac 70 = .int .i64 bits := e70
                                simp [execOp, eval_tmp, e69, e70] <;> go_simp
                              case s4 =>
                                intro ac wc hU
                                have e71 : (Gd.eq (.bool true)).p (slot ac 71) wc := hU.dep 3 71 (by kernel_rfl)
                                refine step_val (wanted_none rfl) (run_move rfl) ?_
                                show (Gd.eq (.bool true)).p _ wc
                                exact (by rw [eval_tmp]; exact e71)
                              case s5 =>
                                intro ac wc hU
                                have e14 : slot ac 14 = .pointer (some ⟨wi.heap.size, 0, none⟩) := (hU.keep 14 (by kernel_rfl)).trans rfl
                                have e72 : (Gd.eq (.bool true)).p (slot ac 72) wc := hU.dep 4 72 (by kernel_rfl)
                                refine step_val ((wanted_some rfl rfl e72).trans rfl) (v := .agg (pc r.pre)) ?_ rfl
                                have hc := (HFF.out wc hU.below).1
                                have e14 : slot ac 14 = .pointer (some ⟨wi.heap.size, 0, none⟩) := e14
                                simp [execOp, eval_tmp, e14] <;> go_simp
                              case s6 =>
                                intro ac wc hU
                                have e73 : (Gd.eq (.agg (pc r.pre))).p (slot ac 73) wc := hU.dep 5 73 (by kernel_rfl)
                                have e72 : (Gd.eq (.bool true)).p (slot ac 72) wc := hU.dep 4 72 (by kernel_rfl)
                                refine step_call ((wanted_some rfl rfl e72).trans rfl) (f := 59) (args := #[(.agg (pc r.pre))]) ?_ ?_
                                · have e73 : slot ac 73 = .agg (pc r.pre) := e73
                                  simp [execOp, resolve, invoke, eval_tmp, e73] <;> go_simp
                                · refine (HLAST.out wc).mono ?_
                                  rintro e w' ⟨rfl, hb⟩; exact ⟨_, rfl, hb, rfl⟩
                              case s7 =>
                                intro ac wc hU
                                have e9 : slot ac 9 = .pointer (some ⟨wo.heap.size, 0, none⟩) := (hU.keep 9 (by kernel_rfl)).trans rfl
                                have e72 : (Gd.eq (.bool true)).p (slot ac 72) wc := hU.dep 4 72 (by kernel_rfl)
                                refine step_val ((wanted_some rfl rfl e72).trans rfl) (v := .pointer (some ⟨wo.heap.size, 0, none⟩)) ?_ rfl
                                have e9 : slot ac 9 = .pointer (some ⟨wo.heap.size, 0, none⟩) := e9
                                simp [execOp, eval_tmp, e9] <;> go_simp
                              case s8 =>
                                intro ac wc hU
                                have e75 : (Gd.eq (.pointer (some ⟨wo.heap.size, 0, none⟩))).p (slot ac 75) wc := hU.dep 7 75 (by kernel_rfl)
                                have e72 : (Gd.eq (.bool true)).p (slot ac 72) wc := hU.dep 4 72 (by kernel_rfl)
                                refine step_val ((wanted_some rfl rfl e72).trans rfl) (v := .int .i64 (u.length : Int)) ?_ rfl
                                have hc := (HFF.out wc hU.below).2.2.2.1
                                have e75 : slot ac 75 = .pointer (some ⟨wo.heap.size, 0, none⟩) := e75
                                simp [execOp, eval_tmp, e75] <;> go_simp
                              case s9 =>
                                intro ac wc hU
                                have e74 : (Gd.eq (.int .i64 (lastN r : Nat))).p (slot ac 74) wc := hU.dep 6 74 (by kernel_rfl)
                                have e76 : (Gd.eq (.int .i64 (u.length : Int))).p (slot ac 76) wc := hU.dep 8 76 (by kernel_rfl)
                                have e72 : (Gd.eq (.bool true)).p (slot ac 72) wc := hU.dep 4 72 (by kernel_rfl)
                                refine step_val ((wanted_some rfl rfl e72).trans rfl) (v := .bool true) ?_ rfl
                                have e74 : slot ac 74 = .int .i64 (lastN r : Nat) := e74
                                have e76 : slot ac 76 = .int .i64 (u.length : Int) := e76
                                simp [execOp, eval_tmp, e74, e76] <;> go_simp
                              case s10 =>
                                intro ac wc hU
                                have e72 : (Gd.eq (.bool true)).p (slot ac 72) wc := hU.dep 4 72 (by kernel_rfl)
                                have e77 : (Gd.eq (.bool true)).p (slot ac 77) wc := hU.dep 9 77 (by kernel_rfl)
                                refine step_val (wanted_none rfl) (run_pick (b := true) rfl (by rw [eval_tmp]; exact e72)) ?_
                                show (Gd.eq (.bool true)).p (if true = true then _ else _) wc
                                rw [if_pos rfl]
                                exact (by rw [eval_tmp]; exact e77)
                              case s11 =>
                                intro ac wc hU
                                have e78 : (Gd.eq (.bool true)).p (slot ac 78) wc := hU.dep 10 78 (by kernel_rfl)
                                refine step_val (wanted_none rfl) (run_move rfl) ?_
                                show (Gd.eq (.bool true)).p _ wc
                                exact (by rw [eval_tmp]; exact e78)
                              case s12 =>
                                intro ac wc hU
                                have e14 : slot ac 14 = .pointer (some ⟨wi.heap.size, 0, none⟩) := (hU.keep 14 (by kernel_rfl)).trans rfl
                                have e79 : (Gd.eq (.bool true)).p (slot ac 79) wc := hU.dep 11 79 (by kernel_rfl)
                                refine step_val ((wanted_some rfl rfl e79).trans rfl) (v := .agg (pc r.pre)) ?_ rfl
                                have hc := (HFF.out wc hU.below).1
                                have e14 : slot ac 14 = .pointer (some ⟨wi.heap.size, 0, none⟩) := e14
                                simp [execOp, eval_tmp, e14] <;> go_simp
                              case s13 =>
                                intro ac wc hU
                                have e12 : slot ac 12 = .pointer (some ⟨B12, 0, none⟩) := (hU.keep 12 (by kernel_rfl)).trans rfl
                                have e79 : (Gd.eq (.bool true)).p (slot ac 79) wc := hU.dep 11 79 (by kernel_rfl)
                                refine step_val ((wanted_some rfl rfl e79).trans rfl) (v := .agg (kc q)) ?_ rfl
                                have hc := (HFF.out wc hU.below).2.2.2.2.1
                                have e12 : slot ac 12 = .pointer (some ⟨B12, 0, none⟩) := e12
                                simp [execOp, eval_tmp, e12] <;> go_simp
                              case s14 =>
                                intro ac wc hU
                                have e80 : (Gd.eq (.agg (pc r.pre))).p (slot ac 80) wc := hU.dep 12 80 (by kernel_rfl)
                                have e81 : (Gd.eq (.agg (kc q))).p (slot ac 81) wc := hU.dep 13 81 (by kernel_rfl)
                                have e79 : (Gd.eq (.bool true)).p (slot ac 79) wc := hU.dep 11 79 (by kernel_rfl)
                                refine step_call ((wanted_some rfl rfl e79).trans rfl) (f := 53) (args := #[(.agg (pc r.pre)), (.agg (kc q))]) ?_ ?_
                                · have e80 : slot ac 80 = .agg (pc r.pre) := e80
                                  have e81 : slot ac 81 = .agg (kc q) := e81
                                  simp [execOp, resolve, invoke, eval_tmp, e80, e81] <;> go_simp
                                · refine (HFIT.out wc).mono ?_
                                  rintro e w' ⟨rfl, hb⟩; exact ⟨_, rfl, hb, rfl⟩
                              case s15 =>
                                intro ac wc hU
                                have e79 : (Gd.eq (.bool true)).p (slot ac 79) wc := hU.dep 11 79 (by kernel_rfl)
                                have e82 : (Gd.eq (.bool false)).p (slot ac 82) wc := hU.dep 14 82 (by kernel_rfl)
                                refine step_val (wanted_none rfl) (run_pick (b := true) rfl (by rw [eval_tmp]; exact e79)) ?_
                                show (Gd.eq (.bool false)).p (if true = true then _ else _) wc
                                rw [if_pos rfl]
                                exact (by rw [eval_tmp]; exact e82)
                              case s16 =>
                                intro ac wc hU
                                have e83 : (Gd.eq (.bool false)).p (slot ac 83) wc := hU.dep 15 83 (by kernel_rfl)
                                refine step_val (wanted_none rfl) (run_move rfl) ?_
                                show (Gd.eq (.bool false)).p _ wc
                                exact (by rw [eval_tmp]; exact e83)
                              case s17 =>
                                intro ac wc hU
                                have e14 : slot ac 14 = .pointer (some ⟨wi.heap.size, 0, none⟩) := (hU.keep 14 (by kernel_rfl)).trans rfl
                                have e84 : (Gd.eq (.bool false)).p (slot ac 84) wc := hU.dep 16 84 (by kernel_rfl)
                                exact step_skip ((wanted_some rfl rfl e84).trans rfl) trivial
                              case s18 =>
                                intro ac wc hU
                                have e85 : (Gd.any).p (slot ac 85) wc := hU.dep 17 85 (by kernel_rfl)
                                have e84 : (Gd.eq (.bool false)).p (slot ac 84) wc := hU.dep 16 84 (by kernel_rfl)
                                exact step_skip ((wanted_some rfl rfl e84).trans rfl) trivial
                              case s19 =>
                                intro ac wc hU
                                have e11 : slot ac 11 = .int .i64 (b : Int) := (hU.keep 11 (by kernel_rfl)).trans rfl
                                have e84 : (Gd.eq (.bool false)).p (slot ac 84) wc := hU.dep 16 84 (by kernel_rfl)
                                exact step_skip ((wanted_some rfl rfl e84).trans rfl) trivial
                              case s20 =>
                                intro ac wc hU
                                have e10 : slot ac 10 = .pointer (some ⟨wo.heap.size + 1, 0, none⟩) := (hU.keep 10 (by kernel_rfl)).trans rfl
                                have e84 : (Gd.eq (.bool false)).p (slot ac 84) wc := hU.dep 16 84 (by kernel_rfl)
                                exact step_skip ((wanted_some rfl rfl e84).trans rfl) trivial
                              case s21 =>
                                intro ac wc hU
                                have e87 : (Gd.any).p (slot ac 87) wc := hU.dep 19 87 (by kernel_rfl)
                                have e88 : (Gd.any).p (slot ac 88) wc := hU.dep 20 88 (by kernel_rfl)
                                have e84 : (Gd.eq (.bool false)).p (slot ac 84) wc := hU.dep 16 84 (by kernel_rfl)
                                exact step_skip ((wanted_some rfl rfl e84).trans rfl) trivial
                              case s22 =>
                                intro ac wc hU
                                have e89 : (Gd.any).p (slot ac 89) wc := hU.dep 21 89 (by kernel_rfl)
                                have e84 : (Gd.eq (.bool false)).p (slot ac 84) wc := hU.dep 16 84 (by kernel_rfl)
                                exact step_skip ((wanted_some rfl rfl e84).trans rfl) trivial
                              case s23 =>
                                intro ac wc hU
                                have e90 : (Gd.any).p (slot ac 90) wc := hU.dep 22 90 (by kernel_rfl)
                                have e84 : (Gd.eq (.bool false)).p (slot ac 84) wc := hU.dep 16 84 (by kernel_rfl)
                                exact step_skip ((wanted_some rfl rfl e84).trans rfl) trivial
                              case s24 =>
                                intro ac wc hU
                                have e86 : (Gd.any).p (slot ac 86) wc := hU.dep 18 86 (by kernel_rfl)
                                have e91 : (Gd.any).p (slot ac 91) wc := hU.dep 23 91 (by kernel_rfl)
                                have e84 : (Gd.eq (.bool false)).p (slot ac 84) wc := hU.dep 16 84 (by kernel_rfl)
                                exact step_skip ((wanted_some rfl rfl e84).trans rfl) trivial
                              case s25 =>
                                intro ac wc hU
                                have e84 : (Gd.eq (.bool false)).p (slot ac 84) wc := hU.dep 16 84 (by kernel_rfl)
                                have e92 : (Gd.any).p (slot ac 92) wc := hU.dep 24 92 (by kernel_rfl)
                                refine step_val (wanted_none rfl) (run_pick (b := false) rfl (by rw [eval_tmp]; exact e84)) ?_
                                show (Gd.eq (Value.bool false)).p (if false = true then _ else _) wc
                                rw [if_neg (by decide)]
                                exact (rfl)
                            intro ac wc hU
                            have hlit := act_puts hU (by kernel_rfl) [68, 69, 70, 71, 72, 73, 74, 75, 76, 77, 78, 79, 80, 81, 82, 83, 84, 85, 86, 87, 88, 89, 90, 91, 92, 93] (by kernel_rfl)
                            have f68 : slot ac 68 = .pointer (some ⟨wi.heap.size, 0, none⟩) := hU.last 0 68 (by kernel_rfl)
                            have f69 : slot ac 69 = .int .i64 r.pre.bits := hU.last 1 69 (by kernel_rfl)
                            have f70 : slot ac 70 = .int .i64 bits := hU.last 2 70 (by kernel_rfl)
                            have f71 : slot ac 71 = .bool true := hU.last 3 71 (by kernel_rfl)
                            have f72 : slot ac 72 = .bool true := hU.last 4 72 (by kernel_rfl)
                            have f73 : slot ac 73 = .agg (pc r.pre) := hU.last 5 73 (by kernel_rfl)
                            have f74 : slot ac 74 = .int .i64 (lastN r : Nat) := hU.last 6 74 (by kernel_rfl)
                            have f75 : slot ac 75 = .pointer (some ⟨wo.heap.size, 0, none⟩) := hU.last 7 75 (by kernel_rfl)
                            have f76 : slot ac 76 = .int .i64 (u.length : Int) := hU.last 8 76 (by kernel_rfl)
                            have f77 : slot ac 77 = .bool true := hU.last 9 77 (by kernel_rfl)
                            have f78 : slot ac 78 = .bool true := hU.last 10 78 (by kernel_rfl)
                            have f79 : slot ac 79 = .bool true := hU.last 11 79 (by kernel_rfl)
                            have f80 : slot ac 80 = .agg (pc r.pre) := hU.last 12 80 (by kernel_rfl)
                            have f81 : slot ac 81 = .agg (kc q) := hU.last 13 81 (by kernel_rfl)
                            have f82 : slot ac 82 = .bool false := hU.last 14 82 (by kernel_rfl)
                            have f83 : slot ac 83 = .bool false := hU.last 15 83 (by kernel_rfl)
                            have f84 : slot ac 84 = .bool false := hU.last 16 84 (by kernel_rfl)
                            have f93 : slot ac 93 = Value.bool false := hU.last 25 93 (by kernel_rfl)
                            have HWD : Hid (Below w14.heap.size w14 wc) := hU.below
                            simp only [puts, List.foldl, Act.put, List.setIfInBounds_toArray, List.set_cons_zero, List.set_cons_succ, f68, f69, f70, f71, f72, f73, f74, f75, f76, f77, f78, f79, f80, f81, f82, f83, f84, f93] at hlit
                            rw [hlit]
                            clear hlit hU f68 f69 f70 f71 f72 f73 f74 f75 f76 f77 f78 f79 f80 f81 f82 f83 f84 f93
                            generalize wc = wd at HWD ⊢
                            have HE := Lib.hid (HFF.out wd HWD.out)
                            clear HWD
                            go_wp2
                            go_roundw
                            case rel => exact ⟨i + 1, by omega, by go_num, by rw [HNX.out, HD.out]; exact HE.out.2.2.2.2.2.2.1, HE.out.2.2.2.2.2.2.2.1, HE.out.2.2.2.2.2.2.2.2⟩
                            case measure => simp [intOf]; omega
                          | true =>
                            rw [c3] at HFIT
                            by_cases c4 : (x.1 : Int) ≤ r.pre.len
                            · have C4b : decide ((x.1 : Int) ≤ r.pre.len) = true := decide_eq_true c4
                              have HD : Hid (slotD bits q u.length x r = slotR r) := by show _ = _; unfold slotD; rw [if_pos ⟨C1h.out, C2h.out, c3, c4⟩]
                              clear c3
                              refine region_slots (by kernel_rfl) (by kernel_rfl) (Gof [Gd.eq (.pointer (some ⟨wi.heap.size, 0, none⟩)), Gd.eq (.int .i64 r.pre.bits), Gd.eq (.int .i64 bits), Gd.eq (.bool true), Gd.eq (.bool true), Gd.eq (.agg (pc r.pre)), Gd.eq (.int .i64 (lastN r : Nat)), Gd.eq (.pointer (some ⟨wo.heap.size, 0, none⟩)), Gd.eq (.int .i64 (u.length : Int)), Gd.eq (.bool true), Gd.eq (.bool true), Gd.eq (.bool true), Gd.eq (.agg (pc r.pre)), Gd.eq (.agg (kc q)), Gd.eq (.bool true), Gd.eq (.bool true), Gd.eq (.bool true), Gd.eq (.pointer (some ⟨wi.heap.size, 1, none⟩)), Gd.eq (.int .i64 r.pre.len), Gd.eq (.int .i64 (b : Int)), Gd.eq (.pointer (some ⟨wo.heap.size + 1, 0, none⟩)), Gd.eq (.pointer (some ⟨wo.heap.size + 1, b * 2, none⟩)), Gd.eq (.pointer (some ⟨wo.heap.size + 1, b * 2, none⟩)), Gd.eq (.int .i64 (x.1 : Nat)), Gd.eq (.bool true), Gd.eq (.bool true)]) (Gof_st _) (steps_all ?_) ?_
                              · dsimp only
                                refine StepsFrom.cons ?s0 (StepsFrom.cons ?s1 (StepsFrom.cons ?s2 (StepsFrom.cons ?s3 (StepsFrom.cons ?s4 (StepsFrom.cons ?s5 (StepsFrom.cons ?s6 (StepsFrom.cons ?s7 (StepsFrom.cons ?s8 (StepsFrom.cons ?s9 (StepsFrom.cons ?s10 (StepsFrom.cons ?s11 (StepsFrom.cons ?s12 (StepsFrom.cons ?s13 (StepsFrom.cons ?s14 (StepsFrom.cons ?s15 (StepsFrom.cons ?s16 (StepsFrom.cons ?s17 (StepsFrom.cons ?s18 (StepsFrom.cons ?s19 (StepsFrom.cons ?s20 (StepsFrom.cons ?s21 (StepsFrom.cons ?s22 (StepsFrom.cons ?s23 (StepsFrom.cons ?s24 (StepsFrom.cons ?s25 StepsFrom.nil)))))))))))))))))))))))))
                                case s0 =>
                                  intro ac wc hU
                                  have e14 : slot ac 14 = .pointer (some ⟨wi.heap.size, 0, none⟩) := (hU.keep 14 (by kernel_rfl)).trans rfl
                                  refine step_val (wanted_none rfl) (v := .pointer (some ⟨wi.heap.size, 0, none⟩)) ?_ rfl
                                  have e14 : slot ac 14 = .pointer (some ⟨wi.heap.size, 0, none⟩) := e14
                                  simp [execOp, eval_tmp, e14] <;> go_simp
                                case s1 =>
                                  intro ac wc hU
                                  have e68 : (Gd.eq (.pointer (some ⟨wi.heap.size, 0, none⟩))).p (slot ac 68) wc := hU.dep 0 68 (by kernel_rfl)
                                  refine step_val (wanted_none rfl) (v := .int .i64 r.pre.bits) ?_ rfl
                                  have hc := (HFF.out wc hU.below).2.1
                                  have e68 : slot ac 68 = .pointer (some ⟨wi.heap.size, 0, none⟩) := e68
                                  simp [execOp, eval_tmp, e68] <;> go_simp
                                case s2 =>
                                  intro ac wc hU
                                  have e1 : slot ac 1 = .int .i64 bits := (hU.keep 1 (by kernel_rfl)).trans rfl
                                  refine step_val (wanted_none rfl) (run_move rfl) ?_
                                  show (Gd.eq (.int .i64 bits)).p _ wc
                                  exact (by rw [eval_tmp]; exact e1)
                                case s3 =>
                                  intro ac wc hU
                                  have e69 : (Gd.eq (.int .i64 r.pre.bits)).p (slot ac 69) wc := hU.dep 1 69 (by kernel_rfl)
                                  have e70 : (Gd.eq (.int .i64 bits)).p (slot ac 70) wc := hU.dep 2 70 (by kernel_rfl)
                                  refine step_val (wanted_none rfl) (v := .bool true) ?_ rfl
                                  have e69 : slot ac 69 = .int .i64 r.pre.bits := e69
                                  have e70 : slot ac 70 = .int .i64 bits := e70
                                  simp [execOp, eval_tmp, e69, e70] <;> go_simp
                                case s4 =>
                                  intro ac wc hU
                                  have e71 : (Gd.eq (.bool true)).p (slot ac 71) wc := hU.dep 3 71 (by kernel_rfl)
                                  refine step_val (wanted_none rfl) (run_move rfl) ?_
                                  show (Gd.eq (.bool true)).p _ wc
                                  exact (by rw [eval_tmp]; exact e71)
                                case s5 =>
                                  intro ac wc hU
                                  have e14 : slot ac 14 = .pointer (some ⟨wi.heap.size, 0, none⟩) := (hU.keep 14 (by kernel_rfl)).trans rfl
                                  have e72 : (Gd.eq (.bool true)).p (slot ac 72) wc := hU.dep 4 72 (by kernel_rfl)
                                  refine step_val ((wanted_some rfl rfl e72).trans rfl) (v := .agg (pc r.pre)) ?_ rfl
                                  have hc := (HFF.out wc hU.below).1
                                  have e14 : slot ac 14 = .pointer (some ⟨wi.heap.size, 0, none⟩) := e14
                                  simp [execOp, eval_tmp, e14] <;> go_simp
                                case s6 =>
                                  intro ac wc hU
                                  have e73 : (Gd.eq (.agg (pc r.pre))).p (slot ac 73) wc := hU.dep 5 73 (by kernel_rfl)
                                  have e72 : (Gd.eq (.bool true)).p (slot ac 72) wc := hU.dep 4 72 (by kernel_rfl)
                                  refine step_call ((wanted_some rfl rfl e72).trans rfl) (f := 59) (args := #[(.agg (pc r.pre))]) ?_ ?_
                                  · have e73 : slot ac 73 = .agg (pc r.pre) := e73
                                    simp [execOp, resolve, invoke, eval_tmp, e73] <;> go_simp
                                  · refine (HLAST.out wc).mono ?_
                                    rintro e w' ⟨rfl, hb⟩; exact ⟨_, rfl, hb, rfl⟩
                                case s7 =>
                                  intro ac wc hU
                                  have e9 : slot ac 9 = .pointer (some ⟨wo.heap.size, 0, none⟩) := (hU.keep 9 (by kernel_rfl)).trans rfl
                                  have e72 : (Gd.eq (.bool true)).p (slot ac 72) wc := hU.dep 4 72 (by kernel_rfl)
                                  refine step_val ((wanted_some rfl rfl e72).trans rfl) (v := .pointer (some ⟨wo.heap.size, 0, none⟩)) ?_ rfl
                                  have e9 : slot ac 9 = .pointer (some ⟨wo.heap.size, 0, none⟩) := e9
                                  simp [execOp, eval_tmp, e9] <;> go_simp
                                case s8 =>
                                  intro ac wc hU
                                  have e75 : (Gd.eq (.pointer (some ⟨wo.heap.size, 0, none⟩))).p (slot ac 75) wc := hU.dep 7 75 (by kernel_rfl)
                                  have e72 : (Gd.eq (.bool true)).p (slot ac 72) wc := hU.dep 4 72 (by kernel_rfl)
                                  refine step_val ((wanted_some rfl rfl e72).trans rfl) (v := .int .i64 (u.length : Int)) ?_ rfl
                                  have hc := (HFF.out wc hU.below).2.2.2.1
                                  have e75 : slot ac 75 = .pointer (some ⟨wo.heap.size, 0, none⟩) := e75
                                  simp [execOp, eval_tmp, e75] <;> go_simp
                                case s9 =>
                                  intro ac wc hU
                                  have e74 : (Gd.eq (.int .i64 (lastN r : Nat))).p (slot ac 74) wc := hU.dep 6 74 (by kernel_rfl)
                                  have e76 : (Gd.eq (.int .i64 (u.length : Int))).p (slot ac 76) wc := hU.dep 8 76 (by kernel_rfl)
                                  have e72 : (Gd.eq (.bool true)).p (slot ac 72) wc := hU.dep 4 72 (by kernel_rfl)
                                  refine step_val ((wanted_some rfl rfl e72).trans rfl) (v := .bool true) ?_ rfl
                                  have e74 : slot ac 74 = .int .i64 (lastN r : Nat) := e74
                                  have e76 : slot ac 76 = .int .i64 (u.length : Int) := e76
                                  simp [execOp, eval_tmp, e74, e76] <;> go_simp
                                case s10 =>
                                  intro ac wc hU
                                  have e72 : (Gd.eq (.bool true)).p (slot ac 72) wc := hU.dep 4 72 (by kernel_rfl)
                                  have e77 : (Gd.eq (.bool true)).p (slot ac 77) wc := hU.dep 9 77 (by kernel_rfl)
                                  refine step_val (wanted_none rfl) (run_pick (b := true) rfl (by rw [eval_tmp]; exact e72)) ?_
                                  show (Gd.eq (.bool true)).p (if true = true then _ else _) wc
                                  rw [if_pos rfl]
                                  exact (by rw [eval_tmp]; exact e77)
                                case s11 =>
                                  intro ac wc hU
                                  have e78 : (Gd.eq (.bool true)).p (slot ac 78) wc := hU.dep 10 78 (by kernel_rfl)
                                  refine step_val (wanted_none rfl) (run_move rfl) ?_
                                  show (Gd.eq (.bool true)).p _ wc
                                  exact (by rw [eval_tmp]; exact e78)
                                case s12 =>
                                  intro ac wc hU
                                  have e14 : slot ac 14 = .pointer (some ⟨wi.heap.size, 0, none⟩) := (hU.keep 14 (by kernel_rfl)).trans rfl
                                  have e79 : (Gd.eq (.bool true)).p (slot ac 79) wc := hU.dep 11 79 (by kernel_rfl)
                                  refine step_val ((wanted_some rfl rfl e79).trans rfl) (v := .agg (pc r.pre)) ?_ rfl
                                  have hc := (HFF.out wc hU.below).1
                                  have e14 : slot ac 14 = .pointer (some ⟨wi.heap.size, 0, none⟩) := e14
                                  simp [execOp, eval_tmp, e14] <;> go_simp
                                case s13 =>
                                  intro ac wc hU
                                  have e12 : slot ac 12 = .pointer (some ⟨B12, 0, none⟩) := (hU.keep 12 (by kernel_rfl)).trans rfl
                                  have e79 : (Gd.eq (.bool true)).p (slot ac 79) wc := hU.dep 11 79 (by kernel_rfl)
                                  refine step_val ((wanted_some rfl rfl e79).trans rfl) (v := .agg (kc q)) ?_ rfl
                                  have hc := (HFF.out wc hU.below).2.2.2.2.1
                                  have e12 : slot ac 12 = .pointer (some ⟨B12, 0, none⟩) := e12
                                  simp [execOp, eval_tmp, e12] <;> go_simp
                                case s14 =>
                                  intro ac wc hU
                                  have e80 : (Gd.eq (.agg (pc r.pre))).p (slot ac 80) wc := hU.dep 12 80 (by kernel_rfl)
                                  have e81 : (Gd.eq (.agg (kc q))).p (slot ac 81) wc := hU.dep 13 81 (by kernel_rfl)
                                  have e79 : (Gd.eq (.bool true)).p (slot ac 79) wc := hU.dep 11 79 (by kernel_rfl)
                                  refine step_call ((wanted_some rfl rfl e79).trans rfl) (f := 53) (args := #[(.agg (pc r.pre)), (.agg (kc q))]) ?_ ?_
                                  · have e80 : slot ac 80 = .agg (pc r.pre) := e80
                                    have e81 : slot ac 81 = .agg (kc q) := e81
                                    simp [execOp, resolve, invoke, eval_tmp, e80, e81] <;> go_simp
                                  · refine (HFIT.out wc).mono ?_
                                    rintro e w' ⟨rfl, hb⟩; exact ⟨_, rfl, hb, rfl⟩
                                case s15 =>
                                  intro ac wc hU
                                  have e79 : (Gd.eq (.bool true)).p (slot ac 79) wc := hU.dep 11 79 (by kernel_rfl)
                                  have e82 : (Gd.eq (.bool true)).p (slot ac 82) wc := hU.dep 14 82 (by kernel_rfl)
                                  refine step_val (wanted_none rfl) (run_pick (b := true) rfl (by rw [eval_tmp]; exact e79)) ?_
                                  show (Gd.eq (.bool true)).p (if true = true then _ else _) wc
                                  rw [if_pos rfl]
                                  exact (by rw [eval_tmp]; exact e82)
                                case s16 =>
                                  intro ac wc hU
                                  have e83 : (Gd.eq (.bool true)).p (slot ac 83) wc := hU.dep 15 83 (by kernel_rfl)
                                  refine step_val (wanted_none rfl) (run_move rfl) ?_
                                  show (Gd.eq (.bool true)).p _ wc
                                  exact (by rw [eval_tmp]; exact e83)
                                case s17 =>
                                  intro ac wc hU
                                  have e14 : slot ac 14 = .pointer (some ⟨wi.heap.size, 0, none⟩) := (hU.keep 14 (by kernel_rfl)).trans rfl
                                  have e84 : (Gd.eq (.bool true)).p (slot ac 84) wc := hU.dep 16 84 (by kernel_rfl)
                                  refine step_val ((wanted_some rfl rfl e84).trans rfl) (v := .pointer (some ⟨wi.heap.size, 1, none⟩)) ?_ rfl
                                  have e14 : slot ac 14 = .pointer (some ⟨wi.heap.size, 0, none⟩) := e14
                                  simp [execOp, eval_tmp, e14] <;> go_simp
                                case s18 =>
                                  intro ac wc hU
                                  have e85 : (Gd.eq (.pointer (some ⟨wi.heap.size, 1, none⟩))).p (slot ac 85) wc := hU.dep 17 85 (by kernel_rfl)
                                  have e84 : (Gd.eq (.bool true)).p (slot ac 84) wc := hU.dep 16 84 (by kernel_rfl)
                                  refine step_val ((wanted_some rfl rfl e84).trans rfl) (v := .int .i64 r.pre.len) ?_ rfl
                                  have hc := (HFF.out wc hU.below).2.2.1
                                  have e85 : slot ac 85 = .pointer (some ⟨wi.heap.size, 1, none⟩) := e85
                                  simp [execOp, eval_tmp, e85] <;> go_simp
                                case s19 =>
                                  intro ac wc hU
                                  have e11 : slot ac 11 = .int .i64 (b : Int) := (hU.keep 11 (by kernel_rfl)).trans rfl
                                  have e84 : (Gd.eq (.bool true)).p (slot ac 84) wc := hU.dep 16 84 (by kernel_rfl)
                                  refine step_val ((wanted_some rfl rfl e84).trans rfl) (run_move rfl) ?_
                                  show (Gd.eq (.int .i64 (b : Int))).p _ wc
                                  exact (by rw [eval_tmp]; exact e11)
                                case s20 =>
                                  intro ac wc hU
                                  have e10 : slot ac 10 = .pointer (some ⟨wo.heap.size + 1, 0, none⟩) := (hU.keep 10 (by kernel_rfl)).trans rfl
                                  have e84 : (Gd.eq (.bool true)).p (slot ac 84) wc := hU.dep 16 84 (by kernel_rfl)
                                  refine step_val ((wanted_some rfl rfl e84).trans rfl) (v := .pointer (some ⟨wo.heap.size + 1, 0, none⟩)) ?_ rfl
                                  have e10 : slot ac 10 = .pointer (some ⟨wo.heap.size + 1, 0, none⟩) := e10
                                  simp [execOp, eval_tmp, e10] <;> go_simp
                                case s21 =>
                                  intro ac wc hU
                                  have e87 : (Gd.eq (.int .i64 (b : Int))).p (slot ac 87) wc := hU.dep 19 87 (by kernel_rfl)
                                  have e88 : (Gd.eq (.pointer (some ⟨wo.heap.size + 1, 0, none⟩))).p (slot ac 88) wc := hU.dep 20 88 (by kernel_rfl)
                                  have e84 : (Gd.eq (.bool true)).p (slot ac 84) wc := hU.dep 16 84 (by kernel_rfl)
                                  refine step_val ((wanted_some rfl rfl e84).trans rfl) (v := .pointer (some ⟨wo.heap.size + 1, b * 2, none⟩)) ?_ rfl
                                  have e87 : slot ac 87 = .int .i64 (b : Int) := e87
                                  have e88 : slot ac 88 = .pointer (some ⟨wo.heap.size + 1, 0, none⟩) := e88
                                  simp [execOp, eval_tmp, e87, e88] <;> go_simp
                                case s22 =>
                                  intro ac wc hU
                                  have e89 : (Gd.eq (.pointer (some ⟨wo.heap.size + 1, b * 2, none⟩))).p (slot ac 89) wc := hU.dep 21 89 (by kernel_rfl)
                                  have e84 : (Gd.eq (.bool true)).p (slot ac 84) wc := hU.dep 16 84 (by kernel_rfl)
                                  refine step_val ((wanted_some rfl rfl e84).trans rfl) (v := .pointer (some ⟨wo.heap.size + 1, b * 2, none⟩)) ?_ rfl
                                  have e89 : slot ac 89 = .pointer (some ⟨wo.heap.size + 1, b * 2, none⟩) := e89
                                  simp [execOp, eval_tmp, e89] <;> go_simp
                                case s23 =>
                                  intro ac wc hU
                                  have e90 : (Gd.eq (.pointer (some ⟨wo.heap.size + 1, b * 2, none⟩))).p (slot ac 90) wc := hU.dep 22 90 (by kernel_rfl)
                                  have e84 : (Gd.eq (.bool true)).p (slot ac 84) wc := hU.dep 16 84 (by kernel_rfl)
                                  refine step_val ((wanted_some rfl rfl e84).trans rfl) (v := .int .i64 (x.1 : Nat)) ?_ rfl
                                  have hc := (HFF.out wc hU.below).2.2.2.2.2.1
                                  have e90 : slot ac 90 = .pointer (some ⟨wo.heap.size + 1, b * 2, none⟩) := e90
                                  simp [execOp, eval_tmp, e90] <;> go_simp
                                case s24 =>
                                  intro ac wc hU
                                  have e86 : (Gd.eq (.int .i64 r.pre.len)).p (slot ac 86) wc := hU.dep 18 86 (by kernel_rfl)
                                  have e91 : (Gd.eq (.int .i64 (x.1 : Nat))).p (slot ac 91) wc := hU.dep 23 91 (by kernel_rfl)
                                  have e84 : (Gd.eq (.bool true)).p (slot ac 84) wc := hU.dep 16 84 (by kernel_rfl)
                                  refine step_val ((wanted_some rfl rfl e84).trans rfl) (v := .bool true) ?_ rfl
                                  have e86 : slot ac 86 = .int .i64 r.pre.len := e86
                                  have e91 : slot ac 91 = .int .i64 (x.1 : Nat) := e91
                                  simp [execOp, eval_tmp, e86, e91] <;> go_simp
                                case s25 =>
                                  intro ac wc hU
                                  have e84 : (Gd.eq (.bool true)).p (slot ac 84) wc := hU.dep 16 84 (by kernel_rfl)
                                  have e92 : (Gd.eq (.bool true)).p (slot ac 92) wc := hU.dep 24 92 (by kernel_rfl)
                                  refine step_val (wanted_none rfl) (run_pick (b := true) rfl (by rw [eval_tmp]; exact e84)) ?_
                                  show (Gd.eq (.bool true)).p (if true = true then _ else _) wc
                                  rw [if_pos rfl]
                                  exact (by rw [eval_tmp]; exact e92)
                              intro ac wc hU
                              have hlit := act_puts hU (by kernel_rfl) [68, 69, 70, 71, 72, 73, 74, 75, 76, 77, 78, 79, 80, 81, 82, 83, 84, 85, 86, 87, 88, 89, 90, 91, 92, 93] (by kernel_rfl)
                              have f68 : slot ac 68 = .pointer (some ⟨wi.heap.size, 0, none⟩) := hU.last 0 68 (by kernel_rfl)
                              have f69 : slot ac 69 = .int .i64 r.pre.bits := hU.last 1 69 (by kernel_rfl)
                              have f70 : slot ac 70 = .int .i64 bits := hU.last 2 70 (by kernel_rfl)
                              have f71 : slot ac 71 = .bool true := hU.last 3 71 (by kernel_rfl)
                              have f72 : slot ac 72 = .bool true := hU.last 4 72 (by kernel_rfl)
                              have f73 : slot ac 73 = .agg (pc r.pre) := hU.last 5 73 (by kernel_rfl)
                              have f74 : slot ac 74 = .int .i64 (lastN r : Nat) := hU.last 6 74 (by kernel_rfl)
                              have f75 : slot ac 75 = .pointer (some ⟨wo.heap.size, 0, none⟩) := hU.last 7 75 (by kernel_rfl)
                              have f76 : slot ac 76 = .int .i64 (u.length : Int) := hU.last 8 76 (by kernel_rfl)
                              have f77 : slot ac 77 = .bool true := hU.last 9 77 (by kernel_rfl)
                              have f78 : slot ac 78 = .bool true := hU.last 10 78 (by kernel_rfl)
                              have f79 : slot ac 79 = .bool true := hU.last 11 79 (by kernel_rfl)
                              have f80 : slot ac 80 = .agg (pc r.pre) := hU.last 12 80 (by kernel_rfl)
                              have f81 : slot ac 81 = .agg (kc q) := hU.last 13 81 (by kernel_rfl)
                              have f82 : slot ac 82 = .bool true := hU.last 14 82 (by kernel_rfl)
                              have f83 : slot ac 83 = .bool true := hU.last 15 83 (by kernel_rfl)
                              have f84 : slot ac 84 = .bool true := hU.last 16 84 (by kernel_rfl)
                              have f85 : slot ac 85 = .pointer (some ⟨wi.heap.size, 1, none⟩) := hU.last 17 85 (by kernel_rfl)
                              have f86 : slot ac 86 = .int .i64 r.pre.len := hU.last 18 86 (by kernel_rfl)
                              have f87 : slot ac 87 = .int .i64 (b : Int) := hU.last 19 87 (by kernel_rfl)
                              have f88 : slot ac 88 = .pointer (some ⟨wo.heap.size + 1, 0, none⟩) := hU.last 20 88 (by kernel_rfl)
                              have f89 : slot ac 89 = .pointer (some ⟨wo.heap.size + 1, b * 2, none⟩) := hU.last 21 89 (by kernel_rfl)
                              have f90 : slot ac 90 = .pointer (some ⟨wo.heap.size + 1, b * 2, none⟩) := hU.last 22 90 (by kernel_rfl)
                              have f91 : slot ac 91 = .int .i64 (x.1 : Nat) := hU.last 23 91 (by kernel_rfl)
                              have f92 : slot ac 92 = .bool true := hU.last 24 92 (by kernel_rfl)
                              have f93 : slot ac 93 = .bool true := hU.last 25 93 (by kernel_rfl)
                              have HWD : Hid (Below w14.heap.size w14 wc) := hU.below
                              simp only [puts, List.foldl, Act.put, List.setIfInBounds_toArray, List.set_cons_zero, List.set_cons_succ, f68, f69, f70, f71, f72, f73, f74, f75, f76, f77, f78, f79, f80, f81, f82, f83, f84, f85, f86, f87, f88, f89, f90, f91, f92, f93] at hlit
                              rw [hlit]
                              clear hlit hU f68 f69 f70 f71 f72 f73 f74 f75 f76 f77 f78 f79 f80 f81 f82 f83 f84 f85 f86 f87 f88 f89 f90 f91 f92 f93
                              generalize wc = wd at HWD ⊢
                              have hE := HFF.out wd HWD.out
                              have lc := hE.2.2.1
                              have lh := (rt_pre (HRD.out wd hE.2.2.2.2.2.2.2.2) HRR.out).2
                              have hl128 : r.pre.len ≤ 128 := HLST.out.2.1
                              have hl0 : 0 ≤ r.pre.len := HLST.out.1
                              have hwl : IntKind.i64.wrap (r.pre.len + 1) = r.pre.len + 1 := by rw [IntKind.wrap_i64]; omega
                              have hnl : (((slotR r).1 : Nat) : Int) = r.pre.len + 1 := by show ((r.pre.len.toNat + 1 : Nat) : Int) = _; omega
                              have hst : (slotStore ⟨wo.heap.size + 1, b * 2, none⟩ (.agg #[.int .i64 (r.pre.len + 1), .int .u16 (r.hop : Int)])).run Try.prog wd.drew = .ok () ((wd.drew.setCell ⟨wo.heap.size + 1, b * 2, none⟩ (.int .i64 (r.pre.len + 1))).setCell ⟨wo.heap.size + 1, b * 2 + 1, none⟩ (.int .u16 (r.hop : Int))) := by
                                have h := node_slotStore (W := wd.drew) (B := wo.heap.size + 1) hE.2.2.2.2.2.2.1 HBB.out (slotR r)
                                rw [hnl, Nat.mul_comm 2 b] at h
                                exact h
                              have HEND : Hid (((wd.setCell ⟨wo.heap.size + 1, b * 2, none⟩ (.int .i64 (r.pre.len + 1))).setCell ⟨wo.heap.size + 1, b * 2 + 1, none⟩ (.int .u16 (r.hop : Int))).drew.heap[wo.heap.size + 1]? = some (.cells (nc ((ndU T u b).setSl b (slotR r))) 104 (0, 0)) ∧
                                  ((wd.setCell ⟨wo.heap.size + 1, b * 2, none⟩ (.int .i64 (r.pre.len + 1))).setCell ⟨wo.heap.size + 1, b * 2 + 1, none⟩ (.int .u16 (r.hop : Int))).drew.heap[B12]? = some (.cells (kc q) 24 (0, 0)) ∧
                                  Below w9.heap.size w9 ((wd.setCell ⟨wo.heap.size + 1, b * 2, none⟩ (.int .i64 (r.pre.len + 1))).setCell ⟨wo.heap.size + 1, b * 2 + 1, none⟩ (.int .u16 (r.hop : Int))).drew) := by
                                refine ⟨?_, ?_, ((hE.2.2.2.2.2.2.2.2.setCell (by show _ ≤ wo.heap.size + 1; have := HS9.out; omega) _).setCell (by show _ ≤ wo.heap.size + 1; have := HS9.out; omega) _).drew⟩
                                · have h := node_setSl (W := wd) (B := wo.heap.size + 1) hE.2.2.2.2.2.2.1 HBB.out (slotR r)
                                  rw [hnl, Nat.mul_comm 2 b, setSl_setSl] at h
                                  exact h
                                · rw [heap_drew, heap_setCell_other _ _ _ _ (by show B12 ≠ wo.heap.size + 1; have := HLT12.out; omega), heap_setCell_other _ _ _ _ (by show B12 ≠ wo.heap.size + 1; have := HLT12.out; omega)]
                                  exact hE.2.2.2.2.2.2.2.1
                              clear hE hnl HWD C4b c4
                              go_wp2
                              go_region
                              go_wp2
                              go_roundw
                              case rel => exact ⟨i + 1, by omega, by go_num, by rw [HNX.out, HD.out]; exact HEND.out.1, HEND.out.2.1, HEND.out.2.2⟩
                              case measure => simp [intOf]; omega
                            · have C4b : decide ((x.1 : Int) ≤ r.pre.len) = false := decide_eq_false c4
                              have HD : Hid (slotD bits q u.length x r = x) := by show _ = _; unfold slotD; rw [if_neg (fun h => c4 h.2.2.2)]
                              clear c3
                              refine region_slots (by kernel_rfl) (by kernel_rfl) (Gof [Gd.eq (.pointer (some ⟨wi.heap.size, 0, none⟩)), Gd.eq (.int .i64 r.pre.bits), Gd.eq (.int .i64 bits), Gd.eq (.bool true), Gd.eq (.bool true), Gd.eq (.agg (pc r.pre)), Gd.eq (.int .i64 (lastN r : Nat)), Gd.eq (.pointer (some ⟨wo.heap.size, 0, none⟩)), Gd.eq (.int .i64 (u.length : Int)), Gd.eq (.bool true), Gd.eq (.bool true), Gd.eq (.bool true), Gd.eq (.agg (pc r.pre)), Gd.eq (.agg (kc q)), Gd.eq (.bool true), Gd.eq (.bool true), Gd.eq (.bool true), Gd.eq (.pointer (some ⟨wi.heap.size, 1, none⟩)), Gd.eq (.int .i64 r.pre.len), Gd.eq (.int .i64 (b : Int)), Gd.eq (.pointer (some ⟨wo.heap.size + 1, 0, none⟩)), Gd.eq (.pointer (some ⟨wo.heap.size + 1, b * 2, none⟩)), Gd.eq (.pointer (some ⟨wo.heap.size + 1, b * 2, none⟩)), Gd.eq (.int .i64 (x.1 : Nat)), Gd.eq (.bool false), Gd.eq (.bool false)]) (Gof_st _) (steps_all ?_) ?_
                              · dsimp only
                                refine StepsFrom.cons ?s0 (StepsFrom.cons ?s1 (StepsFrom.cons ?s2 (StepsFrom.cons ?s3 (StepsFrom.cons ?s4 (StepsFrom.cons ?s5 (StepsFrom.cons ?s6 (StepsFrom.cons ?s7 (StepsFrom.cons ?s8 (StepsFrom.cons ?s9 (StepsFrom.cons ?s10 (StepsFrom.cons ?s11 (StepsFrom.cons ?s12 (StepsFrom.cons ?s13 (StepsFrom.cons ?s14 (StepsFrom.cons ?s15 (StepsFrom.cons ?s16 (StepsFrom.cons ?s17 (StepsFrom.cons ?s18 (StepsFrom.cons ?s19 (StepsFrom.cons ?s20 (StepsFrom.cons ?s21 (StepsFrom.cons ?s22 (StepsFrom.cons ?s23 (StepsFrom.cons ?s24 (StepsFrom.cons ?s25 StepsFrom.nil)))))))))))))))))))))))))
                                case s0 =>
                                  intro ac wc hU
                                  have e14 : slot ac 14 = .pointer (some ⟨wi.heap.size, 0, none⟩) := (hU.keep 14 (by kernel_rfl)).trans rfl
                                  refine step_val (wanted_none rfl) (v := .pointer (some ⟨wi.heap.size, 0, none⟩)) ?_ rfl
                                  have e14 : slot ac 14 = .pointer (some ⟨wi.heap.size, 0, none⟩) := e14
                                  simp [execOp, eval_tmp, e14] <;> go_simp
                                case s1 =>
                                  intro ac wc hU
                                  have e68 : (Gd.eq (.pointer (some ⟨wi.heap.size, 0, none⟩))).p (slot ac 68) wc := hU.dep 0 68 (by kernel_rfl)
                                  refine step_val (wanted_none rfl) (v := .int .i64 r.pre.bits) ?_ rfl
                                  have hc := (HFF.out wc hU.below).2.1
                                  have e68 : slot ac 68 = .pointer (some ⟨wi.heap.size, 0, none⟩) := e68
                                  simp [execOp, eval_tmp, e68] <;> go_simp
                                case s2 =>
                                  intro ac wc hU
                                  have e1 : slot ac 1 = .int .i64 bits := (hU.keep 1 (by kernel_rfl)).trans rfl
                                  refine step_val (wanted_none rfl) (run_move rfl) ?_
                                  show (Gd.eq (.int .i64 bits)).p _ wc
                                  exact (by rw [eval_tmp]; exact e1)
                                case s3 =>
                                  intro ac wc hU
                                  have e69 : (Gd.eq (.int .i64 r.pre.bits)).p (slot ac 69) wc := hU.dep 1 69 (by kernel_rfl)
                                  have e70 : (Gd.eq (.int .i64 bits)).p (slot ac 70) wc := hU.dep 2 70 (by kernel_rfl)
                                  refine step_val (wanted_none rfl) (v := .bool true) ?_ rfl
                                  have e69 : slot ac 69 = .int .i64 r.pre.bits := e69
                                  have e70 : slot ac 70 = .int .i64 bits := e70
                                  simp [execOp, eval_tmp, e69, e70] <;> go_simp
                                case s4 =>
                                  intro ac wc hU
                                  have e71 : (Gd.eq (.bool true)).p (slot ac 71) wc := hU.dep 3 71 (by kernel_rfl)
                                  refine step_val (wanted_none rfl) (run_move rfl) ?_
                                  show (Gd.eq (.bool true)).p _ wc
                                  exact (by rw [eval_tmp]; exact e71)
                                case s5 =>
                                  intro ac wc hU
                                  have e14 : slot ac 14 = .pointer (some ⟨wi.heap.size, 0, none⟩) := (hU.keep 14 (by kernel_rfl)).trans rfl
                                  have e72 : (Gd.eq (.bool true)).p (slot ac 72) wc := hU.dep 4 72 (by kernel_rfl)
                                  refine step_val ((wanted_some rfl rfl e72).trans rfl) (v := .agg (pc r.pre)) ?_ rfl
                                  have hc := (HFF.out wc hU.below).1
                                  have e14 : slot ac 14 = .pointer (some ⟨wi.heap.size, 0, none⟩) := e14
                                  simp [execOp, eval_tmp, e14] <;> go_simp
                                case s6 =>
                                  intro ac wc hU
                                  have e73 : (Gd.eq (.agg (pc r.pre))).p (slot ac 73) wc := hU.dep 5 73 (by kernel_rfl)
                                  have e72 : (Gd.eq (.bool true)).p (slot ac 72) wc := hU.dep 4 72 (by kernel_rfl)
                                  refine step_call ((wanted_some rfl rfl e72).trans rfl) (f := 59) (args := #[(.agg (pc r.pre))]) ?_ ?_
                                  · have e73 : slot ac 73 = .agg (pc r.pre) := e73
                                    simp [execOp, resolve, invoke, eval_tmp, e73] <;> go_simp
                                  · refine (HLAST.out wc).mono ?_
                                    rintro e w' ⟨rfl, hb⟩; exact ⟨_, rfl, hb, rfl⟩
                                case s7 =>
                                  intro ac wc hU
                                  have e9 : slot ac 9 = .pointer (some ⟨wo.heap.size, 0, none⟩) := (hU.keep 9 (by kernel_rfl)).trans rfl
                                  have e72 : (Gd.eq (.bool true)).p (slot ac 72) wc := hU.dep 4 72 (by kernel_rfl)
                                  refine step_val ((wanted_some rfl rfl e72).trans rfl) (v := .pointer (some ⟨wo.heap.size, 0, none⟩)) ?_ rfl
                                  have e9 : slot ac 9 = .pointer (some ⟨wo.heap.size, 0, none⟩) := e9
                                  simp [execOp, eval_tmp, e9] <;> go_simp
                                case s8 =>
                                  intro ac wc hU
                                  have e75 : (Gd.eq (.pointer (some ⟨wo.heap.size, 0, none⟩))).p (slot ac 75) wc := hU.dep 7 75 (by kernel_rfl)
                                  have e72 : (Gd.eq (.bool true)).p (slot ac 72) wc := hU.dep 4 72 (by kernel_rfl)
                                  refine step_val ((wanted_some rfl rfl e72).trans rfl) (v := .int .i64 (u.length : Int)) ?_ rfl
                                  have hc := (HFF.out wc hU.below).2.2.2.1
                                  have e75 : slot ac 75 = .pointer (some ⟨wo.heap.size, 0, none⟩) := e75
                                  simp [execOp, eval_tmp, e75] <;> go_simp
                                case s9 =>
                                  intro ac wc hU
                                  have e74 : (Gd.eq (.int .i64 (lastN r : Nat))).p (slot ac 74) wc := hU.dep 6 74 (by kernel_rfl)
                                  have e76 : (Gd.eq (.int .i64 (u.length : Int))).p (slot ac 76) wc := hU.dep 8 76 (by kernel_rfl)
                                  have e72 : (Gd.eq (.bool true)).p (slot ac 72) wc := hU.dep 4 72 (by kernel_rfl)
                                  refine step_val ((wanted_some rfl rfl e72).trans rfl) (v := .bool true) ?_ rfl
                                  have e74 : slot ac 74 = .int .i64 (lastN r : Nat) := e74
                                  have e76 : slot ac 76 = .int .i64 (u.length : Int) := e76
                                  simp [execOp, eval_tmp, e74, e76] <;> go_simp
                                case s10 =>
                                  intro ac wc hU
                                  have e72 : (Gd.eq (.bool true)).p (slot ac 72) wc := hU.dep 4 72 (by kernel_rfl)
                                  have e77 : (Gd.eq (.bool true)).p (slot ac 77) wc := hU.dep 9 77 (by kernel_rfl)
                                  refine step_val (wanted_none rfl) (run_pick (b := true) rfl (by rw [eval_tmp]; exact e72)) ?_
                                  show (Gd.eq (.bool true)).p (if true = true then _ else _) wc
                                  rw [if_pos rfl]
                                  exact (by rw [eval_tmp]; exact e77)
                                case s11 =>
                                  intro ac wc hU
                                  have e78 : (Gd.eq (.bool true)).p (slot ac 78) wc := hU.dep 10 78 (by kernel_rfl)
                                  refine step_val (wanted_none rfl) (run_move rfl) ?_
                                  show (Gd.eq (.bool true)).p _ wc
                                  exact (by rw [eval_tmp]; exact e78)
                                case s12 =>
                                  intro ac wc hU
                                  have e14 : slot ac 14 = .pointer (some ⟨wi.heap.size, 0, none⟩) := (hU.keep 14 (by kernel_rfl)).trans rfl
                                  have e79 : (Gd.eq (.bool true)).p (slot ac 79) wc := hU.dep 11 79 (by kernel_rfl)
                                  refine step_val ((wanted_some rfl rfl e79).trans rfl) (v := .agg (pc r.pre)) ?_ rfl
                                  have hc := (HFF.out wc hU.below).1
                                  have e14 : slot ac 14 = .pointer (some ⟨wi.heap.size, 0, none⟩) := e14
                                  simp [execOp, eval_tmp, e14] <;> go_simp
                                case s13 =>
                                  intro ac wc hU
                                  have e12 : slot ac 12 = .pointer (some ⟨B12, 0, none⟩) := (hU.keep 12 (by kernel_rfl)).trans rfl
                                  have e79 : (Gd.eq (.bool true)).p (slot ac 79) wc := hU.dep 11 79 (by kernel_rfl)
                                  refine step_val ((wanted_some rfl rfl e79).trans rfl) (v := .agg (kc q)) ?_ rfl
                                  have hc := (HFF.out wc hU.below).2.2.2.2.1
                                  have e12 : slot ac 12 = .pointer (some ⟨B12, 0, none⟩) := e12
                                  simp [execOp, eval_tmp, e12] <;> go_simp
                                case s14 =>
                                  intro ac wc hU
                                  have e80 : (Gd.eq (.agg (pc r.pre))).p (slot ac 80) wc := hU.dep 12 80 (by kernel_rfl)
                                  have e81 : (Gd.eq (.agg (kc q))).p (slot ac 81) wc := hU.dep 13 81 (by kernel_rfl)
                                  have e79 : (Gd.eq (.bool true)).p (slot ac 79) wc := hU.dep 11 79 (by kernel_rfl)
                                  refine step_call ((wanted_some rfl rfl e79).trans rfl) (f := 53) (args := #[(.agg (pc r.pre)), (.agg (kc q))]) ?_ ?_
                                  · have e80 : slot ac 80 = .agg (pc r.pre) := e80
                                    have e81 : slot ac 81 = .agg (kc q) := e81
                                    simp [execOp, resolve, invoke, eval_tmp, e80, e81] <;> go_simp
                                  · refine (HFIT.out wc).mono ?_
                                    rintro e w' ⟨rfl, hb⟩; exact ⟨_, rfl, hb, rfl⟩
                                case s15 =>
                                  intro ac wc hU
                                  have e79 : (Gd.eq (.bool true)).p (slot ac 79) wc := hU.dep 11 79 (by kernel_rfl)
                                  have e82 : (Gd.eq (.bool true)).p (slot ac 82) wc := hU.dep 14 82 (by kernel_rfl)
                                  refine step_val (wanted_none rfl) (run_pick (b := true) rfl (by rw [eval_tmp]; exact e79)) ?_
                                  show (Gd.eq (.bool true)).p (if true = true then _ else _) wc
                                  rw [if_pos rfl]
                                  exact (by rw [eval_tmp]; exact e82)
                                case s16 =>
                                  intro ac wc hU
                                  have e83 : (Gd.eq (.bool true)).p (slot ac 83) wc := hU.dep 15 83 (by kernel_rfl)
                                  refine step_val (wanted_none rfl) (run_move rfl) ?_
                                  show (Gd.eq (.bool true)).p _ wc
                                  exact (by rw [eval_tmp]; exact e83)
                                case s17 =>
                                  intro ac wc hU
                                  have e14 : slot ac 14 = .pointer (some ⟨wi.heap.size, 0, none⟩) := (hU.keep 14 (by kernel_rfl)).trans rfl
                                  have e84 : (Gd.eq (.bool true)).p (slot ac 84) wc := hU.dep 16 84 (by kernel_rfl)
                                  refine step_val ((wanted_some rfl rfl e84).trans rfl) (v := .pointer (some ⟨wi.heap.size, 1, none⟩)) ?_ rfl
                                  have e14 : slot ac 14 = .pointer (some ⟨wi.heap.size, 0, none⟩) := e14
                                  simp [execOp, eval_tmp, e14] <;> go_simp
                                case s18 =>
                                  intro ac wc hU
                                  have e85 : (Gd.eq (.pointer (some ⟨wi.heap.size, 1, none⟩))).p (slot ac 85) wc := hU.dep 17 85 (by kernel_rfl)
                                  have e84 : (Gd.eq (.bool true)).p (slot ac 84) wc := hU.dep 16 84 (by kernel_rfl)
                                  refine step_val ((wanted_some rfl rfl e84).trans rfl) (v := .int .i64 r.pre.len) ?_ rfl
                                  have hc := (HFF.out wc hU.below).2.2.1
                                  have e85 : slot ac 85 = .pointer (some ⟨wi.heap.size, 1, none⟩) := e85
                                  simp [execOp, eval_tmp, e85] <;> go_simp
                                case s19 =>
                                  intro ac wc hU
                                  have e11 : slot ac 11 = .int .i64 (b : Int) := (hU.keep 11 (by kernel_rfl)).trans rfl
                                  have e84 : (Gd.eq (.bool true)).p (slot ac 84) wc := hU.dep 16 84 (by kernel_rfl)
                                  refine step_val ((wanted_some rfl rfl e84).trans rfl) (run_move rfl) ?_
                                  show (Gd.eq (.int .i64 (b : Int))).p _ wc
                                  exact (by rw [eval_tmp]; exact e11)
                                case s20 =>
                                  intro ac wc hU
                                  have e10 : slot ac 10 = .pointer (some ⟨wo.heap.size + 1, 0, none⟩) := (hU.keep 10 (by kernel_rfl)).trans rfl
                                  have e84 : (Gd.eq (.bool true)).p (slot ac 84) wc := hU.dep 16 84 (by kernel_rfl)
                                  refine step_val ((wanted_some rfl rfl e84).trans rfl) (v := .pointer (some ⟨wo.heap.size + 1, 0, none⟩)) ?_ rfl
                                  have e10 : slot ac 10 = .pointer (some ⟨wo.heap.size + 1, 0, none⟩) := e10
                                  simp [execOp, eval_tmp, e10] <;> go_simp
                                case s21 =>
                                  intro ac wc hU
                                  have e87 : (Gd.eq (.int .i64 (b : Int))).p (slot ac 87) wc := hU.dep 19 87 (by kernel_rfl)
                                  have e88 : (Gd.eq (.pointer (some ⟨wo.heap.size + 1, 0, none⟩))).p (slot ac 88) wc := hU.dep 20 88 (by kernel_rfl)
                                  have e84 : (Gd.eq (.bool true)).p (slot ac 84) wc := hU.dep 16 84 (by kernel_rfl)
                                  refine step_val ((wanted_some rfl rfl e84).trans rfl) (v := .pointer (some ⟨wo.heap.size + 1, b * 2, none⟩)) ?_ rfl
                                  have e87 : slot ac 87 = .int .i64 (b : Int) := e87
                                  have e88 : slot ac 88 = .pointer (some ⟨wo.heap.size + 1, 0, none⟩) := e88
                                  simp [execOp, eval_tmp, e87, e88] <;> go_simp
                                case s22 =>
                                  intro ac wc hU
                                  have e89 : (Gd.eq (.pointer (some ⟨wo.heap.size + 1, b * 2, none⟩))).p (slot ac 89) wc := hU.dep 21 89 (by kernel_rfl)
                                  have e84 : (Gd.eq (.bool true)).p (slot ac 84) wc := hU.dep 16 84 (by kernel_rfl)
                                  refine step_val ((wanted_some rfl rfl e84).trans rfl) (v := .pointer (some ⟨wo.heap.size + 1, b * 2, none⟩)) ?_ rfl
                                  have e89 : slot ac 89 = .pointer (some ⟨wo.heap.size + 1, b * 2, none⟩) := e89
                                  simp [execOp, eval_tmp, e89] <;> go_simp
                                case s23 =>
                                  intro ac wc hU
                                  have e90 : (Gd.eq (.pointer (some ⟨wo.heap.size + 1, b * 2, none⟩))).p (slot ac 90) wc := hU.dep 22 90 (by kernel_rfl)
                                  have e84 : (Gd.eq (.bool true)).p (slot ac 84) wc := hU.dep 16 84 (by kernel_rfl)
                                  refine step_val ((wanted_some rfl rfl e84).trans rfl) (v := .int .i64 (x.1 : Nat)) ?_ rfl
                                  have hc := (HFF.out wc hU.below).2.2.2.2.2.1
                                  have e90 : slot ac 90 = .pointer (some ⟨wo.heap.size + 1, b * 2, none⟩) := e90
                                  simp [execOp, eval_tmp, e90] <;> go_simp
                                case s24 =>
                                  intro ac wc hU
                                  have e86 : (Gd.eq (.int .i64 r.pre.len)).p (slot ac 86) wc := hU.dep 18 86 (by kernel_rfl)
                                  have e91 : (Gd.eq (.int .i64 (x.1 : Nat))).p (slot ac 91) wc := hU.dep 23 91 (by kernel_rfl)
                                  have e84 : (Gd.eq (.bool true)).p (slot ac 84) wc := hU.dep 16 84 (by kernel_rfl)
                                  refine step_val ((wanted_some rfl rfl e84).trans rfl) (v := .bool false) ?_ rfl
                                  have e86 : slot ac 86 = .int .i64 r.pre.len := e86
                                  have e91 : slot ac 91 = .int .i64 (x.1 : Nat) := e91
                                  simp [execOp, eval_tmp, e86, e91] <;> go_simp
                                case s25 =>
                                  intro ac wc hU
                                  have e84 : (Gd.eq (.bool true)).p (slot ac 84) wc := hU.dep 16 84 (by kernel_rfl)
                                  have e92 : (Gd.eq (.bool false)).p (slot ac 92) wc := hU.dep 24 92 (by kernel_rfl)
                                  refine step_val (wanted_none rfl) (run_pick (b := true) rfl (by rw [eval_tmp]; exact e84)) ?_
                                  show (Gd.eq (.bool false)).p (if true = true then _ else _) wc
                                  rw [if_pos rfl]
                                  exact (by rw [eval_tmp]; exact e92)
                              intro ac wc hU
                              have hlit := act_puts hU (by kernel_rfl) [68, 69, 70, 71, 72, 73, 74, 75, 76, 77, 78, 79, 80, 81, 82, 83, 84, 85, 86, 87, 88, 89, 90, 91, 92, 93] (by kernel_rfl)
                              have f68 : slot ac 68 = .pointer (some ⟨wi.heap.size, 0, none⟩) := hU.last 0 68 (by kernel_rfl)
                              have f69 : slot ac 69 = .int .i64 r.pre.bits := hU.last 1 69 (by kernel_rfl)
                              have f70 : slot ac 70 = .int .i64 bits := hU.last 2 70 (by kernel_rfl)
                              have f71 : slot ac 71 = .bool true := hU.last 3 71 (by kernel_rfl)
                              have f72 : slot ac 72 = .bool true := hU.last 4 72 (by kernel_rfl)
                              have f73 : slot ac 73 = .agg (pc r.pre) := hU.last 5 73 (by kernel_rfl)
                              have f74 : slot ac 74 = .int .i64 (lastN r : Nat) := hU.last 6 74 (by kernel_rfl)
                              have f75 : slot ac 75 = .pointer (some ⟨wo.heap.size, 0, none⟩) := hU.last 7 75 (by kernel_rfl)
                              have f76 : slot ac 76 = .int .i64 (u.length : Int) := hU.last 8 76 (by kernel_rfl)
                              have f77 : slot ac 77 = .bool true := hU.last 9 77 (by kernel_rfl)
                              have f78 : slot ac 78 = .bool true := hU.last 10 78 (by kernel_rfl)
                              have f79 : slot ac 79 = .bool true := hU.last 11 79 (by kernel_rfl)
                              have f80 : slot ac 80 = .agg (pc r.pre) := hU.last 12 80 (by kernel_rfl)
                              have f81 : slot ac 81 = .agg (kc q) := hU.last 13 81 (by kernel_rfl)
                              have f82 : slot ac 82 = .bool true := hU.last 14 82 (by kernel_rfl)
                              have f83 : slot ac 83 = .bool true := hU.last 15 83 (by kernel_rfl)
                              have f84 : slot ac 84 = .bool true := hU.last 16 84 (by kernel_rfl)
                              have f85 : slot ac 85 = .pointer (some ⟨wi.heap.size, 1, none⟩) := hU.last 17 85 (by kernel_rfl)
                              have f86 : slot ac 86 = .int .i64 r.pre.len := hU.last 18 86 (by kernel_rfl)
                              have f87 : slot ac 87 = .int .i64 (b : Int) := hU.last 19 87 (by kernel_rfl)
                              have f88 : slot ac 88 = .pointer (some ⟨wo.heap.size + 1, 0, none⟩) := hU.last 20 88 (by kernel_rfl)
                              have f89 : slot ac 89 = .pointer (some ⟨wo.heap.size + 1, b * 2, none⟩) := hU.last 21 89 (by kernel_rfl)
                              have f90 : slot ac 90 = .pointer (some ⟨wo.heap.size + 1, b * 2, none⟩) := hU.last 22 90 (by kernel_rfl)
                              have f91 : slot ac 91 = .int .i64 (x.1 : Nat) := hU.last 23 91 (by kernel_rfl)
                              have f92 : slot ac 92 = .bool false := hU.last 24 92 (by kernel_rfl)
                              have f93 : slot ac 93 = .bool false := hU.last 25 93 (by kernel_rfl)
                              have HWD : Hid (Below w14.heap.size w14 wc) := hU.below
                              simp only [puts, List.foldl, Act.put, List.setIfInBounds_toArray, List.set_cons_zero, List.set_cons_succ, f68, f69, f70, f71, f72, f73, f74, f75, f76, f77, f78, f79, f80, f81, f82, f83, f84, f85, f86, f87, f88, f89, f90, f91, f92, f93] at hlit
                              rw [hlit]
                              clear hlit hU f68 f69 f70 f71 f72 f73 f74 f75 f76 f77 f78 f79 f80 f81 f82 f83 f84 f85 f86 f87 f88 f89 f90 f91 f92 f93
                              generalize wc = wd at HWD ⊢
                              have HE := Lib.hid (HFF.out wd HWD.out)
                              clear HWD
                              go_wp2
                              go_roundw
                              case rel => exact ⟨i + 1, by omega, by go_num, by rw [HNX.out, HD.out]; exact HE.out.2.2.2.2.2.2.1, HE.out.2.2.2.2.2.2.2.1, HE.out.2.2.2.2.2.2.2.2⟩
                              case measure => simp [intOf]; omega
                        · have C2b : ((lastN r : Int) == (u.length : Int)) = false := by rw [beq_eq_false_iff_ne]; omega
                          have C2n : (lastN r == u.length) = false := by rw [beq_eq_false_iff_ne]; exact c2
                          have HD : Hid (slotD bits q u.length x r = x) := by show _ = _; unfold slotD; rw [if_neg (fun h => c2 h.2.1)]
                          clear c2
                          refine region_slots (by kernel_rfl) (by kernel_rfl) (Gof [Gd.eq (.pointer (some ⟨wi.heap.size, 0, none⟩)), Gd.eq (.int .i64 r.pre.bits), Gd.eq (.int .i64 bits), Gd.eq (.bool true), Gd.eq (.bool true), Gd.eq (.agg (pc r.pre)), Gd.eq (.int .i64 (lastN r : Nat)), Gd.eq (.pointer (some ⟨wo.heap.size, 0, none⟩)), Gd.eq (.int .i64 (u.length : Int)), Gd.eq (.bool false), Gd.eq (.bool false), Gd.eq (.bool false), Gd.any, Gd.any, Gd.any, Gd.eq (Value.bool false), Gd.eq (Value.bool false), Gd.any, Gd.any, Gd.any, Gd.any, Gd.any, Gd.any, Gd.any, Gd.any, Gd.eq (Value.bool false)]) (Gof_st _) (steps_all ?_) ?_
                          · dsimp only
                            refine StepsFrom.cons ?s0 (StepsFrom.cons ?s1 (StepsFrom.cons ?s2 (StepsFrom.cons ?s3 (StepsFrom.cons ?s4 (StepsFrom.cons ?s5 (StepsFrom.cons ?s6 (StepsFrom.cons ?s7 (StepsFrom.cons ?s8 (StepsFrom.cons ?s9 (StepsFrom.cons ?s10 (StepsFrom.cons ?s11 (StepsFrom.cons ?s12 (StepsFrom.cons ?s13 (StepsFrom.cons ?s14 (StepsFrom.cons ?s15 (StepsFrom.cons ?s16 (StepsFrom.cons ?s17 (StepsFrom.cons ?s18 (StepsFrom.cons ?s19 (StepsFrom.cons ?s20 (StepsFrom.cons ?s21 (StepsFrom.cons ?s22 (StepsFrom.cons ?s23 (StepsFrom.cons ?s24 (StepsFrom.cons ?s25 StepsFrom.nil)))))))))))))))))))))))))
                            case s0 =>
                              intro ac wc hU
                              have e14 : slot ac 14 = .pointer (some ⟨wi.heap.size, 0, none⟩) := (hU.keep 14 (by kernel_rfl)).trans rfl
                              refine step_val (wanted_none rfl) (v := .pointer (some ⟨wi.heap.size, 0, none⟩)) ?_ rfl
                              have e14 : slot ac 14 = .pointer (some ⟨wi.heap.size, 0, none⟩) := e14
                              simp [execOp, eval_tmp, e14] <;> go_simp
                            case s1 =>
                              intro ac wc hU
                              have e68 : (Gd.eq (.pointer (some ⟨wi.heap.size, 0, none⟩))).p (slot ac 68) wc := hU.dep 0 68 (by kernel_rfl)
                              refine step_val (wanted_none rfl) (v := .int .i64 r.pre.bits) ?_ rfl
                              have hc := (HFF.out wc hU.below).2.1
                              have e68 : slot ac 68 = .pointer (some ⟨wi.heap.size, 0, none⟩) := e68
                              simp [execOp, eval_tmp, e68] <;> go_simp
                            case s2 =>
                              intro ac wc hU
                              have e1 : slot ac 1 = .int .i64 bits := (hU.keep 1 (by kernel_rfl)).trans rfl
                              refine step_val (wanted_none rfl) (run_move rfl) ?_
                              show (Gd.eq (.int .i64 bits)).p _ wc
                              exact (by rw [eval_tmp]; exact e1)
                            case s3 =>
                              intro ac wc hU
                              have e69 : (Gd.eq (.int .i64 r.pre.bits)).p (slot ac 69) wc := hU.dep 1 69 (by kernel_rfl)
                              have e70 : (Gd.eq (.int .i64 bits)).p (slot ac 70) wc := hU.dep 2 70 (by kernel_rfl)
                              refine step_val (wanted_none rfl) (v := .bool true) ?_ rfl
                              have e69 : slot ac 69 = .int .i64 r.pre.bits := e69
                              have e70 : slot ac 70 = .int .i64 bits := e70
                              simp [execOp, eval_tmp, e69, e70] <;> go_simp
                            case s4 =>
                              intro ac wc hU
                              have e71 : (Gd.eq (.bool true)).p (slot ac 71) wc := hU.dep 3 71 (by kernel_rfl)
                              refine step_val (wanted_none rfl) (run_move rfl) ?_
                              show (Gd.eq (.bool true)).p _ wc
                              exact (by rw [eval_tmp]; exact e71)
                            case s5 =>
                              intro ac wc hU
                              have e14 : slot ac 14 = .pointer (some ⟨wi.heap.size, 0, none⟩) := (hU.keep 14 (by kernel_rfl)).trans rfl
                              have e72 : (Gd.eq (.bool true)).p (slot ac 72) wc := hU.dep 4 72 (by kernel_rfl)
                              refine step_val ((wanted_some rfl rfl e72).trans rfl) (v := .agg (pc r.pre)) ?_ rfl
                              have hc := (HFF.out wc hU.below).1
                              have e14 : slot ac 14 = .pointer (some ⟨wi.heap.size, 0, none⟩) := e14
                              simp [execOp, eval_tmp, e14] <;> go_simp
                            case s6 =>
                              intro ac wc hU
                              have e73 : (Gd.eq (.agg (pc r.pre))).p (slot ac 73) wc := hU.dep 5 73 (by kernel_rfl)
                              have e72 : (Gd.eq (.bool true)).p (slot ac 72) wc := hU.dep 4 72 (by kernel_rfl)
                              refine step_call ((wanted_some rfl rfl e72).trans rfl) (f := 59) (args := #[(.agg (pc r.pre))]) ?_ ?_
                              · have e73 : slot ac 73 = .agg (pc r.pre) := e73
                                simp [execOp, resolve, invoke, eval_tmp, e73] <;> go_simp
                              · refine (HLAST.out wc).mono ?_
                                rintro e w' ⟨rfl, hb⟩; exact ⟨_, rfl, hb, rfl⟩
                            case s7 =>
                              intro ac wc hU
                              have e9 : slot ac 9 = .pointer (some ⟨wo.heap.size, 0, none⟩) := (hU.keep 9 (by kernel_rfl)).trans rfl
                              have e72 : (Gd.eq (.bool true)).p (slot ac 72) wc := hU.dep 4 72 (by kernel_rfl)
                              refine step_val ((wanted_some rfl rfl e72).trans rfl) (v := .pointer (some ⟨wo.heap.size, 0, none⟩)) ?_ rfl
                              have e9 : slot ac 9 = .pointer (some ⟨wo.heap.size, 0, none⟩) := e9
                              simp [execOp, eval_tmp, e9] <;> go_simp
                            case s8 =>
                              intro ac wc hU
                              have e75 : (Gd.eq (.pointer (some ⟨wo.heap.size, 0, none⟩))).p (slot ac 75) wc := hU.dep 7 75 (by kernel_rfl)
                              have e72 : (Gd.eq (.bool true)).p (slot ac 72) wc := hU.dep 4 72 (by kernel_rfl)
                              refine step_val ((wanted_some rfl rfl e72).trans rfl) (v := .int .i64 (u.length : Int)) ?_ rfl
                              have hc := (HFF.out wc hU.below).2.2.2.1
                              have e75 : slot ac 75 = .pointer (some ⟨wo.heap.size, 0, none⟩) := e75
                              simp [execOp, eval_tmp, e75] <;> go_simp
                            case s9 =>
                              intro ac wc hU
                              have e74 : (Gd.eq (.int .i64 (lastN r : Nat))).p (slot ac 74) wc := hU.dep 6 74 (by kernel_rfl)
                              have e76 : (Gd.eq (.int .i64 (u.length : Int))).p (slot ac 76) wc := hU.dep 8 76 (by kernel_rfl)
                              have e72 : (Gd.eq (.bool true)).p (slot ac 72) wc := hU.dep 4 72 (by kernel_rfl)
                              refine step_val ((wanted_some rfl rfl e72).trans rfl) (v := .bool false) ?_ rfl
                              have e74 : slot ac 74 = .int .i64 (lastN r : Nat) := e74
                              have e76 : slot ac 76 = .int .i64 (u.length : Int) := e76
                              simp [execOp, eval_tmp, e74, e76] <;> go_simp
                            case s10 =>
                              intro ac wc hU
                              have e72 : (Gd.eq (.bool true)).p (slot ac 72) wc := hU.dep 4 72 (by kernel_rfl)
                              have e77 : (Gd.eq (.bool false)).p (slot ac 77) wc := hU.dep 9 77 (by kernel_rfl)
                              refine step_val (wanted_none rfl) (run_pick (b := true) rfl (by rw [eval_tmp]; exact e72)) ?_
                              show (Gd.eq (.bool false)).p (if true = true then _ else _) wc
                              rw [if_pos rfl]
                              exact (by rw [eval_tmp]; exact e77)
                            case s11 =>
                              intro ac wc hU
                              have e78 : (Gd.eq (.bool false)).p (slot ac 78) wc := hU.dep 10 78 (by kernel_rfl)
                              refine step_val (wanted_none rfl) (run_move rfl) ?_
                              show (Gd.eq (.bool false)).p _ wc
                              exact (by rw [eval_tmp]; exact e78)
                            case s12 =>
                              intro ac wc hU
                              have e14 : slot ac 14 = .pointer (some ⟨wi.heap.size, 0, none⟩) := (hU.keep 14 (by kernel_rfl)).trans rfl
                              have e79 : (Gd.eq (.bool false)).p (slot ac 79) wc := hU.dep 11 79 (by kernel_rfl)
                              exact step_skip ((wanted_some rfl rfl e79).trans rfl) trivial
                            case s13 =>
                              intro ac wc hU
                              have e12 : slot ac 12 = .pointer (some ⟨B12, 0, none⟩) := (hU.keep 12 (by kernel_rfl)).trans rfl
                              have e79 : (Gd.eq (.bool false)).p (slot ac 79) wc := hU.dep 11 79 (by kernel_rfl)
                              exact step_skip ((wanted_some rfl rfl e79).trans rfl) trivial
                            case s14 =>
                              intro ac wc hU
                              have e80 : (Gd.any).p (slot ac 80) wc := hU.dep 12 80 (by kernel_rfl)
                              have e81 : (Gd.any).p (slot ac 81) wc := hU.dep 13 81 (by kernel_rfl)
                              have e79 : (Gd.eq (.bool false)).p (slot ac 79) wc := hU.dep 11 79 (by kernel_rfl)
                              exact step_skip ((wanted_some rfl rfl e79).trans rfl) trivial
                            case s15 =>
                              intro ac wc hU
                              have e79 : (Gd.eq (.bool false)).p (slot ac 79) wc := hU.dep 11 79 (by kernel_rfl)
                              have e82 : (Gd.any).p (slot ac 82) wc := hU.dep 14 82 (by kernel_rfl)
                              refine step_val (wanted_none rfl) (run_pick (b := false) rfl (by rw [eval_tmp]; exact e79)) ?_
                              show (Gd.eq (Value.bool false)).p (if false = true then _ else _) wc
                              rw [if_neg (by decide)]
                              exact (rfl)
                            case s16 =>
                              intro ac wc hU
                              have e83 : (Gd.eq (Value.bool false)).p (slot ac 83) wc := hU.dep 15 83 (by kernel_rfl)
                              refine step_val (wanted_none rfl) (run_move rfl) ?_
                              show (Gd.eq (Value.bool false)).p _ wc
                              exact (by rw [eval_tmp]; exact e83)
                            case s17 =>
                              intro ac wc hU
                              have e14 : slot ac 14 = .pointer (some ⟨wi.heap.size, 0, none⟩) := (hU.keep 14 (by kernel_rfl)).trans rfl
                              have e84 : (Gd.eq (Value.bool false)).p (slot ac 84) wc := hU.dep 16 84 (by kernel_rfl)
                              exact step_skip ((wanted_some rfl rfl e84).trans rfl) trivial
                            case s18 =>
                              intro ac wc hU
                              have e85 : (Gd.any).p (slot ac 85) wc := hU.dep 17 85 (by kernel_rfl)
                              have e84 : (Gd.eq (Value.bool false)).p (slot ac 84) wc := hU.dep 16 84 (by kernel_rfl)
                              exact step_skip ((wanted_some rfl rfl e84).trans rfl) trivial
                            case s19 =>
                              intro ac wc hU
                              have e11 : slot ac 11 = .int .i64 (b : Int) := (hU.keep 11 (by kernel_rfl)).trans rfl
                              have e84 : (Gd.eq (Value.bool false)).p (slot ac 84) wc := hU.dep 16 84 (by kernel_rfl)
                              exact step_skip ((wanted_some rfl rfl e84).trans rfl) trivial
                            case s20 =>
                              intro ac wc hU
                              have e10 : slot ac 10 = .pointer (some ⟨wo.heap.size + 1, 0, none⟩) := (hU.keep 10 (by kernel_rfl)).trans rfl
                              have e84 : (Gd.eq (Value.bool false)).p (slot ac 84) wc := hU.dep 16 84 (by kernel_rfl)
                              exact step_skip ((wanted_some rfl rfl e84).trans rfl) trivial
                            case s21 =>
                              intro ac wc hU
                              have e87 : (Gd.any).p (slot ac 87) wc := hU.dep 19 87 (by kernel_rfl)
                              have e88 : (Gd.any).p (slot ac 88) wc := hU.dep 20 88 (by kernel_rfl)
                              have e84 : (Gd.eq (Value.bool false)).p (slot ac 84) wc := hU.dep 16 84 (by kernel_rfl)
                              exact step_skip ((wanted_some rfl rfl e84).trans rfl) trivial
                            case s22 =>
                              intro ac wc hU
                              have e89 : (Gd.any).p (slot ac 89) wc := hU.dep 21 89 (by kernel_rfl)
                              have e84 : (Gd.eq (Value.bool false)).p (slot ac 84) wc := hU.dep 16 84 (by kernel_rfl)
                              exact step_skip ((wanted_some rfl rfl e84).trans rfl) trivial
                            case s23 =>
                              intro ac wc hU
                              have e90 : (Gd.any).p (slot ac 90) wc := hU.dep 22 90 (by kernel_rfl)
                              have e84 : (Gd.eq (Value.bool false)).p (slot ac 84) wc := hU.dep 16 84 (by kernel_rfl)
                              exact step_skip ((wanted_some rfl rfl e84).trans rfl) trivial
                            case s24 =>
                              intro ac wc hU
                              have e86 : (Gd.any).p (slot ac 86) wc := hU.dep 18 86 (by kernel_rfl)
                              have e91 : (Gd.any).p (slot ac 91) wc := hU.dep 23 91 (by kernel_rfl)
                              have e84 : (Gd.eq (Value.bool false)).p (slot ac 84) wc := hU.dep 16 84 (by kernel_rfl)
                              exact step_skip ((wanted_some rfl rfl e84).trans rfl) trivial
                            case s25 =>
                              intro ac wc hU
                              have e84 : (Gd.eq (Value.bool false)).p (slot ac 84) wc := hU.dep 16 84 (by kernel_rfl)
                              have e92 : (Gd.any).p (slot ac 92) wc := hU.dep 24 92 (by kernel_rfl)
                              refine step_val (wanted_none rfl) (run_pick (b := false) rfl (by rw [eval_tmp]; exact e84)) ?_
                              show (Gd.eq (Value.bool false)).p (if false = true then _ else _) wc
                              rw [if_neg (by decide)]
                              exact (rfl)
                          intro ac wc hU
                          have hlit := act_puts hU (by kernel_rfl) [68, 69, 70, 71, 72, 73, 74, 75, 76, 77, 78, 79, 80, 81, 82, 83, 84, 85, 86, 87, 88, 89, 90, 91, 92, 93] (by kernel_rfl)
                          have f68 : slot ac 68 = .pointer (some ⟨wi.heap.size, 0, none⟩) := hU.last 0 68 (by kernel_rfl)
                          have f69 : slot ac 69 = .int .i64 r.pre.bits := hU.last 1 69 (by kernel_rfl)
                          have f70 : slot ac 70 = .int .i64 bits := hU.last 2 70 (by kernel_rfl)
                          have f71 : slot ac 71 = .bool true := hU.last 3 71 (by kernel_rfl)
                          have f72 : slot ac 72 = .bool true := hU.last 4 72 (by kernel_rfl)
                          have f73 : slot ac 73 = .agg (pc r.pre) := hU.last 5 73 (by kernel_rfl)
                          have f74 : slot ac 74 = .int .i64 (lastN r : Nat) := hU.last 6 74 (by kernel_rfl)
                          have f75 : slot ac 75 = .pointer (some ⟨wo.heap.size, 0, none⟩) := hU.last 7 75 (by kernel_rfl)
                          have f76 : slot ac 76 = .int .i64 (u.length : Int) := hU.last 8 76 (by kernel_rfl)
                          have f77 : slot ac 77 = .bool false := hU.last 9 77 (by kernel_rfl)
                          have f78 : slot ac 78 = .bool false := hU.last 10 78 (by kernel_rfl)
                          have f79 : slot ac 79 = .bool false := hU.last 11 79 (by kernel_rfl)
                          have f83 : slot ac 83 = Value.bool false := hU.last 15 83 (by kernel_rfl)
                          have f84 : slot ac 84 = Value.bool false := hU.last 16 84 (by kernel_rfl)
                          have f93 : slot ac 93 = Value.bool false := hU.last 25 93 (by kernel_rfl)
                          have HWD : Hid (Below w14.heap.size w14 wc) := hU.below
                          simp only [puts, List.foldl, Act.put, List.setIfInBounds_toArray, List.set_cons_zero, List.set_cons_succ, f68, f69, f70, f71, f72, f73, f74, f75, f76, f77, f78, f79, f83, f84, f93] at hlit
                          rw [hlit]
                          clear hlit hU f68 f69 f70 f71 f72 f73 f74 f75 f76 f77 f78 f79 f83 f84 f93
                          generalize wc = wd at HWD ⊢
                          have HE := Lib.hid (HFF.out wd HWD.out)
                          clear HWD
                          go_wp2
                          go_roundw
                          case rel => exact ⟨i + 1, by omega, by go_num, by rw [HNX.out, HD.out]; exact HE.out.2.2.2.2.2.2.1, HE.out.2.2.2.2.2.2.2.1, HE.out.2.2.2.2.2.2.2.2⟩
                          case measure => simp [intOf]; omega
                      · have C1b : (r.pre.bits == bits) = false := by rw [beq_eq_false_iff_ne]; exact c1
                        have HD : Hid (slotD bits q u.length x r = x) := by show _ = _; unfold slotD; rw [if_neg (fun h => c1 h.1)]
                        clear c1
                        refine region_slots (by kernel_rfl) (by kernel_rfl) (Gof [Gd.eq (.pointer (some ⟨wi.heap.size, 0, none⟩)), Gd.eq (.int .i64 r.pre.bits), Gd.eq (.int .i64 bits), Gd.eq (.bool false), Gd.eq (.bool false), Gd.any, Gd.any, Gd.any, Gd.any, Gd.any, Gd.eq (Value.bool false), Gd.eq (Value.bool false), Gd.any, Gd.any, Gd.any, Gd.eq (Value.bool false), Gd.eq (Value.bool false), Gd.any, Gd.any, Gd.any, Gd.any, Gd.any, Gd.any, Gd.any, Gd.any, Gd.eq (Value.bool false)]) (Gof_st _) (steps_all ?_) ?_
                        · dsimp only
                          refine StepsFrom.cons ?s0 (StepsFrom.cons ?s1 (StepsFrom.cons ?s2 (StepsFrom.cons ?s3 (StepsFrom.cons ?s4 (StepsFrom.cons ?s5 (StepsFrom.cons ?s6 (StepsFrom.cons ?s7 (StepsFrom.cons ?s8 (StepsFrom.cons ?s9 (StepsFrom.cons ?s10 (StepsFrom.cons ?s11 (StepsFrom.cons ?s12 (StepsFrom.cons ?s13 (StepsFrom.cons ?s14 (StepsFrom.cons ?s15 (StepsFrom.cons ?s16 (StepsFrom.cons ?s17 (StepsFrom.cons ?s18 (StepsFrom.cons ?s19 (StepsFrom.cons ?s20 (StepsFrom.cons ?s21 (StepsFrom.cons ?s22 (StepsFrom.cons ?s23 (StepsFrom.cons ?s24 (StepsFrom.cons ?s25 StepsFrom.nil)))))))))))))))))))))))))
                          case s0 =>
                            intro ac wc hU
                            have e14 : slot ac 14 = .pointer (some ⟨wi.heap.size, 0, none⟩) := (hU.keep 14 (by kernel_rfl)).trans rfl
                            refine step_val (wanted_none rfl) (v := .pointer (some ⟨wi.heap.size, 0, none⟩)) ?_ rfl
                            have e14 : slot ac 14 = .pointer (some ⟨wi.heap.size, 0, none⟩) := e14
                            simp [execOp, eval_tmp, e14] <;> go_simp
                          case s1 =>
                            intro ac wc hU
                            have e68 : (Gd.eq (.pointer (some ⟨wi.heap.size, 0, none⟩))).p (slot ac 68) wc := hU.dep 0 68 (by kernel_rfl)
                            refine step_val (wanted_none rfl) (v := .int .i64 r.pre.bits) ?_ rfl
                            have hc := (HFF.out wc hU.below).2.1
                            have e68 : slot ac 68 = .pointer (some ⟨wi.heap.size, 0, none⟩) := e68
                            simp [execOp, eval_tmp, e68] <;> go_simp
                          case s2 =>
                            intro ac wc hU
                            have e1 : slot ac 1 = .int .i64 bits := (hU.keep 1 (by kernel_rfl)).trans rfl
                            refine step_val (wanted_none rfl) (run_move rfl) ?_
                            show (Gd.eq (.int .i64 bits)).p _ wc
                            exact (by rw [eval_tmp]; exact e1)
                          case s3 =>
                            intro ac wc hU
                            have e69 : (Gd.eq (.int .i64 r.pre.bits)).p (slot ac 69) wc := hU.dep 1 69 (by kernel_rfl)
                            have e70 : (Gd.eq (.int .i64 bits)).p (slot ac 70) wc := hU.dep 2 70 (by kernel_rfl)
                            refine step_val (wanted_none rfl) (v := .bool false) ?_ rfl
                            have e69 : slot ac 69 = .int .i64 r.pre.bits := e69
                            have e70 : slot ac 70 = .int .i64 bits := e70
                            simp [execOp, eval_tmp, e69, e70] <;> go_simp
                          case s4 =>
                            intro ac wc hU
                            have e71 : (Gd.eq (.bool false)).p (slot ac 71) wc := hU.dep 3 71 (by kernel_rfl)
                            refine step_val (wanted_none rfl) (run_move rfl) ?_
                            show (Gd.eq (.bool false)).p _ wc
                            exact (by rw [eval_tmp]; exact e71)
                          case s5 =>
                            intro ac wc hU
                            have e14 : slot ac 14 = .pointer (some ⟨wi.heap.size, 0, none⟩) := (hU.keep 14 (by kernel_rfl)).trans rfl
                            have e72 : (Gd.eq (.bool false)).p (slot ac 72) wc := hU.dep 4 72 (by kernel_rfl)
                            exact step_skip ((wanted_some rfl rfl e72).trans rfl) trivial
                          case s6 =>
                            intro ac wc hU
                            have e73 : (Gd.any).p (slot ac 73) wc := hU.dep 5 73 (by kernel_rfl)
                            have e72 : (Gd.eq (.bool false)).p (slot ac 72) wc := hU.dep 4 72 (by kernel_rfl)
                            exact step_skip ((wanted_some rfl rfl e72).trans rfl) trivial
                          case s7 =>
                            intro ac wc hU
                            have e9 : slot ac 9 = .pointer (some ⟨wo.heap.size, 0, none⟩) := (hU.keep 9 (by kernel_rfl)).trans rfl
                            have e72 : (Gd.eq (.bool false)).p (slot ac 72) wc := hU.dep 4 72 (by kernel_rfl)
                            exact step_skip ((wanted_some rfl rfl e72).trans rfl) trivial
                          case s8 =>
                            intro ac wc hU
                            have e75 : (Gd.any).p (slot ac 75) wc := hU.dep 7 75 (by kernel_rfl)
                            have e72 : (Gd.eq (.bool false)).p (slot ac 72) wc := hU.dep 4 72 (by kernel_rfl)
                            exact step_skip ((wanted_some rfl rfl e72).trans rfl) trivial
                          case s9 =>
                            intro ac wc hU
                            have e74 : (Gd.any).p (slot ac 74) wc := hU.dep 6 74 (by kernel_rfl)
                            have e76 : (Gd.any).p (slot ac 76) wc := hU.dep 8 76 (by kernel_rfl)
                            have e72 : (Gd.eq (.bool false)).p (slot ac 72) wc := hU.dep 4 72 (by kernel_rfl)
                            exact step_skip ((wanted_some rfl rfl e72).trans rfl) trivial
                          case s10 =>
                            intro ac wc hU
                            have e72 : (Gd.eq (.bool false)).p (slot ac 72) wc := hU.dep 4 72 (by kernel_rfl)
                            have e77 : (Gd.any).p (slot ac 77) wc := hU.dep 9 77 (by kernel_rfl)
                            refine step_val (wanted_none rfl) (run_pick (b := false) rfl (by rw [eval_tmp]; exact e72)) ?_
                            show (Gd.eq (Value.bool false)).p (if false = true then _ else _) wc
                            rw [if_neg (by decide)]
                            exact (rfl)
                          case s11 =>
                            intro ac wc hU
                            have e78 : (Gd.eq (Value.bool false)).p (slot ac 78) wc := hU.dep 10 78 (by kernel_rfl)
                            refine step_val (wanted_none rfl) (run_move rfl) ?_
                            show (Gd.eq (Value.bool false)).p _ wc
                            exact (by rw [eval_tmp]; exact e78)
                          case s12 =>
                            intro ac wc hU
                            have e14 : slot ac 14 = .pointer (some ⟨wi.heap.size, 0, none⟩) := (hU.keep 14 (by kernel_rfl)).trans rfl
                            have e79 : (Gd.eq (Value.bool false)).p (slot ac 79) wc := hU.dep 11 79 (by kernel_rfl)
                            exact step_skip ((wanted_some rfl rfl e79).trans rfl) trivial
                          case s13 =>
                            intro ac wc hU
                            have e12 : slot ac 12 = .pointer (some ⟨B12, 0, none⟩) := (hU.keep 12 (by kernel_rfl)).trans rfl
                            have e79 : (Gd.eq (Value.bool false)).p (slot ac 79) wc := hU.dep 11 79 (by kernel_rfl)
                            exact step_skip ((wanted_some rfl rfl e79).trans rfl) trivial
                          case s14 =>
                            intro ac wc hU
                            have e80 : (Gd.any).p (slot ac 80) wc := hU.dep 12 80 (by kernel_rfl)
                            have e81 : (Gd.any).p (slot ac 81) wc := hU.dep 13 81 (by kernel_rfl)
                            have e79 : (Gd.eq (Value.bool false)).p (slot ac 79) wc := hU.dep 11 79 (by kernel_rfl)
                            exact step_skip ((wanted_some rfl rfl e79).trans rfl) trivial
                          case s15 =>
                            intro ac wc hU
                            have e79 : (Gd.eq (Value.bool false)).p (slot ac 79) wc := hU.dep 11 79 (by kernel_rfl)
                            have e82 : (Gd.any).p (slot ac 82) wc := hU.dep 14 82 (by kernel_rfl)
                            refine step_val (wanted_none rfl) (run_pick (b := false) rfl (by rw [eval_tmp]; exact e79)) ?_
                            show (Gd.eq (Value.bool false)).p (if false = true then _ else _) wc
                            rw [if_neg (by decide)]
                            exact (rfl)
                          case s16 =>
                            intro ac wc hU
                            have e83 : (Gd.eq (Value.bool false)).p (slot ac 83) wc := hU.dep 15 83 (by kernel_rfl)
                            refine step_val (wanted_none rfl) (run_move rfl) ?_
                            show (Gd.eq (Value.bool false)).p _ wc
                            exact (by rw [eval_tmp]; exact e83)
                          case s17 =>
                            intro ac wc hU
                            have e14 : slot ac 14 = .pointer (some ⟨wi.heap.size, 0, none⟩) := (hU.keep 14 (by kernel_rfl)).trans rfl
                            have e84 : (Gd.eq (Value.bool false)).p (slot ac 84) wc := hU.dep 16 84 (by kernel_rfl)
                            exact step_skip ((wanted_some rfl rfl e84).trans rfl) trivial
                          case s18 =>
                            intro ac wc hU
                            have e85 : (Gd.any).p (slot ac 85) wc := hU.dep 17 85 (by kernel_rfl)
                            have e84 : (Gd.eq (Value.bool false)).p (slot ac 84) wc := hU.dep 16 84 (by kernel_rfl)
                            exact step_skip ((wanted_some rfl rfl e84).trans rfl) trivial
                          case s19 =>
                            intro ac wc hU
                            have e11 : slot ac 11 = .int .i64 (b : Int) := (hU.keep 11 (by kernel_rfl)).trans rfl
                            have e84 : (Gd.eq (Value.bool false)).p (slot ac 84) wc := hU.dep 16 84 (by kernel_rfl)
                            exact step_skip ((wanted_some rfl rfl e84).trans rfl) trivial
                          case s20 =>
                            intro ac wc hU
                            have e10 : slot ac 10 = .pointer (some ⟨wo.heap.size + 1, 0, none⟩) := (hU.keep 10 (by kernel_rfl)).trans rfl
                            have e84 : (Gd.eq (Value.bool false)).p (slot ac 84) wc := hU.dep 16 84 (by kernel_rfl)
                            exact step_skip ((wanted_some rfl rfl e84).trans rfl) trivial
                          case s21 =>
                            intro ac wc hU
                            have e87 : (Gd.any).p (slot ac 87) wc := hU.dep 19 87 (by kernel_rfl)
                            have e88 : (Gd.any).p (slot ac 88) wc := hU.dep 20 88 (by kernel_rfl)
                            have e84 : (Gd.eq (Value.bool false)).p (slot ac 84) wc := hU.dep 16 84 (by kernel_rfl)
                            exact step_skip ((wanted_some rfl rfl e84).trans rfl) trivial
                          case s22 =>
                            intro ac wc hU
                            have e89 : (Gd.any).p (slot ac 89) wc := hU.dep 21 89 (by kernel_rfl)
                            have e84 : (Gd.eq (Value.bool false)).p (slot ac 84) wc := hU.dep 16 84 (by kernel_rfl)
                            exact step_skip ((wanted_some rfl rfl e84).trans rfl) trivial
                          case s23 =>
                            intro ac wc hU
                            have e90 : (Gd.any).p (slot ac 90) wc := hU.dep 22 90 (by kernel_rfl)
                            have e84 : (Gd.eq (Value.bool false)).p (slot ac 84) wc := hU.dep 16 84 (by kernel_rfl)
                            exact step_skip ((wanted_some rfl rfl e84).trans rfl) trivial
                          case s24 =>
                            intro ac wc hU
                            have e86 : (Gd.any).p (slot ac 86) wc := hU.dep 18 86 (by kernel_rfl)
                            have e91 : (Gd.any).p (slot ac 91) wc := hU.dep 23 91 (by kernel_rfl)
                            have e84 : (Gd.eq (Value.bool false)).p (slot ac 84) wc := hU.dep 16 84 (by kernel_rfl)
                            exact step_skip ((wanted_some rfl rfl e84).trans rfl) trivial
                          case s25 =>
                            intro ac wc hU
                            have e84 : (Gd.eq (Value.bool false)).p (slot ac 84) wc := hU.dep 16 84 (by kernel_rfl)
                            have e92 : (Gd.any).p (slot ac 92) wc := hU.dep 24 92 (by kernel_rfl)
                            refine step_val (wanted_none rfl) (run_pick (b := false) rfl (by rw [eval_tmp]; exact e84)) ?_
                            show (Gd.eq (Value.bool false)).p (if false = true then _ else _) wc
                            rw [if_neg (by decide)]
                            exact (rfl)
                        intro ac wc hU
                        have hlit := act_puts hU (by kernel_rfl) [68, 69, 70, 71, 72, 73, 74, 75, 76, 77, 78, 79, 80, 81, 82, 83, 84, 85, 86, 87, 88, 89, 90, 91, 92, 93] (by kernel_rfl)
                        have f68 : slot ac 68 = .pointer (some ⟨wi.heap.size, 0, none⟩) := hU.last 0 68 (by kernel_rfl)
                        have f69 : slot ac 69 = .int .i64 r.pre.bits := hU.last 1 69 (by kernel_rfl)
                        have f70 : slot ac 70 = .int .i64 bits := hU.last 2 70 (by kernel_rfl)
                        have f71 : slot ac 71 = .bool false := hU.last 3 71 (by kernel_rfl)
                        have f72 : slot ac 72 = .bool false := hU.last 4 72 (by kernel_rfl)
                        have f78 : slot ac 78 = Value.bool false := hU.last 10 78 (by kernel_rfl)
                        have f79 : slot ac 79 = Value.bool false := hU.last 11 79 (by kernel_rfl)
                        have f83 : slot ac 83 = Value.bool false := hU.last 15 83 (by kernel_rfl)
                        have f84 : slot ac 84 = Value.bool false := hU.last 16 84 (by kernel_rfl)
                        have f93 : slot ac 93 = Value.bool false := hU.last 25 93 (by kernel_rfl)
                        have HWD : Hid (Below w14.heap.size w14 wc) := hU.below
                        simp only [puts, List.foldl, Act.put, List.setIfInBounds_toArray, List.set_cons_zero, List.set_cons_succ, f68, f69, f70, f71, f72, f78, f79, f83, f84, f93] at hlit
                        rw [hlit]
                        clear hlit hU f68 f69 f70 f71 f72 f78 f79 f83 f84 f93
                        generalize wc = wd at HWD ⊢
                        have HE := Lib.hid (HFF.out wd HWD.out)
                        clear HWD
                        go_wp2
                        go_roundw
                        case rel => exact ⟨i + 1, by omega, by go_num, by rw [HNX.out, HD.out]; exact HE.out.2.2.2.2.2.2.1, HE.out.2.2.2.2.2.2.2.1, HE.out.2.2.2.2.2.2.2.2⟩
                        case measure => simp [intOf]; omega
                    · obtain rfl : i = m := by omega
                      have hall : t.take i = t := List.take_of_length_le (by rw [← HM.out]; exact Nat.le_refl _)
                      have HSB : Hid (wi.heap[wo.heap.size + 1]? = some (.cells (nc ((ndU T u b).setSl b (T.sl u b))) 104 (0, 0))) := by
                        have h1 := HNi.out
                        rw [hall, HQ.out, HS.out b HBB.out] at h1
                        exact h1
                      clear hall
                      go_wp2
                      have hn1 : 1 ≤ N := by omega
                      go_loopw [15] (fun j wr => ∃ j' : Nat, 1 ≤ j' ∧ j' ≤ N ∧ j = .int .i64 j' ∧ Hid (wr.heap[wo.heap.size + 1]? = some (.cells (nc (((ndU T u b).setSl b (T.sl u b)).setNx b (nxI T.ws (u ++ [b]) j'))) 104 (0, 0))) ∧ Hid (wr.heap[B12]? = some (.cells (kc q) 24 (0, 0))) ∧ Hid (Below w9.heap.size w9 wr)) (fun j _ => N - (intOf j).toNat)
                      case atStart => exact ⟨1, Nat.le_refl _, hn1, rfl, by show _ = _; rw [nxI_one, ndU_next]; exact HSB.out, HKi.out, HWi.out⟩
                      case round =>
                        obtain ⟨j, hj1, hj, rfl, HNj, HKj, HWj⟩ := hrel
                        obtain ⟨wj, hwj⟩ : ∃ wj, wj = wr := ⟨_, rfl⟩
                        subst hwj
                        by_cases hlt4 : j < N
                        · have hltI4 : (j : Int) < N := by omega
                          have hj0 : (0 : Int) ≤ j := by omega
                          obtain ⟨x, hx⟩ : ∃ x, T.ws[j]? = some x := ⟨T.ws[j]'(by rw [← HN.out]; exact hlt4), List.getElem?_eq_getElem _⟩
                          have HXJ := Lib.hid hx
                          have hxo := HWO.out.low x (List.mem_of_getElem? hx)
                          obtain ⟨kk1, kk2, -, -⟩ := HK.out wj HWj.out
                          have kw := kk2.way hx
                          rw [show (⟨gw, 0, none⟩ : Addr).add (j * 17) = ⟨gw, j * 17, none⟩ by rw [add_here, Nat.zero_add]] at kw
                          have cu : wj.cell? ⟨wo.heap.size, 0, none⟩ = some (.int .i64 (u.length : Int)) := by
                            have := kk1 0 _ (show (wl u)[0]? = some (.int .i64 (u.length : Int)) from rfl)
                            rw [add_here] at this; exact this
                          have cx : wj.cell? ⟨gw, j * 17, none⟩ = some (.int .i64 (x.length : Int)) := by
                            have := kw 0 _ (show (wl x)[0]? = some (.int .i64 (x.length : Int)) from rfl)
                            rw [add_here] at this; exact this
                          have lx : ∀ k, (keyLoad ⟨gw, j * 17 + 1, none⟩).run Try.prog (wj.drewN k) = .ok (.agg (kc (keyOf x))) (wj.drewN k) := fun k => run_keyLoad fun i y hy => by
                            have := kw (1 + i) y (by unfold wl; rw [Nat.add_comm, List.getElem?_cons_succ]; simpa [kc] using hy)
                            rw [add_here, ← Nat.add_assoc] at this
                            exact this
                          have lq : ∀ k, (keyLoad ⟨B12, 0, none⟩).run Try.prog (wj.drewN k) = .ok (.agg (kc q)) (wj.drewN k) := fun k => run_keyLoad fun i y hy => by
                            have := cell_of HKj.out i
                            rw [Nat.zero_add]
                            exact this.trans hy
                          have hE := fun W => run_eqKey_top (keyOf x) q W
                          have hwe := way_eq hxo.1 (low_snoc HLOW.out.1 HBB.out) (by have := hxo.2; omega)
                          rw [List.length_append, List.length_singleton, ← HQ.out] at hwe
                          push_cast at hwe
                          have hwu : IntKind.i64.wrap ((u.length : Int) + 1) = (u.length : Int) + 1 := by rw [IntKind.wrap_i64]; have := HLOW.out.2; omega
                          clear hx hxo kk1 kk2 kw
                          by_cases hlen : x.length = u.length + 1
                          · have e1 : ((x.length : Int) == (u.length : Int) + 1) = true := by rw [beq_iff_eq]; omega
                            have e1n : (x.length == u.length + 1) = true := by rw [beq_iff_eq]; exact hlen
                            rw [e1, Bool.true_and] at hwe
                            cases hk : keyEq (keyOf x) q with
                            | false =>
                              rw [hk] at hwe
                              have HD : Hid (x ≠ u ++ [b]) := of_decide_eq_false hwe.symm
                              simp only [hk] at hE
                              clear hwe hk hlen
                              go_wp2
                              go_quiet (fail)
                              generalize hwq : World.drewN wj _ = wq
                              have HQJ : Hid (wq.heap[wo.heap.size + 1]? = some (.cells (nc (((ndU T u b).setSl b (T.sl u b)).setNx b (nxI T.ws (u ++ [b]) j))) 104 (0, 0)) ∧ wq.heap[B12]? = some (.cells (kc q) 24 (0, 0)) ∧ Below w9.heap.size w9 wq) := by rw [← hwq]; exact ⟨HNj.out, HKj.out, ⟨HWj.out.os, HWj.out.tape, HWj.out.output, HWj.out.size, HWj.out.block⟩⟩
                              clear hwq lx lq hE cu cx
                              go_wp2
                              go_roundw
                              case rel => exact ⟨j + 1, by omega, by omega, by go_num, by show _ = _; rw [nxI_miss hj1 HXJ.out HD.out]; exact HQJ.out.1, HQJ.out.2.1, HQJ.out.2.2⟩
                              case measure => simp [intOf]; omega
                            | true =>
                              rw [hk] at hwe
                              have HD : Hid (x = u ++ [b]) := (of_decide_eq_true hwe.symm : x = u ++ [b])
                              simp only [hk] at hE
                              clear hwe hk hlen
                              go_wp2
                              go_quiet (fail)
                              generalize hwq : World.drewN wj _ = wq
                              have HQJ : Hid (wq.heap[wo.heap.size + 1]? = some (.cells (nc (((ndU T u b).setSl b (T.sl u b)).setNx b (nxI T.ws (u ++ [b]) j))) 104 (0, 0)) ∧ wq.heap[B12]? = some (.cells (kc q) 24 (0, 0)) ∧ Below w9.heap.size w9 wq) := by rw [← hwq]; exact ⟨HNj.out, HKj.out, ⟨HWj.out.os, HWj.out.tape, HWj.out.output, HWj.out.size, HWj.out.block⟩⟩
                              have cN : wq.cell? ⟨wo.heap.size + 1, 32 + b, none⟩ = some (ndC (((ndU T u b).setSl b (T.sl u b)).setNx b (nxI T.ws (u ++ [b]) j)) (32 + b)) := by rw [cell_of HQJ.out.1]; exact nc_at _ (by have := HBB.out; omega)
                              have fN := frozen_of HQJ.out.1 (32 + b)
                              have HSJ : Hid ((wq.setCell ⟨wo.heap.size + 1, 32 + b, none⟩ (.int .i64 (j : Int))).heap[wo.heap.size + 1]? = some (.cells (nc (((ndU T u b).setSl b (T.sl u b)).setNx b j)) 104 (0, 0)) ∧ (wq.setCell ⟨wo.heap.size + 1, 32 + b, none⟩ (.int .i64 (j : Int))).heap[B12]? = some (.cells (kc q) 24 (0, 0)) ∧ Below w9.heap.size w9 (wq.setCell ⟨wo.heap.size + 1, 32 + b, none⟩ (.int .i64 (j : Int)))) := by
                                refine ⟨?_, ?_, HQJ.out.2.2.setCell (by show _ ≤ wo.heap.size + 1; have := HS9.out; omega) _⟩
                                · have h := node_setNx (W := wq) (B := wo.heap.size + 1) HQJ.out.1 HBB.out j
                                  rw [setNx_setNx] at h
                                  exact h
                                · rw [heap_setCell_other _ _ _ _ (by show B12 ≠ wo.heap.size + 1; have := HLT12.out; omega)]
                                  exact HQJ.out.2.1
                              clear hwq lx lq hE cu cx
                              go_wp2
                              go_roundw
                              case rel => exact ⟨j + 1, by omega, by omega, by go_num, by show _ = _; rw [nxI_hit HOK.out.nodup (by rw [← HD.out]; exact HXJ.out)]; exact HSJ.out.1, HSJ.out.2.1, HSJ.out.2.2⟩
                              case measure => simp [intOf]; omega
                          · have e1 : ((x.length : Int) == (u.length : Int) + 1) = false := by rw [beq_eq_false_iff_ne]; omega
                            have e1n : (x.length == u.length + 1) = false := by rw [beq_eq_false_iff_ne]; exact hlen
                            have HD : Hid (x ≠ u ++ [b]) := fun h => hlen (by rw [h]; simp)
                            clear hwe hlen
                            go_wp2
                            go_quiet (fail)
                            generalize hwq : World.drewN wj _ = wq
                            have HQJ : Hid (wq.heap[wo.heap.size + 1]? = some (.cells (nc (((ndU T u b).setSl b (T.sl u b)).setNx b (nxI T.ws (u ++ [b]) j))) 104 (0, 0)) ∧ wq.heap[B12]? = some (.cells (kc q) 24 (0, 0)) ∧ Below w9.heap.size w9 wq) := by rw [← hwq]; exact ⟨HNj.out, HKj.out, ⟨HWj.out.os, HWj.out.tape, HWj.out.output, HWj.out.size, HWj.out.block⟩⟩
                            clear hwq lx lq hE cu cx
                            go_wp2
                            go_roundw
                            case rel => exact ⟨j + 1, by omega, by omega, by go_num, by show _ = _; rw [nxI_miss hj1 HXJ.out HD.out]; exact HQJ.out.1, HQJ.out.2.1, HQJ.out.2.2⟩
                            case measure => simp [intOf]; omega
                        · obtain rfl : j = N := by omega
                          have HFB : Hid (wj.heap[wo.heap.size + 1]? = some (.cells (nc (ndU T u (b + 1))) 104 (0, 0))) := by
                            have h := HNj.out
                            rw [HN.out, nxI_all, ndU_succ] at h
                            exact h
                          go_wp2
                          go_roundw
                          case rel => exact ⟨b + 1, by omega, by go_num, HFB.out, HWj.out⟩
                          case measure => simp [intOf]; omega
                · obtain rfl : b = 16 := by omega
                  obtain ⟨v7, hb7, ho7⟩ := (HK.out wb HW2b.out).2.2.2
                  have HFB := Lib.hid (HK.out wb HW2b.out).2.2.1
                  have c7 : wb.cell? ⟨w2.heap.size, 1, none⟩ = some v7 := by rw [cell_of hb7]; rfl
                  have hnn := HN2.out
                  rw [ndU_all] at hnn
                  have ln : (nodeLoad ⟨wo.heap.size + 1, 0, none⟩).run Try.prog wb = .ok (.agg (nc (T.node u))) wb := run_nodeLoad fun j x hx => by
                    rw [add_here, Nat.zero_add, cell_of hnn]; simpa [nc] using hx
                  have nr := run_nodesBuild (T.node u) wb
                  have hal : Below wb.heap.size wb (wb.alloc (.cells (nc (T.node u)) 104)) := (Below.refl _ _).alloc (Nat.le_refl _) _
                  have HOW := Lib.hid (ho7.later hal)
                  have HNEW := Lib.hid (newNode wb (T.node u))
                  have HAL := Lib.hid hal
                  have HX7 : Hid ((wb.alloc (.cells (nc (T.node u)) 104)).heap[w2.heap.size]? = some (.cells (tc bits v7) 52 (0, 0))) := (hal.block _ (Array.getElem?_eq_some_iff.1 hb7).1).trans hb7
                  have HSZ : Hid (w7.heap.size ≤ wb.heap.size) := by show _ ≤ _; have h1 := HFB.out.size; have h2 := (Array.getElem?_eq_some_iff.1 hb7).1; have h3 := hz7.out; omega
                  have hlen : (T.nodes.take n).length = n := by rw [List.length_take, T.nodes_length, ← HN.out]; omega
                  have HLEN := Lib.hid hlen
                  obtain ⟨i0, q0, q1', q2', q3⟩ := infoN'
                  have Q0 := Lib.hid q0
                  have Q1 := Lib.hid q1'
                  have Q2 := Lib.hid q2'
                  have Q3 := Lib.hid q3
                  have HON := Lib.hid ho7.one
                  clear hal q0 q1' q2' q3 hb7 ho7 hnn hlen
                  go_wp2_with (at_builtin; refine wpList_append_own _ rfl _ _ 50 rfl w7.heap.size 104 i0 (.agg (nc nd0)) 48 384 Try.underlying50 Q0.out Q1.out Q2.out Q3.out (nc_size _) (by decide) _ (T.nodes.take n).length (fn (T.nodes.take n)) rfl HOW.out ⟨wb.heap.size, 0, none⟩ 1 1 (ndl (T.node u)) rfl (ndl_length _) HNEW.out (ndl_one _) (by rw [HLEN.out]; simp only [maxLen]; omega) (by rw [HLEN.out]; omega) (by have := HSZ.out; simp; omega) ?_)
                  intro v' wz hown' hg _
                  have hx7 : wz.heap[w2.heap.size]? = some (.cells (tc bits v7) 52 (0, 0)) := by
                    rw [hg.block _ (Array.getElem?_eq_some_iff.1 HX7.out).1 (fun e => by have h1 := (World.ownsRow.lt HOW.out _ e.symm).1; have h2 := hz7.out; omega)]
                    exact HX7.out
                  have hbz : Below w2.heap.size w2 wz := (HFB.out.trans (HAL.out.mono HFB.out.size)).grown hg (Nat.le_trans HFB.out.size HAL.out.size) (fun k hk => by have h1 := (World.ownsRow.lt HOW.out k hk).1; have h2 := hz7.out; omega)
                  have hoz : OwnN wz w7.heap.size v' (T.nodes.take (n + 1)) := by
                    have e1 : T.nodes.take (n + 1) = T.nodes.take n ++ [T.node u] := by rw [List.take_add_one, T.nodes_at HU.out]; rfl
                    unfold OwnN
                    rw [e1, List.length_append, fn_append, fn_one, List.length_take]
                    exact hown'
                  have fz := frozen_of hx7 1
                  have cz : wz.cell? ⟨w2.heap.size, 1, none⟩ = some v7 := by rw [cell_of hx7]; rfl
                  have HE : Hid ((∃ v7, (wz.setCell ⟨w2.heap.size, 1, none⟩ v').heap[w2.heap.size]? = some (.cells (tc bits v7) 52 (0, 0)) ∧ OwnN (wz.setCell ⟨w2.heap.size, 1, none⟩ v') w7.heap.size v7 (T.nodes.take (n + 1))) ∧ Below w2.heap.size w2 (wz.setCell ⟨w2.heap.size, 1, none⟩ v')) :=
                    ⟨⟨v', heap_setCell_same _ _ _ _ _ _ hx7, ownsRow_setCell_below hoz (by show w2.heap.size < _; have := hz7.out; omega) _⟩, hbz.setCell (Nat.le_refl _) _⟩
                  obtain ⟨g3, cap3, hv3, -, -⟩ := hoz.form (by rw [List.length_take, T.nodes_length, ← HN.out]; omega)
                  generalize (T.nodes.take (n + 1)).length = m3 at hv3
                  clear hown' hg hx7 hbz hoz nr ln c7
                  subst hv3
                  go_wp2
                  go_roundw
                  case rel => exact ⟨n + 1, by omega, by go_num, HE.out.1, HE.out.2⟩
                  case measure => simp [intOf]; omega
            · obtain rfl : n = N := by omega
              have hall : T.nodes.take n = T.nodes := List.take_of_length_le (by rw [T.nodes_length, ← HN.out]; exact Nat.le_refl _)
              have HO' := HO.out
              rw [hall] at HO'
              clear hall
              obtain ⟨v7, hb7, ho7⟩ := HO'
              have t1 : wo.heap[w.heap.size]? = some (.cells tzero 52 (0, 0)) := (HT.out wo (HW2.out.trans (HW.out.mono HW2.out.size))).1
              have t3 : Below w.heap.size w wo := (HT.out wo (HW2.out.trans (HW.out.mono HW2.out.size))).2.2
              have ll := run_trieLoad (bits := bits) (v := v7) hb7
              have st5 := run_trieStore t1 (b2 := bits) (v2 := v7) ho7.one
              have HF := Lib.hid (trie_fin t1 t3 bits v7)
              have HOF : Hid (OwnN (wo.setRow w.heap.size (tc bits v7)) w.heap.size v7 T.nodes) := (ho7.setRow (by have := HZ.out; have := hz7.out; have := HW2.out.size; omega) _).base (by have := HZ.out; have := hz7.out; have := HW2.out.size; omega)
              clear hb7 ho7 t1 t3
              go_wp2
              refine bodyPost_ret (v := .tuple #[.agg (tc bits v7), .int .i64 0]) (rbuild_out HF.out.1 _ rfl rfl) rfl ?_
              exact ⟨v7, by rw [HXX.out], by rw [HXX.out]; exact HOF.out, HF.out.2⟩
        · have h512I : ¬ (N : Int) ≤ 512 := by omega
          have h512J : (512 : Int) < N := by omega
          have HX1 : Hid (X = (0, [], 5)) := by show _ = _; rw [HXB.out, if_neg h512]
          obtain ⟨W', st, st2, st3⟩ := BAD.out w2 5 HW2.out HX1.out
          have b0 := HB0.out
          have S2 := Lib.hid st2
          have S3 := Lib.hid st3
          clear st2 st3
          go_wp2
          exact bodyPost_ret (v := .tuple #[.agg (tc 0 (.slice none 0 0)), .int .i64 5]) (rbuild_out S2.out _ rfl rfl) rfl S3.out
      · have q1 : (bits != 32) = true := by simp [h32]
        have q2 : (bits != 128) = false := by rw [HBI.out.resolve_left h32]; rfl
        clear h32
        go_enter Try.func26, Try.ntmps26
        go_wp2_with fail
        rw [HW0.out]
        refine (C1.out _ HRZ.out).mono ?_
        rintro e w1 ⟨rfl, h1⟩
        have HWC := Lib.hid h1
        clear h1
        go_wp2_with fail
        refine (HWY.out w1 HWC.out).mono ?_
        rintro e w2 ⟨v6, rfl, ho6, h2⟩
        have HW2 := Lib.hid (HWC.out.trans (h2.mono HWC.out.size))
        have HO6 := Lib.hid (ho6.base (HWC.out.size))
        clear h2 ho6
        obtain ⟨gw, cw, hv6, hg1, hg2⟩ := HO6.out.form HWO.out.pos
        subst hv6
        obtain ⟨N, hN⟩ : ∃ N, N = T.ws.length := ⟨_, rfl⟩
        rw [← hN] at HO6 HXB ⊢
        have HWC2 : Hid (CellsAt w2 ⟨gw, 0, none⟩ (fw T.ws)) := HO6.out.cells hN
        have HN := Lib.hid hN
        have hNI : (N : Int) ≤ 1241 := by have h1 := HWO.out.le; have h2 := HT40.out; omega
        clear hN hg1 hg2
        by_cases h512 : N ≤ 512
        · have h512I : (N : Int) ≤ 512 := by omega
          have HXX : Hid (X = (bits, T.nodes, 0)) := by show _ = _; rw [HXB.out, if_pos h512]
          have bt := fun W => run_trieBuild0 W
          have bt2 : ∀ W : World, (trieBuild #[(0, .int .i64 bits)]).run Try.prog W = .ok (.agg (tc bits (.slice none 0 0))) W := fun W => by kernel_rfl
          have st7 : (trieStore ⟨w2.heap.size, 0, none⟩ (.agg (tc bits (.slice none 0 0)))).run Try.prog (w2.alloc (.cells #[.int .i64 0, .slice none 0 0] 52)) = .ok () (w2.alloc (.cells (tc bits (.slice none 0 0)) 52)) := by
            have h := run_trieStore (W := w2.alloc (.cells (tc 0 (.slice none 0 0)) 52)) (b2 := bits) (v2 := .slice none 0 0) (Go.heap_alloc_new w2 _) rfl
            rw [World.setRow_alloc_new] at h
            exact h
          have H7 : Hid ((w2.alloc (.cells (tc bits (.slice none 0 0)) 52)).heap[w2.heap.size]? = some (.cells (tc bits (.slice none 0 0)) 52 (0, 0))) := Go.heap_alloc_new w2 _
          have B7 : Hid (Below w2.heap.size w2 (w2.alloc (.cells (tc bits (.slice none 0 0)) 52))) := (Below.refl _ _).alloc (Nat.le_refl _) _
          obtain ⟨w7, hw7⟩ : ∃ w7, w2.alloc (.cells (tc bits (.slice none 0 0)) 52) = w7 := ⟨_, rfl⟩
          have hz7 : Hid (w7.heap.size = w2.heap.size + 1) := by show _ = _; rw [← hw7]; simp
          rw [hw7] at st7 H7 B7
          clear hw7
          go_wp2
          clear bt bt2 st7
          go_loopw [8] (fun i wr => ∃ n : Nat, n ≤ N ∧ i = .int .i64 n ∧ Hid (∃ v7, wr.heap[w2.heap.size]? = some (.cells (tc bits v7) 52 (0, 0)) ∧ OwnN wr w7.heap.size v7 (T.nodes.take n)) ∧ Hid (Below w2.heap.size w2 wr)) (fun i _ => N - (intOf i).toNat)
          case atStart => exact ⟨0, Nat.zero_le _, rfl, ⟨_, H7.out, ownN_nil _ _⟩, B7.out⟩
          case round =>
            obtain ⟨n, hn, rfl, HO, HW⟩ := hrel
            obtain ⟨wo, hwo⟩ : ∃ wo, wo = wr := ⟨_, rfl⟩
            subst hwo
            by_cases hlt : n < N
            · have hltI : (n : Int) < N := by omega
              have hn0 : (0 : Int) ≤ n := by omega
              obtain ⟨u, hu⟩ : ∃ u, T.ws[n]? = some u := ⟨T.ws[n]'(by rw [← HN.out]; exact hlt), List.getElem?_eq_getElem _⟩
              have HU := Lib.hid hu
              have hmem := List.mem_of_getElem? hu
              have HLOW := Lib.hid (HWO.out.low u hmem)
              have HRM := Lib.hid (HROOM.out u hmem)
              have HS := Lib.hid (HSL.out u hmem)
              have lw : (wayLoad ⟨gw, n * 17, none⟩).run Try.prog wo = .ok (.agg (wc u)) wo := run_wayLoad fun i x hx => by
                have := (HWC2.out.below HW.out HO6.out.lt2).way hu i x hx
                rw [show (⟨gw, 0, none⟩ : Addr).add (n * 17) = ⟨gw, n * 17, none⟩ by rw [add_here, Nat.zero_add]] at this
                exact this
              have wst := run_wayStore_new u wo #[Value.int IntKind.i64 0, Value.int IntKind.u8 0, Value.int IntKind.u8 0, Value.int IntKind.u8 0, Value.int IntKind.u8 0, Value.int IntKind.u8 0, Value.int IntKind.u8 0, Value.int IntKind.u8 0, Value.int IntKind.u8 0, Value.int IntKind.u8 0, Value.int IntKind.u8 0, Value.int IntKind.u8 0, Value.int IntKind.u8 0, Value.int IntKind.u8 0, Value.int IntKind.u8 0, Value.int IntKind.u8 0, Value.int IntKind.u8 0] rfl
              have HL9 : Hid (CellsAt (wo.alloc (.cells (wc u) 98)) ⟨wo.heap.size, 0, none⟩ (wl u)) := newWay wo u
              have HB9 : Hid (Below wo.heap.size wo (wo.alloc (.cells (wc u) 98))) := (Below.refl _ _).alloc (Nat.le_refl _) _
              have hs9 : (wo.alloc (.cells (wc u) 98)).heap.size = wo.heap.size + 1 := by simp
              obtain ⟨w9, hw9⟩ : ∃ w9, wo.alloc (.cells (wc u) 98) = w9 := ⟨_, rfl⟩
              rw [hw9] at wst HL9 HB9 hs9
              have HB10 : Hid (Below w9.heap.size w9 (w9.alloc (.cells (nc nd0) 104))) := (Below.refl _ _).alloc (Nat.le_refl _) _
              have hx10 : (w9.alloc (.cells (nc nd0) 104)).heap[w9.heap.size]? = some (.cells (nc nd0) 104 (0, 0)) := Go.heap_alloc_new w9 _
              rw [hs9] at hx10
              obtain ⟨w10, hw10⟩ : ∃ w10, w9.alloc (.cells (nc nd0) 104) = w10 := ⟨_, rfl⟩
              rw [hw10] at HB10 hx10
              have HX10 := Lib.hid hx10
              have HW10 : Hid (w9.alloc (.cells #[Value.int IntKind.i64 0, Value.int IntKind.u16 0, Value.int IntKind.i64 0, Value.int IntKind.u16 0, Value.int IntKind.i64 0, Value.int IntKind.u16 0, Value.int IntKind.i64 0, Value.int IntKind.u16 0, Value.int IntKind.i64 0, Value.int IntKind.u16 0, Value.int IntKind.i64 0, Value.int IntKind.u16 0, Value.int IntKind.i64 0, Value.int IntKind.u16 0, Value.int IntKind.i64 0, Value.int IntKind.u16 0, Value.int IntKind.i64 0, Value.int IntKind.u16 0, Value.int IntKind.i64 0, Value.int IntKind.u16 0, Value.int IntKind.i64 0, Value.int IntKind.u16 0, Value.int IntKind.i64 0, Value.int IntKind.u16 0, Value.int IntKind.i64 0, Value.int IntKind.u16 0, Value.int IntKind.i64 0, Value.int IntKind.u16 0, Value.int IntKind.i64 0, Value.int IntKind.u16 0, Value.int IntKind.i64 0, Value.int IntKind.u16 0, Value.int IntKind.i64 0, Value.int IntKind.i64 0, Value.int IntKind.i64 0, Value.int IntKind.i64 0, Value.int IntKind.i64 0, Value.int IntKind.i64 0, Value.int IntKind.i64 0, Value.int IntKind.i64 0, Value.int IntKind.i64 0, Value.int IntKind.i64 0, Value.int IntKind.i64 0, Value.int IntKind.i64 0, Value.int IntKind.i64 0, Value.int IntKind.i64 0, Value.int IntKind.i64 0, Value.int IntKind.i64 0] 104) = w10) := hw10
              have HK : Hid (∀ W, Below w9.heap.size w9 W → CellsAt W ⟨wo.heap.size, 0, none⟩ (wl u) ∧ CellsAt W ⟨gw, 0, none⟩ (fw T.ws) ∧ Below w2.heap.size w2 W ∧ ∃ v7, W.heap[w2.heap.size]? = some (.cells (tc bits v7) 52 (0, 0)) ∧ OwnN W w7.heap.size v7 (T.nodes.take n)) := fun W h => by
                have h2 : Below wo.heap.size wo W := HB9.out.trans (h.mono (by omega))
                have h3 := HW.out.trans (h2.mono HW.out.size)
                obtain ⟨v7, h4, h5⟩ := HO.out
                exact ⟨HL9.out.later h, HWC2.out.below h3 HO6.out.lt2, h3, v7, (h2.block _ (Array.getElem?_eq_some_iff.1 h4).1).trans h4, h5.later h2⟩
              have HS9 := Lib.hid hs9
              clear hu hmem hx10 hw10 hw9 hs9
              go_wp2
              rw [HS9.out, HW10.out]
              clear lw wst
              go_loopw [11] (fun i wr => ∃ b : Nat, b ≤ 16 ∧ i = .int .i64 b ∧ Hid (wr.heap[wo.heap.size + 1]? = some (.cells (nc (ndU T u b)) 104 (0, 0))) ∧ Hid (Below w9.heap.size w9 wr)) (fun i _ => 16 - (intOf i).toNat)
              case atStart => exact ⟨0, Nat.zero_le _, rfl, by rw [ndU_zero]; exact HX10.out, HB10.out⟩
              case round =>
                obtain ⟨b, hb, rfl, HN2, HW2b⟩ := hrel
                obtain ⟨wb, hwb⟩ : ∃ wb, wb = wr := ⟨_, rfl⟩
                subst hwb
                have hb0 : (0 : Int) ≤ b := by omega
                by_cases hb16 : b < 16
                · have hb16I : (b : Int) < 16 := by omega
                  have HBB : Hid (b < 16) := hb16
                  obtain ⟨k1, -, -, -⟩ := HK.out wb HW2b.out
                  have lk : (keyLoad ⟨wo.heap.size, 1, none⟩).run Try.prog wb = .ok (.agg (kc (keyOf u))) wb := run_keyLoad fun j x hx => by
                    have := k1 (1 + j) x (by show (wl u)[1 + j]? = some x; unfold wl; rw [Nat.add_comm, List.getElem?_cons_succ]; simpa [kc] using hx)
                    rw [add_here, Nat.zero_add] at this
                    exact this
                  have cs : wb.cell? ⟨wo.heap.size, 0, none⟩ = some (.int .i64 (u.length : Int)) := by
                    have := k1 0 _ (show (wl u)[0]? = some (.int .i64 (u.length : Int)) from rfl)
                    rw [add_here] at this; exact this
                  have HSET := Lib.hid (fun W => set_any u HLOW.out.1 (by have := HLOW.out.2; omega) b hb16 W)
                  have hzk : ∀ W : World, (keyStore ⟨W.heap.size, 0, none⟩ (.agg (kc (keyOf (u ++ [b]))))).run Try.prog (W.alloc (.cells #[Value.int IntKind.u8 0, Value.int IntKind.u8 0, Value.int IntKind.u8 0, Value.int IntKind.u8 0, Value.int IntKind.u8 0, Value.int IntKind.u8 0, Value.int IntKind.u8 0, Value.int IntKind.u8 0, Value.int IntKind.u8 0, Value.int IntKind.u8 0, Value.int IntKind.u8 0, Value.int IntKind.u8 0, Value.int IntKind.u8 0, Value.int IntKind.u8 0, Value.int IntKind.u8 0, Value.int IntKind.u8 0] 24)) = .ok () (W.alloc (.cells (kc (keyOf (u ++ [b]))) 24)) := fun W => by
                    have h := run_keyStore (w := W.alloc (.cells (kc zkey) 24)) (k := keyOf (u ++ [b])) (Go.heap_alloc_new W _) (kc_size _)
                    rw [World.setRow_alloc_new] at h
                    exact h
                  clear k1
                  go_wp2_with fail
                  refine (HSET.out wb).mono ?_
                  rintro e w11 ⟨rfl, h11⟩
                  have HW11 := Lib.hid (HW2b.out.trans (h11.mono HW2b.out.size))
                  have HN11 : Hid (w11.heap[wo.heap.size + 1]? = some (.cells (nc (ndU T u b)) 104 (0, 0))) := (h11.block _ (Array.getElem?_eq_some_iff.1 HN2.out).1).trans HN2.out
                  clear h11 lk cs
                  have hzk1 := hzk w11
                  have hal : Below w11.heap.size w11 (w11.alloc (.cells (kc (keyOf (u ++ [b]))) 24)) := (Below.refl _ _).alloc (Nat.le_refl _) _
                  have h12 : (w11.alloc (.cells (kc (keyOf (u ++ [b]))) 24)).heap[w11.heap.size]? = some (.cells (kc (keyOf (u ++ [b]))) 24 (0, 0)) := Go.heap_alloc_new w11 _
                  obtain ⟨w12, hw12⟩ : ∃ w12, w11.alloc (.cells (kc (keyOf (u ++ [b]))) 24) = w12 := ⟨_, rfl⟩
                  rw [hw12] at hzk1 hal h12
                  have HW12 := Lib.hid (HW11.out.trans (hal.mono HW11.out.size))
                  have HN12 : Hid (w12.heap[wo.heap.size + 1]? = some (.cells (nc (ndU T u b)) 104 (0, 0))) := (hal.block _ (Array.getElem?_eq_some_iff.1 HN11.out).1).trans HN11.out
                  have HK12 := Lib.hid h12
                  have HLT12 : Hid (wo.heap.size + 1 < w11.heap.size) := (Array.getElem?_eq_some_iff.1 HN11.out).1
                  clear hzk hal h12 hw12
                  go_wp2
                  clear hzk1
                  obtain ⟨a, cap, hv, -⟩ := rd_len (HT.out W0 HRZ.out).2.1
                  obtain ⟨m, hm⟩ : ∃ m, m = t.length := ⟨_, rfl⟩
                  rw [← hm] at hv
                  have HM := Lib.hid hm
                  have hmI : (m : Int) ≤ 40 := by have := HT40.out; omega
                  have HRD : Hid (∀ W, Below w9.heap.size w9 W → Rd W v t) := fun W h => (HT.out W (HW2.out.trans ((HK.out W h).2.2.1.mono HW2.out.size))).2.1
                  subst hv
                  clear hm
                  obtain ⟨q, hq⟩ : ∃ q, q = keyOf (u ++ [b]) := ⟨_, rfl⟩
                  have HQB : Hid (Bytes16 q) := by show Bytes16 q; rw [hq]; exact keyOf_bytes (low_snoc HLOW.out.1 HBB.out)
                  rw [← hq] at HK12
                  have HQ := Lib.hid hq
                  clear hq
                  generalize w11.heap.size = B12 at HK12 HLT12 ⊢
                  go_loopw [13] (fun i wr => ∃ i' : Nat, i' ≤ m ∧ i = .int .i64 i' ∧ Hid (wr.heap[wo.heap.size + 1]? = some (.cells (nc ((ndU T u b).setSl b ((t.take i').foldl (slotD bits q u.length) (0, 0)))) 104 (0, 0))) ∧ Hid (wr.heap[B12]? = some (.cells (kc q) 24 (0, 0))) ∧ Hid (Below w9.heap.size w9 wr)) (fun i _ => m - (intOf i).toNat)
                  case atStart => exact ⟨0, Nat.zero_le _, rfl, by show _ = _; rw [List.take_zero, List.foldl_nil, ndU_slot]; exact HN12.out, HK12.out, HW12.out⟩
                  case round =>
                    obtain ⟨i, hi, rfl, HNi, HKi, HWi⟩ := hrel
                    obtain ⟨wi, hwi⟩ : ∃ wi, wi = wr := ⟨_, rfl⟩
                    subst hwi
                    by_cases hlt3 : i < m
                    · have hltI3 : (i : Int) < m := by omega
                      have hi0 : (0 : Int) ≤ i := by omega
                      obtain ⟨r, hr⟩ : ∃ r, t[i]? = some r := ⟨t[i]'(by rw [← HM.out]; exact hlt3), List.getElem?_eq_getElem _⟩
                      obtain ⟨b0, o0, hab⟩ := rt_place (HRD.out wi HWi.out) hr
                      subst hab
                      have lp := (rt_pre (HRD.out wi HWi.out) hr).1
                      have HRR := Lib.hid hr
                      have hst : (preStore ⟨wi.heap.size, 0, none⟩ (.agg (pc r.pre))).run Try.prog (wi.alloc (.cells #[Value.int IntKind.i64 0, Value.int IntKind.i64 0, Value.int IntKind.u8 0, Value.int IntKind.u8 0, Value.int IntKind.u8 0, Value.int IntKind.u8 0, Value.int IntKind.u8 0, Value.int IntKind.u8 0, Value.int IntKind.u8 0, Value.int IntKind.u8 0, Value.int IntKind.u8 0, Value.int IntKind.u8 0, Value.int IntKind.u8 0, Value.int IntKind.u8 0, Value.int IntKind.u8 0, Value.int IntKind.u8 0, Value.int IntKind.u8 0, Value.int IntKind.u8 0] 26)) = .ok () (wi.alloc (.cells (pc r.pre) 26)) := by
                        have h := run_preStore (w := wi.alloc (.cells #[Value.int IntKind.i64 0, Value.int IntKind.i64 0, Value.int IntKind.u8 0, Value.int IntKind.u8 0, Value.int IntKind.u8 0, Value.int IntKind.u8 0, Value.int IntKind.u8 0, Value.int IntKind.u8 0, Value.int IntKind.u8 0, Value.int IntKind.u8 0, Value.int IntKind.u8 0, Value.int IntKind.u8 0, Value.int IntKind.u8 0, Value.int IntKind.u8 0, Value.int IntKind.u8 0, Value.int IntKind.u8 0, Value.int IntKind.u8 0, Value.int IntKind.u8 0] 26)) (p := r.pre) (Go.heap_alloc_new wi _) rfl
                        rw [World.setRow_alloc_new] at h
                        exact h
                      have hal : Below wi.heap.size wi (wi.alloc (.cells (pc r.pre) 26)) := (Below.refl _ _).alloc (Nat.le_refl _) _
                      have hx14 : (wi.alloc (.cells (pc r.pre) 26)).heap[wi.heap.size]? = some (.cells (pc r.pre) 26 (0, 0)) := Go.heap_alloc_new wi _
                      obtain ⟨w14, hw14⟩ : ∃ w14, wi.alloc (.cells (pc r.pre) 26) = w14 := ⟨_, rfl⟩
                      rw [hw14] at hst hal hx14
                      obtain ⟨x, hx⟩ : ∃ x, x = (t.take i).foldl (slotD bits q u.length) (0, 0) := ⟨_, rfl⟩
                      have HNX : Hid ((t.take (i + 1)).foldl (slotD bits q u.length) (0, 0) = slotD bits q u.length x r) := by show _ = _; rw [foldl_take_snoc hr, hx]
                      rw [← hx] at HNi
                      have HL14 := Lib.hid hal
                      have HX14 := Lib.hid hx14
                      have hmr := last_le (HGD.out.may r (List.mem_of_getElem? hr))
                      have HLST := Lib.hid hmr
                      have HFF : Hid (∀ W, Below w14.heap.size w14 W → (preLoad ⟨wi.heap.size, 0, none⟩).run Try.prog W = .ok (.agg (pc r.pre)) W ∧ W.cell? ⟨wi.heap.size, 0, none⟩ = some (.int .i64 r.pre.bits) ∧ W.cell? ⟨wi.heap.size, 1, none⟩ = some (.int .i64 r.pre.len) ∧
                          W.cell? ⟨wo.heap.size, 0, none⟩ = some (.int .i64 (u.length : Int)) ∧ (keyLoad ⟨B12, 0, none⟩).run Try.prog W = .ok (.agg (kc q)) W ∧ W.cell? ⟨wo.heap.size + 1, b * 2, none⟩ = some (.int .i64 (x.1 : Nat)) ∧
                          W.heap[wo.heap.size + 1]? = some (.cells (nc ((ndU T u b).setSl b x)) 104 (0, 0)) ∧ W.heap[B12]? = some (.cells (kc q) 24 (0, 0)) ∧ Below w9.heap.size w9 W) := fun W h => by
                        have h1 : Below wi.heap.size wi W := HL14.out.trans (h.mono HL14.out.size)
                        have h2 := HWi.out.trans (h1.mono HWi.out.size)
                        have h14 : W.heap[wi.heap.size]? = some (.cells (pc r.pre) 26 (0, 0)) := (h.block _ (Array.getElem?_eq_some_iff.1 HX14.out).1).trans HX14.out
                        have hn : W.heap[wo.heap.size + 1]? = some (.cells (nc ((ndU T u b).setSl b x)) 104 (0, 0)) := (h1.block _ (Array.getElem?_eq_some_iff.1 HNi.out).1).trans HNi.out
                        have hk : W.heap[B12]? = some (.cells (kc q) 24 (0, 0)) := (h1.block _ (Array.getElem?_eq_some_iff.1 HKi.out).1).trans HKi.out
                        refine ⟨run_preLoad fun j y hy => ?_, ?_, ?_, ?_, run_keyLoad fun j y hy => ?_, ?_, hn, hk, h2⟩
                        · rw [cell_of h14, Nat.zero_add]; exact hy
                        · rw [cell_of h14]; exact pc_bits r.pre
                        · rw [cell_of h14]; exact pc_len r.pre
                        · have := (HK.out W h2).1 0 _ (show (wl u)[0]? = some (.int .i64 (u.length : Int)) from rfl)
                          rw [add_here] at this; exact this
                        · rw [cell_of hk, Nat.zero_add]; exact hy
                        · rw [cell_of hn, nc_at _ (by have := HBB.out; omega), Nat.mul_comm, ndC_len _ HBB.out]
                          show some (Value.int .i64 (((if b = b then x else (ndU T u b).sl b).1 : Nat) : Int)) = _
                          rw [if_pos rfl]
                      have HLAST := Lib.hid (fun W => last_any r HLST.out.1 HLST.out.2.1 W)
                      have HFIT := Lib.hid (fun W => rfits_any r.pre q r.hk HQB.out W)
                      clear hr hx hw14 hal hx14 hmr
                      go_wp2
                      clear lp hst
                      by_cases c1 : r.pre.bits = bits
                      · have C1b : (r.pre.bits == bits) = true := by rw [beq_iff_eq]; exact c1
                        have C1h := Lib.hid c1
                        clear c1
                        by_cases c2 : lastN r = u.length
                        · have C2b : ((lastN r : Int) == (u.length : Int)) = true := by rw [beq_iff_eq]; omega
                          have C2n : (lastN r == u.length) = true := by rw [beq_iff_eq]; exact c2
                          have C2h := Lib.hid c2
                          clear c2
                          cases c3 : fitsB r.pre q with
                          | false =>
                            rw [c3] at HFIT
                            have HD : Hid (slotD bits q u.length x r = x) := by show _ = _; unfold slotD; rw [if_neg (fun h => by have := h.2.2.1; rw [c3] at this; cases this)]
                            clear c3
                            refine region_slots (by kernel_rfl) (by kernel_rfl) (Gof [Gd.eq (.pointer (some ⟨wi.heap.size, 0, none⟩)), Gd.eq (.int .i64 r.pre.bits), Gd.eq (.int .i64 bits), Gd.eq (.bool true), Gd.eq (.bool true), Gd.eq (.agg (pc r.pre)), Gd.eq (.int .i64 (lastN r : Nat)), Gd.eq (.pointer (some ⟨wo.heap.size, 0, none⟩)), Gd.eq (.int .i64 (u.length : Int)), Gd.eq (.bool true), Gd.eq (.bool true), Gd.eq (.bool true), Gd.eq (.agg (pc r.pre)), Gd.eq (.agg (kc q)), Gd.eq (.bool false), Gd.eq (.bool false), Gd.eq (.bool false), Gd.any, Gd.any, Gd.any, Gd.any, Gd.any, Gd.any, Gd.any, Gd.any, Gd.eq (Value.bool false)]) (Gof_st _) (steps_all ?_) ?_
                            · dsimp only
                              refine StepsFrom.cons ?s0 (StepsFrom.cons ?s1 (StepsFrom.cons ?s2 (StepsFrom.cons ?s3 (StepsFrom.cons ?s4 (StepsFrom.cons ?s5 (StepsFrom.cons ?s6 (StepsFrom.cons ?s7 (StepsFrom.cons ?s8 (StepsFrom.cons ?s9 (StepsFrom.cons ?s10 (StepsFrom.cons ?s11 (StepsFrom.cons ?s12 (StepsFrom.cons ?s13 (StepsFrom.cons ?s14 (StepsFrom.cons ?s15 (StepsFrom.cons ?s16 (StepsFrom.cons ?s17 (StepsFrom.cons ?s18 (StepsFrom.cons ?s19 (StepsFrom.cons ?s20 (StepsFrom.cons ?s21 (StepsFrom.cons ?s22 (StepsFrom.cons ?s23 (StepsFrom.cons ?s24 (StepsFrom.cons ?s25 StepsFrom.nil)))))))))))))))))))))))))
                              case s0 =>
                                intro ac wc hU
                                have e14 : slot ac 14 = .pointer (some ⟨wi.heap.size, 0, none⟩) := (hU.keep 14 (by kernel_rfl)).trans rfl
                                refine step_val (wanted_none rfl) (v := .pointer (some ⟨wi.heap.size, 0, none⟩)) ?_ rfl
                                have e14 : slot ac 14 = .pointer (some ⟨wi.heap.size, 0, none⟩) := e14
                                simp [execOp, eval_tmp, e14] <;> go_simp
                              case s1 =>
                                intro ac wc hU
                                have e68 : (Gd.eq (.pointer (some ⟨wi.heap.size, 0, none⟩))).p (slot ac 68) wc := hU.dep 0 68 (by kernel_rfl)
                                refine step_val (wanted_none rfl) (v := .int .i64 r.pre.bits) ?_ rfl
                                have hc := (HFF.out wc hU.below).2.1
                                have e68 : slot ac 68 = .pointer (some ⟨wi.heap.size, 0, none⟩) := e68
                                simp [execOp, eval_tmp, e68] <;> go_simp
                              case s2 =>
                                intro ac wc hU
                                have e1 : slot ac 1 = .int .i64 bits := (hU.keep 1 (by kernel_rfl)).trans rfl
                                refine step_val (wanted_none rfl) (run_move rfl) ?_
                                show (Gd.eq (.int .i64 bits)).p _ wc
                                exact (by rw [eval_tmp]; exact e1)
                              case s3 =>
                                intro ac wc hU
                                have e69 : (Gd.eq (.int .i64 r.pre.bits)).p (slot ac 69) wc := hU.dep 1 69 (by kernel_rfl)
                                have e70 : (Gd.eq (.int .i64 bits)).p (slot ac 70) wc := hU.dep 2 70 (by kernel_rfl)
                                refine step_val (wanted_none rfl) (v := .bool true) ?_ rfl
                                have e69 : slot ac 69 = .int .i64 r.pre.bits := e69
                                have e70 : slot ac 70 = .int .i64 bits := e70
                                simp [execOp, eval_tmp, e69, e70] <;> go_simp
                              case s4 =>
                                intro ac wc hU
                                have e71 : (Gd.eq (.bool true)).p (slot ac 71) wc := hU.dep 3 71 (by kernel_rfl)
                                refine step_val (wanted_none rfl) (run_move rfl) ?_
                                show (Gd.eq (.bool true)).p _ wc
                                exact (by rw [eval_tmp]; exact e71)
                              case s5 =>
                                intro ac wc hU
                                have e14 : slot ac 14 = .pointer (some ⟨wi.heap.size, 0, none⟩) := (hU.keep 14 (by kernel_rfl)).trans rfl
                                have e72 : (Gd.eq (.bool true)).p (slot ac 72) wc := hU.dep 4 72 (by kernel_rfl)
                                refine step_val ((wanted_some rfl rfl e72).trans rfl) (v := .agg (pc r.pre)) ?_ rfl
                                have hc := (HFF.out wc hU.below).1
                                have e14 : slot ac 14 = .pointer (some ⟨wi.heap.size, 0, none⟩) := e14
                                simp [execOp, eval_tmp, e14] <;> go_simp
                              case s6 =>
                                intro ac wc hU
                                have e73 : (Gd.eq (.agg (pc r.pre))).p (slot ac 73) wc := hU.dep 5 73 (by kernel_rfl)
                                have e72 : (Gd.eq (.bool true)).p (slot ac 72) wc := hU.dep 4 72 (by kernel_rfl)
                                refine step_call ((wanted_some rfl rfl e72).trans rfl) (f := 59) (args := #[(.agg (pc r.pre))]) ?_ ?_
                                · have e73 : slot ac 73 = .agg (pc r.pre) := e73
                                  simp [execOp, resolve, invoke, eval_tmp, e73] <;> go_simp
                                · refine (HLAST.out wc).mono ?_
                                  rintro e w' ⟨rfl, hb⟩; exact ⟨_, rfl, hb, rfl⟩
                              case s7 =>
                                intro ac wc hU
                                have e9 : slot ac 9 = .pointer (some ⟨wo.heap.size, 0, none⟩) := (hU.keep 9 (by kernel_rfl)).trans rfl
                                have e72 : (Gd.eq (.bool true)).p (slot ac 72) wc := hU.dep 4 72 (by kernel_rfl)
                                refine step_val ((wanted_some rfl rfl e72).trans rfl) (v := .pointer (some ⟨wo.heap.size, 0, none⟩)) ?_ rfl
                                have e9 : slot ac 9 = .pointer (some ⟨wo.heap.size, 0, none⟩) := e9
                                simp [execOp, eval_tmp, e9] <;> go_simp
                              case s8 =>
                                intro ac wc hU
                                have e75 : (Gd.eq (.pointer (some ⟨wo.heap.size, 0, none⟩))).p (slot ac 75) wc := hU.dep 7 75 (by kernel_rfl)
                                have e72 : (Gd.eq (.bool true)).p (slot ac 72) wc := hU.dep 4 72 (by kernel_rfl)
                                refine step_val ((wanted_some rfl rfl e72).trans rfl) (v := .int .i64 (u.length : Int)) ?_ rfl
                                have hc := (HFF.out wc hU.below).2.2.2.1
                                have e75 : slot ac 75 = .pointer (some ⟨wo.heap.size, 0, none⟩) := e75
                                simp [execOp, eval_tmp, e75] <;> go_simp
                              case s9 =>
                                intro ac wc hU
                                have e74 : (Gd.eq (.int .i64 (lastN r : Nat))).p (slot ac 74) wc := hU.dep 6 74 (by kernel_rfl)
                                have e76 : (Gd.eq (.int .i64 (u.length : Int))).p (slot ac 76) wc := hU.dep 8 76 (by kernel_rfl)
                                have e72 : (Gd.eq (.bool true)).p (slot ac 72) wc := hU.dep 4 72 (by kernel_rfl)
                                refine step_val ((wanted_some rfl rfl e72).trans rfl) (v := .bool true) ?_ rfl
                                have e74 : slot ac 74 = .int .i64 (lastN r : Nat) := e74
                                have e76 : slot ac 76 = .int .i64 (u.length : Int) := e76
                                simp [execOp, eval_tmp, e74, e76] <;> go_simp
                              case s10 =>
                                intro ac wc hU
                                have e72 : (Gd.eq (.bool true)).p (slot ac 72) wc := hU.dep 4 72 (by kernel_rfl)
                                have e77 : (Gd.eq (.bool true)).p (slot ac 77) wc := hU.dep 9 77 (by kernel_rfl)
                                refine step_val (wanted_none rfl) (run_pick (b := true) rfl (by rw [eval_tmp]; exact e72)) ?_
                                show (Gd.eq (.bool true)).p (if true = true then _ else _) wc
                                rw [if_pos rfl]
                                exact (by rw [eval_tmp]; exact e77)
                              case s11 =>
                                intro ac wc hU
                                have e78 : (Gd.eq (.bool true)).p (slot ac 78) wc := hU.dep 10 78 (by kernel_rfl)
                                refine step_val (wanted_none rfl) (run_move rfl) ?_
                                show (Gd.eq (.bool true)).p _ wc
                                exact (by rw [eval_tmp]; exact e78)
                              case s12 =>
                                intro ac wc hU
                                have e14 : slot ac 14 = .pointer (some ⟨wi.heap.size, 0, none⟩) := (hU.keep 14 (by kernel_rfl)).trans rfl
                                have e79 : (Gd.eq (.bool true)).p (slot ac 79) wc := hU.dep 11 79 (by kernel_rfl)
                                refine step_val ((wanted_some rfl rfl e79).trans rfl) (v := .agg (pc r.pre)) ?_ rfl
                                have hc := (HFF.out wc hU.below).1
                                have e14 : slot ac 14 = .pointer (some ⟨wi.heap.size, 0, none⟩) := e14
                                simp [execOp, eval_tmp, e14] <;> go_simp
                              case s13 =>
                                intro ac wc hU
                                have e12 : slot ac 12 = .pointer (some ⟨B12, 0, none⟩) := (hU.keep 12 (by kernel_rfl)).trans rfl
                                have e79 : (Gd.eq (.bool true)).p (slot ac 79) wc := hU.dep 11 79 (by kernel_rfl)
                                refine step_val ((wanted_some rfl rfl e79).trans rfl) (v := .agg (kc q)) ?_ rfl
                                have hc := (HFF.out wc hU.below).2.2.2.2.1
                                have e12 : slot ac 12 = .pointer (some ⟨B12, 0, none⟩) := e12
                                simp [execOp, eval_tmp, e12] <;> go_simp
                              case s14 =>
                                intro ac wc hU
                                have e80 : (Gd.eq (.agg (pc r.pre))).p (slot ac 80) wc := hU.dep 12 80 (by kernel_rfl)
                                have e81 : (Gd.eq (.agg (kc q))).p (slot ac 81) wc := hU.dep 13 81 (by kernel_rfl)
                                have e79 : (Gd.eq (.bool true)).p (slot ac 79) wc := hU.dep 11 79 (by kernel_rfl)
                                refine step_call ((wanted_some rfl rfl e79).trans rfl) (f := 53) (args := #[(.agg (pc r.pre)), (.agg (kc q))]) ?_ ?_
                                · have e80 : slot ac 80 = .agg (pc r.pre) := e80
                                  have e81 : slot ac 81 = .agg (kc q) := e81
                                  simp [execOp, resolve, invoke, eval_tmp, e80, e81] <;> go_simp
                                · refine (HFIT.out wc).mono ?_
                                  rintro e w' ⟨rfl, hb⟩; exact ⟨_, rfl, hb, rfl⟩
                              case s15 =>
                                intro ac wc hU
                                have e79 : (Gd.eq (.bool true)).p (slot ac 79) wc := hU.dep 11 79 (by kernel_rfl)
                                have e82 : (Gd.eq (.bool false)).p (slot ac 82) wc := hU.dep 14 82 (by kernel_rfl)
                                refine step_val (wanted_none rfl) (run_pick (b := true) rfl (by rw [eval_tmp]; exact e79)) ?_
                                show (Gd.eq (.bool false)).p (if true = true then _ else _) wc
                                rw [if_pos rfl]
                                exact (by rw [eval_tmp]; exact e82)
                              case s16 =>
                                intro ac wc hU
                                have e83 : (Gd.eq (.bool false)).p (slot ac 83) wc := hU.dep 15 83 (by kernel_rfl)
                                refine step_val (wanted_none rfl) (run_move rfl) ?_
                                show (Gd.eq (.bool false)).p _ wc
                                exact (by rw [eval_tmp]; exact e83)
                              case s17 =>
                                intro ac wc hU
                                have e14 : slot ac 14 = .pointer (some ⟨wi.heap.size, 0, none⟩) := (hU.keep 14 (by kernel_rfl)).trans rfl
                                have e84 : (Gd.eq (.bool false)).p (slot ac 84) wc := hU.dep 16 84 (by kernel_rfl)
                                exact step_skip ((wanted_some rfl rfl e84).trans rfl) trivial
                              case s18 =>
                                intro ac wc hU
                                have e85 : (Gd.any).p (slot ac 85) wc := hU.dep 17 85 (by kernel_rfl)
                                have e84 : (Gd.eq (.bool false)).p (slot ac 84) wc := hU.dep 16 84 (by kernel_rfl)
                                exact step_skip ((wanted_some rfl rfl e84).trans rfl) trivial
                              case s19 =>
                                intro ac wc hU
                                have e11 : slot ac 11 = .int .i64 (b : Int) := (hU.keep 11 (by kernel_rfl)).trans rfl
                                have e84 : (Gd.eq (.bool false)).p (slot ac 84) wc := hU.dep 16 84 (by kernel_rfl)
                                exact step_skip ((wanted_some rfl rfl e84).trans rfl) trivial
                              case s20 =>
                                intro ac wc hU
                                have e10 : slot ac 10 = .pointer (some ⟨wo.heap.size + 1, 0, none⟩) := (hU.keep 10 (by kernel_rfl)).trans rfl
                                have e84 : (Gd.eq (.bool false)).p (slot ac 84) wc := hU.dep 16 84 (by kernel_rfl)
                                exact step_skip ((wanted_some rfl rfl e84).trans rfl) trivial
                              case s21 =>
                                intro ac wc hU
                                have e87 : (Gd.any).p (slot ac 87) wc := hU.dep 19 87 (by kernel_rfl)
                                have e88 : (Gd.any).p (slot ac 88) wc := hU.dep 20 88 (by kernel_rfl)
                                have e84 : (Gd.eq (.bool false)).p (slot ac 84) wc := hU.dep 16 84 (by kernel_rfl)
                                exact step_skip ((wanted_some rfl rfl e84).trans rfl) trivial
                              case s22 =>
                                intro ac wc hU
                                have e89 : (Gd.any).p (slot ac 89) wc := hU.dep 21 89 (by kernel_rfl)
                                have e84 : (Gd.eq (.bool false)).p (slot ac 84) wc := hU.dep 16 84 (by kernel_rfl)
                                exact step_skip ((wanted_some rfl rfl e84).trans rfl) trivial
                              case s23 =>
                                intro ac wc hU
                                have e90 : (Gd.any).p (slot ac 90) wc := hU.dep 22 90 (by kernel_rfl)
                                have e84 : (Gd.eq (.bool false)).p (slot ac 84) wc := hU.dep 16 84 (by kernel_rfl)
                                exact step_skip ((wanted_some rfl rfl e84).trans rfl) trivial
                              case s24 =>
                                intro ac wc hU
                                have e86 : (Gd.any).p (slot ac 86) wc := hU.dep 18 86 (by kernel_rfl)
                                have e91 : (Gd.any).p (slot ac 91) wc := hU.dep 23 91 (by kernel_rfl)
                                have e84 : (Gd.eq (.bool false)).p (slot ac 84) wc := hU.dep 16 84 (by kernel_rfl)
                                exact step_skip ((wanted_some rfl rfl e84).trans rfl) trivial
                              case s25 =>
                                intro ac wc hU
                                have e84 : (Gd.eq (.bool false)).p (slot ac 84) wc := hU.dep 16 84 (by kernel_rfl)
                                have e92 : (Gd.any).p (slot ac 92) wc := hU.dep 24 92 (by kernel_rfl)
                                refine step_val (wanted_none rfl) (run_pick (b := false) rfl (by rw [eval_tmp]; exact e84)) ?_
                                show (Gd.eq (Value.bool false)).p (if false = true then _ else _) wc
                                rw [if_neg (by decide)]
                                exact (rfl)
                            intro ac wc hU
                            have hlit := act_puts hU (by kernel_rfl) [68, 69, 70, 71, 72, 73, 74, 75, 76, 77, 78, 79, 80, 81, 82, 83, 84, 85, 86, 87, 88, 89, 90, 91, 92, 93] (by kernel_rfl)
                            have f68 : slot ac 68 = .pointer (some ⟨wi.heap.size, 0, none⟩) := hU.last 0 68 (by kernel_rfl)
                            have f69 : slot ac 69 = .int .i64 r.pre.bits := hU.last 1 69 (by kernel_rfl)
                            have f70 : slot ac 70 = .int .i64 bits := hU.last 2 70 (by kernel_rfl)
                            have f71 : slot ac 71 = .bool true := hU.last 3 71 (by kernel_rfl)
                            have f72 : slot ac 72 = .bool true := hU.last 4 72 (by kernel_rfl)
                            have f73 : slot ac 73 = .agg (pc r.pre) := hU.last 5 73 (by kernel_rfl)
                            have f74 : slot ac 74 = .int .i64 (lastN r : Nat) := hU.last 6 74 (by kernel_rfl)
                            have f75 : slot ac 75 = .pointer (some ⟨wo.heap.size, 0, none⟩) := hU.last 7 75 (by kernel_rfl)
                            have f76 : slot ac 76 = .int .i64 (u.length : Int) := hU.last 8 76 (by kernel_rfl)
                            have f77 : slot ac 77 = .bool true := hU.last 9 77 (by kernel_rfl)
                            have f78 : slot ac 78 = .bool true := hU.last 10 78 (by kernel_rfl)
                            have f79 : slot ac 79 = .bool true := hU.last 11 79 (by kernel_rfl)
                            have f80 : slot ac 80 = .agg (pc r.pre) := hU.last 12 80 (by kernel_rfl)
                            have f81 : slot ac 81 = .agg (kc q) := hU.last 13 81 (by kernel_rfl)
                            have f82 : slot ac 82 = .bool false := hU.last 14 82 (by kernel_rfl)
                            have f83 : slot ac 83 = .bool false := hU.last 15 83 (by kernel_rfl)
                            have f84 : slot ac 84 = .bool false := hU.last 16 84 (by kernel_rfl)
                            have f93 : slot ac 93 = Value.bool false := hU.last 25 93 (by kernel_rfl)
                            have HWD : Hid (Below w14.heap.size w14 wc) := hU.below
                            simp only [puts, List.foldl, Act.put, List.setIfInBounds_toArray, List.set_cons_zero, List.set_cons_succ, f68, f69, f70, f71, f72, f73, f74, f75, f76, f77, f78, f79, f80, f81, f82, f83, f84, f93] at hlit
                            rw [hlit]
                            clear hlit hU f68 f69 f70 f71 f72 f73 f74 f75 f76 f77 f78 f79 f80 f81 f82 f83 f84 f93
                            generalize wc = wd at HWD ⊢
                            have HE := Lib.hid (HFF.out wd HWD.out)
                            clear HWD
                            go_wp2
                            go_roundw
                            case rel => exact ⟨i + 1, by omega, by go_num, by rw [HNX.out, HD.out]; exact HE.out.2.2.2.2.2.2.1, HE.out.2.2.2.2.2.2.2.1, HE.out.2.2.2.2.2.2.2.2⟩
                            case measure => simp [intOf]; omega
                          | true =>
                            rw [c3] at HFIT
                            by_cases c4 : (x.1 : Int) ≤ r.pre.len
                            · have C4b : decide ((x.1 : Int) ≤ r.pre.len) = true := decide_eq_true c4
                              have HD : Hid (slotD bits q u.length x r = slotR r) := by show _ = _; unfold slotD; rw [if_pos ⟨C1h.out, C2h.out, c3, c4⟩]
                              clear c3
                              refine region_slots (by kernel_rfl) (by kernel_rfl) (Gof [Gd.eq (.pointer (some ⟨wi.heap.size, 0, none⟩)), Gd.eq (.int .i64 r.pre.bits), Gd.eq (.int .i64 bits), Gd.eq (.bool true), Gd.eq (.bool true), Gd.eq (.agg (pc r.pre)), Gd.eq (.int .i64 (lastN r : Nat)), Gd.eq (.pointer (some ⟨wo.heap.size, 0, none⟩)), Gd.eq (.int .i64 (u.length : Int)), Gd.eq (.bool true), Gd.eq (.bool true), Gd.eq (.bool true), Gd.eq (.agg (pc r.pre)), Gd.eq (.agg (kc q)), Gd.eq (.bool true), Gd.eq (.bool true), Gd.eq (.bool true), Gd.eq (.pointer (some ⟨wi.heap.size, 1, none⟩)), Gd.eq (.int .i64 r.pre.len), Gd.eq (.int .i64 (b : Int)), Gd.eq (.pointer (some ⟨wo.heap.size + 1, 0, none⟩)), Gd.eq (.pointer (some ⟨wo.heap.size + 1, b * 2, none⟩)), Gd.eq (.pointer (some ⟨wo.heap.size + 1, b * 2, none⟩)), Gd.eq (.int .i64 (x.1 : Nat)), Gd.eq (.bool true), Gd.eq (.bool true)]) (Gof_st _) (steps_all ?_) ?_
                              · dsimp only
                                refine StepsFrom.cons ?s0 (StepsFrom.cons ?s1 (StepsFrom.cons ?s2 (StepsFrom.cons ?s3 (StepsFrom.cons ?s4 (StepsFrom.cons ?s5 (StepsFrom.cons ?s6 (StepsFrom.cons ?s7 (StepsFrom.cons ?s8 (StepsFrom.cons ?s9 (StepsFrom.cons ?s10 (StepsFrom.cons ?s11 (StepsFrom.cons ?s12 (StepsFrom.cons ?s13 (StepsFrom.cons ?s14 (StepsFrom.cons ?s15 (StepsFrom.cons ?s16 (StepsFrom.cons ?s17 (StepsFrom.cons ?s18 (StepsFrom.cons ?s19 (StepsFrom.cons ?s20 (StepsFrom.cons ?s21 (StepsFrom.cons ?s22 (StepsFrom.cons ?s23 (StepsFrom.cons ?s24 (StepsFrom.cons ?s25 StepsFrom.nil)))))))))))))))))))))))))
                                case s0 =>
                                  intro ac wc hU
                                  have e14 : slot ac 14 = .pointer (some ⟨wi.heap.size, 0, none⟩) := (hU.keep 14 (by kernel_rfl)).trans rfl
                                  refine step_val (wanted_none rfl) (v := .pointer (some ⟨wi.heap.size, 0, none⟩)) ?_ rfl
                                  have e14 : slot ac 14 = .pointer (some ⟨wi.heap.size, 0, none⟩) := e14
                                  simp [execOp, eval_tmp, e14] <;> go_simp
                                case s1 =>
                                  intro ac wc hU
                                  have e68 : (Gd.eq (.pointer (some ⟨wi.heap.size, 0, none⟩))).p (slot ac 68) wc := hU.dep 0 68 (by kernel_rfl)
                                  refine step_val (wanted_none rfl) (v := .int .i64 r.pre.bits) ?_ rfl
                                  have hc := (HFF.out wc hU.below).2.1
                                  have e68 : slot ac 68 = .pointer (some ⟨wi.heap.size, 0, none⟩) := e68
                                  simp [execOp, eval_tmp, e68] <;> go_simp
                                case s2 =>
                                  intro ac wc hU
                                  have e1 : slot ac 1 = .int .i64 bits := (hU.keep 1 (by kernel_rfl)).trans rfl
                                  refine step_val (wanted_none rfl) (run_move rfl) ?_
                                  show (Gd.eq (.int .i64 bits)).p _ wc
                                  exact (by rw [eval_tmp]; exact e1)
                                case s3 =>
                                  intro ac wc hU
                                  have e69 : (Gd.eq (.int .i64 r.pre.bits)).p (slot ac 69) wc := hU.dep 1 69 (by kernel_rfl)
                                  have e70 : (Gd.eq (.int .i64 bits)).p (slot ac 70) wc := hU.dep 2 70 (by kernel_rfl)
                                  refine step_val (wanted_none rfl) (v := .bool true) ?_ rfl
                                  have e69 : slot ac 69 = .int .i64 r.pre.bits := e69
                                  have e70 : slot ac 70 = .int .i64 bits := e70
                                  simp [execOp, eval_tmp, e69, e70] <;> go_simp
                                case s4 =>
                                  intro ac wc hU
                                  have e71 : (Gd.eq (.bool true)).p (slot ac 71) wc := hU.dep 3 71 (by kernel_rfl)
                                  refine step_val (wanted_none rfl) (run_move rfl) ?_
                                  show (Gd.eq (.bool true)).p _ wc
                                  exact (by rw [eval_tmp]; exact e71)
                                case s5 =>
                                  intro ac wc hU
                                  have e14 : slot ac 14 = .pointer (some ⟨wi.heap.size, 0, none⟩) := (hU.keep 14 (by kernel_rfl)).trans rfl
                                  have e72 : (Gd.eq (.bool true)).p (slot ac 72) wc := hU.dep 4 72 (by kernel_rfl)
                                  refine step_val ((wanted_some rfl rfl e72).trans rfl) (v := .agg (pc r.pre)) ?_ rfl
                                  have hc := (HFF.out wc hU.below).1
                                  have e14 : slot ac 14 = .pointer (some ⟨wi.heap.size, 0, none⟩) := e14
                                  simp [execOp, eval_tmp, e14] <;> go_simp
                                case s6 =>
                                  intro ac wc hU
                                  have e73 : (Gd.eq (.agg (pc r.pre))).p (slot ac 73) wc := hU.dep 5 73 (by kernel_rfl)
                                  have e72 : (Gd.eq (.bool true)).p (slot ac 72) wc := hU.dep 4 72 (by kernel_rfl)
                                  refine step_call ((wanted_some rfl rfl e72).trans rfl) (f := 59) (args := #[(.agg (pc r.pre))]) ?_ ?_
                                  · have e73 : slot ac 73 = .agg (pc r.pre) := e73
                                    simp [execOp, resolve, invoke, eval_tmp, e73] <;> go_simp
                                  · refine (HLAST.out wc).mono ?_
                                    rintro e w' ⟨rfl, hb⟩; exact ⟨_, rfl, hb, rfl⟩
                                case s7 =>
                                  intro ac wc hU
                                  have e9 : slot ac 9 = .pointer (some ⟨wo.heap.size, 0, none⟩) := (hU.keep 9 (by kernel_rfl)).trans rfl
                                  have e72 : (Gd.eq (.bool true)).p (slot ac 72) wc := hU.dep 4 72 (by kernel_rfl)
                                  refine step_val ((wanted_some rfl rfl e72).trans rfl) (v := .pointer (some ⟨wo.heap.size, 0, none⟩)) ?_ rfl
                                  have e9 : slot ac 9 = .pointer (some ⟨wo.heap.size, 0, none⟩) := e9
                                  simp [execOp, eval_tmp, e9] <;> go_simp
                                case s8 =>
                                  intro ac wc hU
                                  have e75 : (Gd.eq (.pointer (some ⟨wo.heap.size, 0, none⟩))).p (slot ac 75) wc := hU.dep 7 75 (by kernel_rfl)
                                  have e72 : (Gd.eq (.bool true)).p (slot ac 72) wc := hU.dep 4 72 (by kernel_rfl)
                                  refine step_val ((wanted_some rfl rfl e72).trans rfl) (v := .int .i64 (u.length : Int)) ?_ rfl
                                  have hc := (HFF.out wc hU.below).2.2.2.1
                                  have e75 : slot ac 75 = .pointer (some ⟨wo.heap.size, 0, none⟩) := e75
                                  simp [execOp, eval_tmp, e75] <;> go_simp
                                case s9 =>
                                  intro ac wc hU
                                  have e74 : (Gd.eq (.int .i64 (lastN r : Nat))).p (slot ac 74) wc := hU.dep 6 74 (by kernel_rfl)
                                  have e76 : (Gd.eq (.int .i64 (u.length : Int))).p (slot ac 76) wc := hU.dep 8 76 (by kernel_rfl)
                                  have e72 : (Gd.eq (.bool true)).p (slot ac 72) wc := hU.dep 4 72 (by kernel_rfl)
                                  refine step_val ((wanted_some rfl rfl e72).trans rfl) (v := .bool true) ?_ rfl
                                  have e74 : slot ac 74 = .int .i64 (lastN r : Nat) := e74
                                  have e76 : slot ac 76 = .int .i64 (u.length : Int) := e76
                                  simp [execOp, eval_tmp, e74, e76] <;> go_simp
                                case s10 =>
                                  intro ac wc hU
                                  have e72 : (Gd.eq (.bool true)).p (slot ac 72) wc := hU.dep 4 72 (by kernel_rfl)
                                  have e77 : (Gd.eq (.bool true)).p (slot ac 77) wc := hU.dep 9 77 (by kernel_rfl)
                                  refine step_val (wanted_none rfl) (run_pick (b := true) rfl (by rw [eval_tmp]; exact e72)) ?_
                                  show (Gd.eq (.bool true)).p (if true = true then _ else _) wc
                                  rw [if_pos rfl]
                                  exact (by rw [eval_tmp]; exact e77)
                                case s11 =>
                                  intro ac wc hU
                                  have e78 : (Gd.eq (.bool true)).p (slot ac 78) wc := hU.dep 10 78 (by kernel_rfl)
                                  refine step_val (wanted_none rfl) (run_move rfl) ?_
                                  show (Gd.eq (.bool true)).p _ wc
                                  exact (by rw [eval_tmp]; exact e78)
                                case s12 =>
                                  intro ac wc hU
                                  have e14 : slot ac 14 = .pointer (some ⟨wi.heap.size, 0, none⟩) := (hU.keep 14 (by kernel_rfl)).trans rfl
                                  have e79 : (Gd.eq (.bool true)).p (slot ac 79) wc := hU.dep 11 79 (by kernel_rfl)
                                  refine step_val ((wanted_some rfl rfl e79).trans rfl) (v := .agg (pc r.pre)) ?_ rfl
                                  have hc := (HFF.out wc hU.below).1
                                  have e14 : slot ac 14 = .pointer (some ⟨wi.heap.size, 0, none⟩) := e14
                                  simp [execOp, eval_tmp, e14] <;> go_simp
                                case s13 =>
                                  intro ac wc hU
                                  have e12 : slot ac 12 = .pointer (some ⟨B12, 0, none⟩) := (hU.keep 12 (by kernel_rfl)).trans rfl
                                  have e79 : (Gd.eq (.bool true)).p (slot ac 79) wc := hU.dep 11 79 (by kernel_rfl)
                                  refine step_val ((wanted_some rfl rfl e79).trans rfl) (v := .agg (kc q)) ?_ rfl
                                  have hc := (HFF.out wc hU.below).2.2.2.2.1
                                  have e12 : slot ac 12 = .pointer (some ⟨B12, 0, none⟩) := e12
                                  simp [execOp, eval_tmp, e12] <;> go_simp
                                case s14 =>
                                  intro ac wc hU
                                  have e80 : (Gd.eq (.agg (pc r.pre))).p (slot ac 80) wc := hU.dep 12 80 (by kernel_rfl)
                                  have e81 : (Gd.eq (.agg (kc q))).p (slot ac 81) wc := hU.dep 13 81 (by kernel_rfl)
                                  have e79 : (Gd.eq (.bool true)).p (slot ac 79) wc := hU.dep 11 79 (by kernel_rfl)
                                  refine step_call ((wanted_some rfl rfl e79).trans rfl) (f := 53) (args := #[(.agg (pc r.pre)), (.agg (kc q))]) ?_ ?_
                                  · have e80 : slot ac 80 = .agg (pc r.pre) := e80
                                    have e81 : slot ac 81 = .agg (kc q) := e81
                                    simp [execOp, resolve, invoke, eval_tmp, e80, e81] <;> go_simp
                                  · refine (HFIT.out wc).mono ?_
                                    rintro e w' ⟨rfl, hb⟩; exact ⟨_, rfl, hb, rfl⟩
                                case s15 =>
                                  intro ac wc hU
                                  have e79 : (Gd.eq (.bool true)).p (slot ac 79) wc := hU.dep 11 79 (by kernel_rfl)
                                  have e82 : (Gd.eq (.bool true)).p (slot ac 82) wc := hU.dep 14 82 (by kernel_rfl)
                                  refine step_val (wanted_none rfl) (run_pick (b := true) rfl (by rw [eval_tmp]; exact e79)) ?_
                                  show (Gd.eq (.bool true)).p (if true = true then _ else _) wc
                                  rw [if_pos rfl]
                                  exact (by rw [eval_tmp]; exact e82)
                                case s16 =>
                                  intro ac wc hU
                                  have e83 : (Gd.eq (.bool true)).p (slot ac 83) wc := hU.dep 15 83 (by kernel_rfl)
                                  refine step_val (wanted_none rfl) (run_move rfl) ?_
                                  show (Gd.eq (.bool true)).p _ wc
                                  exact (by rw [eval_tmp]; exact e83)
                                case s17 =>
                                  intro ac wc hU
                                  have e14 : slot ac 14 = .pointer (some ⟨wi.heap.size, 0, none⟩) := (hU.keep 14 (by kernel_rfl)).trans rfl
                                  have e84 : (Gd.eq (.bool true)).p (slot ac 84) wc := hU.dep 16 84 (by kernel_rfl)
                                  refine step_val ((wanted_some rfl rfl e84).trans rfl) (v := .pointer (some ⟨wi.heap.size, 1, none⟩)) ?_ rfl
                                  have e14 : slot ac 14 = .pointer (some ⟨wi.heap.size, 0, none⟩) := e14
                                  simp [execOp, eval_tmp, e14] <;> go_simp
                                case s18 =>
                                  intro ac wc hU
                                  have e85 : (Gd.eq (.pointer (some ⟨wi.heap.size, 1, none⟩))).p (slot ac 85) wc := hU.dep 17 85 (by kernel_rfl)
                                  have e84 : (Gd.eq (.bool true)).p (slot ac 84) wc := hU.dep 16 84 (by kernel_rfl)
                                  refine step_val ((wanted_some rfl rfl e84).trans rfl) (v := .int .i64 r.pre.len) ?_ rfl
                                  have hc := (HFF.out wc hU.below).2.2.1
                                  have e85 : slot ac 85 = .pointer (some ⟨wi.heap.size, 1, none⟩) := e85
                                  simp [execOp, eval_tmp, e85] <;> go_simp
                                case s19 =>
                                  intro ac wc hU
                                  have e11 : slot ac 11 = .int .i64 (b : Int) := (hU.keep 11 (by kernel_rfl)).trans rfl
                                  have e84 : (Gd.eq (.bool true)).p (slot ac 84) wc := hU.dep 16 84 (by kernel_rfl)
                                  refine step_val ((wanted_some rfl rfl e84).trans rfl) (run_move rfl) ?_
                                  show (Gd.eq (.int .i64 (b : Int))).p _ wc
                                  exact (by rw [eval_tmp]; exact e11)
                                case s20 =>
                                  intro ac wc hU
                                  have e10 : slot ac 10 = .pointer (some ⟨wo.heap.size + 1, 0, none⟩) := (hU.keep 10 (by kernel_rfl)).trans rfl
                                  have e84 : (Gd.eq (.bool true)).p (slot ac 84) wc := hU.dep 16 84 (by kernel_rfl)
                                  refine step_val ((wanted_some rfl rfl e84).trans rfl) (v := .pointer (some ⟨wo.heap.size + 1, 0, none⟩)) ?_ rfl
                                  have e10 : slot ac 10 = .pointer (some ⟨wo.heap.size + 1, 0, none⟩) := e10
                                  simp [execOp, eval_tmp, e10] <;> go_simp
                                case s21 =>
                                  intro ac wc hU
                                  have e87 : (Gd.eq (.int .i64 (b : Int))).p (slot ac 87) wc := hU.dep 19 87 (by kernel_rfl)
                                  have e88 : (Gd.eq (.pointer (some ⟨wo.heap.size + 1, 0, none⟩))).p (slot ac 88) wc := hU.dep 20 88 (by kernel_rfl)
                                  have e84 : (Gd.eq (.bool true)).p (slot ac 84) wc := hU.dep 16 84 (by kernel_rfl)
                                  refine step_val ((wanted_some rfl rfl e84).trans rfl) (v := .pointer (some ⟨wo.heap.size + 1, b * 2, none⟩)) ?_ rfl
                                  have e87 : slot ac 87 = .int .i64 (b : Int) := e87
                                  have e88 : slot ac 88 = .pointer (some ⟨wo.heap.size + 1, 0, none⟩) := e88
                                  simp [execOp, eval_tmp, e87, e88] <;> go_simp
                                case s22 =>
                                  intro ac wc hU
                                  have e89 : (Gd.eq (.pointer (some ⟨wo.heap.size + 1, b * 2, none⟩))).p (slot ac 89) wc := hU.dep 21 89 (by kernel_rfl)
                                  have e84 : (Gd.eq (.bool true)).p (slot ac 84) wc := hU.dep 16 84 (by kernel_rfl)
                                  refine step_val ((wanted_some rfl rfl e84).trans rfl) (v := .pointer (some ⟨wo.heap.size + 1, b * 2, none⟩)) ?_ rfl
                                  have e89 : slot ac 89 = .pointer (some ⟨wo.heap.size + 1, b * 2, none⟩) := e89
                                  simp [execOp, eval_tmp, e89] <;> go_simp
                                case s23 =>
                                  intro ac wc hU
                                  have e90 : (Gd.eq (.pointer (some ⟨wo.heap.size + 1, b * 2, none⟩))).p (slot ac 90) wc := hU.dep 22 90 (by kernel_rfl)
                                  have e84 : (Gd.eq (.bool true)).p (slot ac 84) wc := hU.dep 16 84 (by kernel_rfl)
                                  refine step_val ((wanted_some rfl rfl e84).trans rfl) (v := .int .i64 (x.1 : Nat)) ?_ rfl
                                  have hc := (HFF.out wc hU.below).2.2.2.2.2.1
                                  have e90 : slot ac 90 = .pointer (some ⟨wo.heap.size + 1, b * 2, none⟩) := e90
                                  simp [execOp, eval_tmp, e90] <;> go_simp
                                case s24 =>
                                  intro ac wc hU
                                  have e86 : (Gd.eq (.int .i64 r.pre.len)).p (slot ac 86) wc := hU.dep 18 86 (by kernel_rfl)
                                  have e91 : (Gd.eq (.int .i64 (x.1 : Nat))).p (slot ac 91) wc := hU.dep 23 91 (by kernel_rfl)
                                  have e84 : (Gd.eq (.bool true)).p (slot ac 84) wc := hU.dep 16 84 (by kernel_rfl)
                                  refine step_val ((wanted_some rfl rfl e84).trans rfl) (v := .bool true) ?_ rfl
                                  have e86 : slot ac 86 = .int .i64 r.pre.len := e86
                                  have e91 : slot ac 91 = .int .i64 (x.1 : Nat) := e91
                                  simp [execOp, eval_tmp, e86, e91] <;> go_simp
                                case s25 =>
                                  intro ac wc hU
                                  have e84 : (Gd.eq (.bool true)).p (slot ac 84) wc := hU.dep 16 84 (by kernel_rfl)
                                  have e92 : (Gd.eq (.bool true)).p (slot ac 92) wc := hU.dep 24 92 (by kernel_rfl)
                                  refine step_val (wanted_none rfl) (run_pick (b := true) rfl (by rw [eval_tmp]; exact e84)) ?_
                                  show (Gd.eq (.bool true)).p (if true = true then _ else _) wc
                                  rw [if_pos rfl]
                                  exact (by rw [eval_tmp]; exact e92)
                              intro ac wc hU
                              have hlit := act_puts hU (by kernel_rfl) [68, 69, 70, 71, 72, 73, 74, 75, 76, 77, 78, 79, 80, 81, 82, 83, 84, 85, 86, 87, 88, 89, 90, 91, 92, 93] (by kernel_rfl)
                              have f68 : slot ac 68 = .pointer (some ⟨wi.heap.size, 0, none⟩) := hU.last 0 68 (by kernel_rfl)
                              have f69 : slot ac 69 = .int .i64 r.pre.bits := hU.last 1 69 (by kernel_rfl)
                              have f70 : slot ac 70 = .int .i64 bits := hU.last 2 70 (by kernel_rfl)
                              have f71 : slot ac 71 = .bool true := hU.last 3 71 (by kernel_rfl)
                              have f72 : slot ac 72 = .bool true := hU.last 4 72 (by kernel_rfl)
                              have f73 : slot ac 73 = .agg (pc r.pre) := hU.last 5 73 (by kernel_rfl)
                              have f74 : slot ac 74 = .int .i64 (lastN r : Nat) := hU.last 6 74 (by kernel_rfl)
                              have f75 : slot ac 75 = .pointer (some ⟨wo.heap.size, 0, none⟩) := hU.last 7 75 (by kernel_rfl)
                              have f76 : slot ac 76 = .int .i64 (u.length : Int) := hU.last 8 76 (by kernel_rfl)
                              have f77 : slot ac 77 = .bool true := hU.last 9 77 (by kernel_rfl)
                              have f78 : slot ac 78 = .bool true := hU.last 10 78 (by kernel_rfl)
                              have f79 : slot ac 79 = .bool true := hU.last 11 79 (by kernel_rfl)
                              have f80 : slot ac 80 = .agg (pc r.pre) := hU.last 12 80 (by kernel_rfl)
                              have f81 : slot ac 81 = .agg (kc q) := hU.last 13 81 (by kernel_rfl)
                              have f82 : slot ac 82 = .bool true := hU.last 14 82 (by kernel_rfl)
                              have f83 : slot ac 83 = .bool true := hU.last 15 83 (by kernel_rfl)
                              have f84 : slot ac 84 = .bool true := hU.last 16 84 (by kernel_rfl)
                              have f85 : slot ac 85 = .pointer (some ⟨wi.heap.size, 1, none⟩) := hU.last 17 85 (by kernel_rfl)
                              have f86 : slot ac 86 = .int .i64 r.pre.len := hU.last 18 86 (by kernel_rfl)
                              have f87 : slot ac 87 = .int .i64 (b : Int) := hU.last 19 87 (by kernel_rfl)
                              have f88 : slot ac 88 = .pointer (some ⟨wo.heap.size + 1, 0, none⟩) := hU.last 20 88 (by kernel_rfl)
                              have f89 : slot ac 89 = .pointer (some ⟨wo.heap.size + 1, b * 2, none⟩) := hU.last 21 89 (by kernel_rfl)
                              have f90 : slot ac 90 = .pointer (some ⟨wo.heap.size + 1, b * 2, none⟩) := hU.last 22 90 (by kernel_rfl)
                              have f91 : slot ac 91 = .int .i64 (x.1 : Nat) := hU.last 23 91 (by kernel_rfl)
                              have f92 : slot ac 92 = .bool true := hU.last 24 92 (by kernel_rfl)
                              have f93 : slot ac 93 = .bool true := hU.last 25 93 (by kernel_rfl)
                              have HWD : Hid (Below w14.heap.size w14 wc) := hU.below
                              simp only [puts, List.foldl, Act.put, List.setIfInBounds_toArray, List.set_cons_zero, List.set_cons_succ, f68, f69, f70, f71, f72, f73, f74, f75, f76, f77, f78, f79, f80, f81, f82, f83, f84, f85, f86, f87, f88, f89, f90, f91, f92, f93] at hlit
                              rw [hlit]
                              clear hlit hU f68 f69 f70 f71 f72 f73 f74 f75 f76 f77 f78 f79 f80 f81 f82 f83 f84 f85 f86 f87 f88 f89 f90 f91 f92 f93
                              generalize wc = wd at HWD ⊢
                              have hE := HFF.out wd HWD.out
                              have lc := hE.2.2.1
                              have lh := (rt_pre (HRD.out wd hE.2.2.2.2.2.2.2.2) HRR.out).2
                              have hl128 : r.pre.len ≤ 128 := HLST.out.2.1
                              have hl0 : 0 ≤ r.pre.len := HLST.out.1
                              have hwl : IntKind.i64.wrap (r.pre.len + 1) = r.pre.len + 1 := by rw [IntKind.wrap_i64]; omega
                              have hnl : (((slotR r).1 : Nat) : Int) = r.pre.len + 1 := by show ((r.pre.len.toNat + 1 : Nat) : Int) = _; omega
                              have hst : (slotStore ⟨wo.heap.size + 1, b * 2, none⟩ (.agg #[.int .i64 (r.pre.len + 1), .int .u16 (r.hop : Int)])).run Try.prog wd.drew = .ok () ((wd.drew.setCell ⟨wo.heap.size + 1, b * 2, none⟩ (.int .i64 (r.pre.len + 1))).setCell ⟨wo.heap.size + 1, b * 2 + 1, none⟩ (.int .u16 (r.hop : Int))) := by
                                have h := node_slotStore (W := wd.drew) (B := wo.heap.size + 1) hE.2.2.2.2.2.2.1 HBB.out (slotR r)
                                rw [hnl, Nat.mul_comm 2 b] at h
                                exact h
                              have HEND : Hid (((wd.setCell ⟨wo.heap.size + 1, b * 2, none⟩ (.int .i64 (r.pre.len + 1))).setCell ⟨wo.heap.size + 1, b * 2 + 1, none⟩ (.int .u16 (r.hop : Int))).drew.heap[wo.heap.size + 1]? = some (.cells (nc ((ndU T u b).setSl b (slotR r))) 104 (0, 0)) ∧
                                  ((wd.setCell ⟨wo.heap.size + 1, b * 2, none⟩ (.int .i64 (r.pre.len + 1))).setCell ⟨wo.heap.size + 1, b * 2 + 1, none⟩ (.int .u16 (r.hop : Int))).drew.heap[B12]? = some (.cells (kc q) 24 (0, 0)) ∧
                                  Below w9.heap.size w9 ((wd.setCell ⟨wo.heap.size + 1, b * 2, none⟩ (.int .i64 (r.pre.len + 1))).setCell ⟨wo.heap.size + 1, b * 2 + 1, none⟩ (.int .u16 (r.hop : Int))).drew) := by
                                refine ⟨?_, ?_, ((hE.2.2.2.2.2.2.2.2.setCell (by show _ ≤ wo.heap.size + 1; have := HS9.out; omega) _).setCell (by show _ ≤ wo.heap.size + 1; have := HS9.out; omega) _).drew⟩
                                · have h := node_setSl (W := wd) (B := wo.heap.size + 1) hE.2.2.2.2.2.2.1 HBB.out (slotR r)
                                  rw [hnl, Nat.mul_comm 2 b, setSl_setSl] at h
                                  exact h
                                · rw [heap_drew, heap_setCell_other _ _ _ _ (by show B12 ≠ wo.heap.size + 1; have := HLT12.out; omega), heap_setCell_other _ _ _ _ (by show B12 ≠ wo.heap.size + 1; have := HLT12.out; omega)]
                                  exact hE.2.2.2.2.2.2.2.1
                              clear hE hnl HWD C4b c4
                              go_wp2
                              go_region
                              go_wp2
                              go_roundw
                              case rel => exact ⟨i + 1, by omega, by go_num, by rw [HNX.out, HD.out]; exact HEND.out.1, HEND.out.2.1, HEND.out.2.2⟩
                              case measure => simp [intOf]; omega
                            · have C4b : decide ((x.1 : Int) ≤ r.pre.len) = false := decide_eq_false c4
                              have HD : Hid (slotD bits q u.length x r = x) := by show _ = _; unfold slotD; rw [if_neg (fun h => c4 h.2.2.2)]
                              clear c3
                              refine region_slots (by kernel_rfl) (by kernel_rfl) (Gof [Gd.eq (.pointer (some ⟨wi.heap.size, 0, none⟩)), Gd.eq (.int .i64 r.pre.bits), Gd.eq (.int .i64 bits), Gd.eq (.bool true), Gd.eq (.bool true), Gd.eq (.agg (pc r.pre)), Gd.eq (.int .i64 (lastN r : Nat)), Gd.eq (.pointer (some ⟨wo.heap.size, 0, none⟩)), Gd.eq (.int .i64 (u.length : Int)), Gd.eq (.bool true), Gd.eq (.bool true), Gd.eq (.bool true), Gd.eq (.agg (pc r.pre)), Gd.eq (.agg (kc q)), Gd.eq (.bool true), Gd.eq (.bool true), Gd.eq (.bool true), Gd.eq (.pointer (some ⟨wi.heap.size, 1, none⟩)), Gd.eq (.int .i64 r.pre.len), Gd.eq (.int .i64 (b : Int)), Gd.eq (.pointer (some ⟨wo.heap.size + 1, 0, none⟩)), Gd.eq (.pointer (some ⟨wo.heap.size + 1, b * 2, none⟩)), Gd.eq (.pointer (some ⟨wo.heap.size + 1, b * 2, none⟩)), Gd.eq (.int .i64 (x.1 : Nat)), Gd.eq (.bool false), Gd.eq (.bool false)]) (Gof_st _) (steps_all ?_) ?_
                              · dsimp only
                                refine StepsFrom.cons ?s0 (StepsFrom.cons ?s1 (StepsFrom.cons ?s2 (StepsFrom.cons ?s3 (StepsFrom.cons ?s4 (StepsFrom.cons ?s5 (StepsFrom.cons ?s6 (StepsFrom.cons ?s7 (StepsFrom.cons ?s8 (StepsFrom.cons ?s9 (StepsFrom.cons ?s10 (StepsFrom.cons ?s11 (StepsFrom.cons ?s12 (StepsFrom.cons ?s13 (StepsFrom.cons ?s14 (StepsFrom.cons ?s15 (StepsFrom.cons ?s16 (StepsFrom.cons ?s17 (StepsFrom.cons ?s18 (StepsFrom.cons ?s19 (StepsFrom.cons ?s20 (StepsFrom.cons ?s21 (StepsFrom.cons ?s22 (StepsFrom.cons ?s23 (StepsFrom.cons ?s24 (StepsFrom.cons ?s25 StepsFrom.nil)))))))))))))))))))))))))
                                case s0 =>
                                  intro ac wc hU
                                  have e14 : slot ac 14 = .pointer (some ⟨wi.heap.size, 0, none⟩) := (hU.keep 14 (by kernel_rfl)).trans rfl
                                  refine step_val (wanted_none rfl) (v := .pointer (some ⟨wi.heap.size, 0, none⟩)) ?_ rfl
                                  have e14 : slot ac 14 = .pointer (some ⟨wi.heap.size, 0, none⟩) := e14
                                  simp [execOp, eval_tmp, e14] <;> go_simp
                                case s1 =>
                                  intro ac wc hU
                                  have e68 : (Gd.eq (.pointer (some ⟨wi.heap.size, 0, none⟩))).p (slot ac 68) wc := hU.dep 0 68 (by kernel_rfl)
                                  refine step_val (wanted_none rfl) (v := .int .i64 r.pre.bits) ?_ rfl
                                  have hc := (HFF.out wc hU.below).2.1
                                  have e68 : slot ac 68 = .pointer (some ⟨wi.heap.size, 0, none⟩) := e68
                                  simp [execOp, eval_tmp, e68] <;> go_simp
                                case s2 =>
                                  intro ac wc hU
                                  have e1 : slot ac 1 = .int .i64 bits := (hU.keep 1 (by kernel_rfl)).trans rfl
                                  refine step_val (wanted_none rfl) (run_move rfl) ?_
                                  show (Gd.eq (.int .i64 bits)).p _ wc
                                  exact (by rw [eval_tmp]; exact e1)
                                case s3 =>
                                  intro ac wc hU
                                  have e69 : (Gd.eq (.int .i64 r.pre.bits)).p (slot ac 69) wc := hU.dep 1 69 (by kernel_rfl)
                                  have e70 : (Gd.eq (.int .i64 bits)).p (slot ac 70) wc := hU.dep 2 70 (by kernel_rfl)
                                  refine step_val (wanted_none rfl) (v := .bool true) ?_ rfl
                                  have e69 : slot ac 69 = .int .i64 r.pre.bits := e69
                                  have e70 : slot ac 70 = .int .i64 bits := e70
                                  simp [execOp, eval_tmp, e69, e70] <;> go_simp
                                case s4 =>
                                  intro ac wc hU
                                  have e71 : (Gd.eq (.bool true)).p (slot ac 71) wc := hU.dep 3 71 (by kernel_rfl)
                                  refine step_val (wanted_none rfl) (run_move rfl) ?_
                                  show (Gd.eq (.bool true)).p _ wc
                                  exact (by rw [eval_tmp]; exact e71)
                                case s5 =>
                                  intro ac wc hU
                                  have e14 : slot ac 14 = .pointer (some ⟨wi.heap.size, 0, none⟩) := (hU.keep 14 (by kernel_rfl)).trans rfl
                                  have e72 : (Gd.eq (.bool true)).p (slot ac 72) wc := hU.dep 4 72 (by kernel_rfl)
                                  refine step_val ((wanted_some rfl rfl e72).trans rfl) (v := .agg (pc r.pre)) ?_ rfl
                                  have hc := (HFF.out wc hU.below).1
                                  have e14 : slot ac 14 = .pointer (some ⟨wi.heap.size, 0, none⟩) := e14
                                  simp [execOp, eval_tmp, e14] <;> go_simp
                                case s6 =>
                                  intro ac wc hU
                                  have e73 : (Gd.eq (.agg (pc r.pre))).p (slot ac 73) wc := hU.dep 5 73 (by kernel_rfl)
                                  have e72 : (Gd.eq (.bool true)).p (slot ac 72) wc := hU.dep 4 72 (by kernel_rfl)
                                  refine step_call ((wanted_some rfl rfl e72).trans rfl) (f := 59) (args := #[(.agg (pc r.pre))]) ?_ ?_
                                  · have e73 : slot ac 73 = .agg (pc r.pre) := e73
                                    simp [execOp, resolve, invoke, eval_tmp, e73] <;> go_simp
                                  · refine (HLAST.out wc).mono ?_
                                    rintro e w' ⟨rfl, hb⟩; exact ⟨_, rfl, hb, rfl⟩
                                case s7 =>
                                  intro ac wc hU
                                  have e9 : slot ac 9 = .pointer (some ⟨wo.heap.size, 0, none⟩) := (hU.keep 9 (by kernel_rfl)).trans rfl
                                  have e72 : (Gd.eq (.bool true)).p (slot ac 72) wc := hU.dep 4 72 (by kernel_rfl)
                                  refine step_val ((wanted_some rfl rfl e72).trans rfl) (v := .pointer (some ⟨wo.heap.size, 0, none⟩)) ?_ rfl
                                  have e9 : slot ac 9 = .pointer (some ⟨wo.heap.size, 0, none⟩) := e9
                                  simp [execOp, eval_tmp, e9] <;> go_simp
                                case s8 =>
                                  intro ac wc hU
                                  have e75 : (Gd.eq (.pointer (some ⟨wo.heap.size, 0, none⟩))).p (slot ac 75) wc := hU.dep 7 75 (by kernel_rfl)
                                  have e72 : (Gd.eq (.bool true)).p (slot ac 72) wc := hU.dep 4 72 (by kernel_rfl)
                                  refine step_val ((wanted_some rfl rfl e72).trans rfl) (v := .int .i64 (u.length : Int)) ?_ rfl
                                  have hc := (HFF.out wc hU.below).2.2.2.1
                                  have e75 : slot ac 75 = .pointer (some ⟨wo.heap.size, 0, none⟩) := e75
                                  simp [execOp, eval_tmp, e75] <;> go_simp
                                case s9 =>
                                  intro ac wc hU
                                  have e74 : (Gd.eq (.int .i64 (lastN r : Nat))).p (slot ac 74) wc := hU.dep 6 74 (by kernel_rfl)
                                  have e76 : (Gd.eq (.int .i64 (u.length : Int))).p (slot ac 76) wc := hU.dep 8 76 (by kernel_rfl)
                                  have e72 : (Gd.eq (.bool true)).p (slot ac 72) wc := hU.dep 4 72 (by kernel_rfl)
                                  refine step_val ((wanted_some rfl rfl e72).trans rfl) (v := .bool true) ?_ rfl
                                  have e74 : slot ac 74 = .int .i64 (lastN r : Nat) := e74
                                  have e76 : slot ac 76 = .int .i64 (u.length : Int) := e76
                                  simp [execOp, eval_tmp, e74, e76] <;> go_simp
                                case s10 =>
                                  intro ac wc hU
                                  have e72 : (Gd.eq (.bool true)).p (slot ac 72) wc := hU.dep 4 72 (by kernel_rfl)
                                  have e77 : (Gd.eq (.bool true)).p (slot ac 77) wc := hU.dep 9 77 (by kernel_rfl)
                                  refine step_val (wanted_none rfl) (run_pick (b := true) rfl (by rw [eval_tmp]; exact e72)) ?_
                                  show (Gd.eq (.bool true)).p (if true = true then _ else _) wc
                                  rw [if_pos rfl]
                                  exact (by rw [eval_tmp]; exact e77)
                                case s11 =>
                                  intro ac wc hU
                                  have e78 : (Gd.eq (.bool true)).p (slot ac 78) wc := hU.dep 10 78 (by kernel_rfl)
                                  refine step_val (wanted_none rfl) (run_move rfl) ?_
                                  show (Gd.eq (.bool true)).p _ wc
                                  exact (by rw [eval_tmp]; exact e78)
                                case s12 =>
                                  intro ac wc hU
                                  have e14 : slot ac 14 = .pointer (some ⟨wi.heap.size, 0, none⟩) := (hU.keep 14 (by kernel_rfl)).trans rfl
                                  have e79 : (Gd.eq (.bool true)).p (slot ac 79) wc := hU.dep 11 79 (by kernel_rfl)
                                  refine step_val ((wanted_some rfl rfl e79).trans rfl) (v := .agg (pc r.pre)) ?_ rfl
                                  have hc := (HFF.out wc hU.below).1
                                  have e14 : slot ac 14 = .pointer (some ⟨wi.heap.size, 0, none⟩) := e14
                                  simp [execOp, eval_tmp, e14] <;> go_simp
                                case s13 =>
                                  intro ac wc hU
                                  have e12 : slot ac 12 = .pointer (some ⟨B12, 0, none⟩) := (hU.keep 12 (by kernel_rfl)).trans rfl
                                  have e79 : (Gd.eq (.bool true)).p (slot ac 79) wc := hU.dep 11 79 (by kernel_rfl)
                                  refine step_val ((wanted_some rfl rfl e79).trans rfl) (v := .agg (kc q)) ?_ rfl
                                  have hc := (HFF.out wc hU.below).2.2.2.2.1
                                  have e12 : slot ac 12 = .pointer (some ⟨B12, 0, none⟩) := e12
                                  simp [execOp, eval_tmp, e12] <;> go_simp
                                case s14 =>
                                  intro ac wc hU
                                  have e80 : (Gd.eq (.agg (pc r.pre))).p (slot ac 80) wc := hU.dep 12 80 (by kernel_rfl)
                                  have e81 : (Gd.eq (.agg (kc q))).p (slot ac 81) wc := hU.dep 13 81 (by kernel_rfl)
                                  have e79 : (Gd.eq (.bool true)).p (slot ac 79) wc := hU.dep 11 79 (by kernel_rfl)
                                  refine step_call ((wanted_some rfl rfl e79).trans rfl) (f := 53) (args := #[(.agg (pc r.pre)), (.agg (kc q))]) ?_ ?_
                                  · have e80 : slot ac 80 = .agg (pc r.pre) := e80
                                    have e81 : slot ac 81 = .agg (kc q) := e81
                                    simp [execOp, resolve, invoke, eval_tmp, e80, e81] <;> go_simp
                                  · refine (HFIT.out wc).mono ?_
                                    rintro e w' ⟨rfl, hb⟩; exact ⟨_, rfl, hb, rfl⟩
                                case s15 =>
                                  intro ac wc hU
                                  have e79 : (Gd.eq (.bool true)).p (slot ac 79) wc := hU.dep 11 79 (by kernel_rfl)
                                  have e82 : (Gd.eq (.bool true)).p (slot ac 82) wc := hU.dep 14 82 (by kernel_rfl)
                                  refine step_val (wanted_none rfl) (run_pick (b := true) rfl (by rw [eval_tmp]; exact e79)) ?_
                                  show (Gd.eq (.bool true)).p (if true = true then _ else _) wc
                                  rw [if_pos rfl]
                                  exact (by rw [eval_tmp]; exact e82)
                                case s16 =>
                                  intro ac wc hU
                                  have e83 : (Gd.eq (.bool true)).p (slot ac 83) wc := hU.dep 15 83 (by kernel_rfl)
                                  refine step_val (wanted_none rfl) (run_move rfl) ?_
                                  show (Gd.eq (.bool true)).p _ wc
                                  exact (by rw [eval_tmp]; exact e83)
                                case s17 =>
                                  intro ac wc hU
                                  have e14 : slot ac 14 = .pointer (some ⟨wi.heap.size, 0, none⟩) := (hU.keep 14 (by kernel_rfl)).trans rfl
                                  have e84 : (Gd.eq (.bool true)).p (slot ac 84) wc := hU.dep 16 84 (by kernel_rfl)
                                  refine step_val ((wanted_some rfl rfl e84).trans rfl) (v := .pointer (some ⟨wi.heap.size, 1, none⟩)) ?_ rfl
                                  have e14 : slot ac 14 = .pointer (some ⟨wi.heap.size, 0, none⟩) := e14
                                  simp [execOp, eval_tmp, e14] <;> go_simp
                                case s18 =>
                                  intro ac wc hU
                                  have e85 : (Gd.eq (.pointer (some ⟨wi.heap.size, 1, none⟩))).p (slot ac 85) wc := hU.dep 17 85 (by kernel_rfl)
                                  have e84 : (Gd.eq (.bool true)).p (slot ac 84) wc := hU.dep 16 84 (by kernel_rfl)
                                  refine step_val ((wanted_some rfl rfl e84).trans rfl) (v := .int .i64 r.pre.len) ?_ rfl
                                  have hc := (HFF.out wc hU.below).2.2.1
                                  have e85 : slot ac 85 = .pointer (some ⟨wi.heap.size, 1, none⟩) := e85
                                  simp [execOp, eval_tmp, e85] <;> go_simp
                                case s19 =>
                                  intro ac wc hU
                                  have e11 : slot ac 11 = .int .i64 (b : Int) := (hU.keep 11 (by kernel_rfl)).trans rfl
                                  have e84 : (Gd.eq (.bool true)).p (slot ac 84) wc := hU.dep 16 84 (by kernel_rfl)
                                  refine step_val ((wanted_some rfl rfl e84).trans rfl) (run_move rfl) ?_
                                  show (Gd.eq (.int .i64 (b : Int))).p _ wc
                                  exact (by rw [eval_tmp]; exact e11)
                                case s20 =>
                                  intro ac wc hU
                                  have e10 : slot ac 10 = .pointer (some ⟨wo.heap.size + 1, 0, none⟩) := (hU.keep 10 (by kernel_rfl)).trans rfl
                                  have e84 : (Gd.eq (.bool true)).p (slot ac 84) wc := hU.dep 16 84 (by kernel_rfl)
                                  refine step_val ((wanted_some rfl rfl e84).trans rfl) (v := .pointer (some ⟨wo.heap.size + 1, 0, none⟩)) ?_ rfl
                                  have e10 : slot ac 10 = .pointer (some ⟨wo.heap.size + 1, 0, none⟩) := e10
                                  simp [execOp, eval_tmp, e10] <;> go_simp
                                case s21 =>
                                  intro ac wc hU
                                  have e87 : (Gd.eq (.int .i64 (b : Int))).p (slot ac 87) wc := hU.dep 19 87 (by kernel_rfl)
                                  have e88 : (Gd.eq (.pointer (some ⟨wo.heap.size + 1, 0, none⟩))).p (slot ac 88) wc := hU.dep 20 88 (by kernel_rfl)
                                  have e84 : (Gd.eq (.bool true)).p (slot ac 84) wc := hU.dep 16 84 (by kernel_rfl)
                                  refine step_val ((wanted_some rfl rfl e84).trans rfl) (v := .pointer (some ⟨wo.heap.size + 1, b * 2, none⟩)) ?_ rfl
                                  have e87 : slot ac 87 = .int .i64 (b : Int) := e87
                                  have e88 : slot ac 88 = .pointer (some ⟨wo.heap.size + 1, 0, none⟩) := e88
                                  simp [execOp, eval_tmp, e87, e88] <;> go_simp
                                case s22 =>
                                  intro ac wc hU
                                  have e89 : (Gd.eq (.pointer (some ⟨wo.heap.size + 1, b * 2, none⟩))).p (slot ac 89) wc := hU.dep 21 89 (by kernel_rfl)
                                  have e84 : (Gd.eq (.bool true)).p (slot ac 84) wc := hU.dep 16 84 (by kernel_rfl)
                                  refine step_val ((wanted_some rfl rfl e84).trans rfl) (v := .pointer (some ⟨wo.heap.size + 1, b * 2, none⟩)) ?_ rfl
                                  have e89 : slot ac 89 = .pointer (some ⟨wo.heap.size + 1, b * 2, none⟩) := e89
                                  simp [execOp, eval_tmp, e89] <;> go_simp
                                case s23 =>
                                  intro ac wc hU
                                  have e90 : (Gd.eq (.pointer (some ⟨wo.heap.size + 1, b * 2, none⟩))).p (slot ac 90) wc := hU.dep 22 90 (by kernel_rfl)
                                  have e84 : (Gd.eq (.bool true)).p (slot ac 84) wc := hU.dep 16 84 (by kernel_rfl)
                                  refine step_val ((wanted_some rfl rfl e84).trans rfl) (v := .int .i64 (x.1 : Nat)) ?_ rfl
                                  have hc := (HFF.out wc hU.below).2.2.2.2.2.1
                                  have e90 : slot ac 90 = .pointer (some ⟨wo.heap.size + 1, b * 2, none⟩) := e90
                                  simp [execOp, eval_tmp, e90] <;> go_simp
                                case s24 =>
                                  intro ac wc hU
                                  have e86 : (Gd.eq (.int .i64 r.pre.len)).p (slot ac 86) wc := hU.dep 18 86 (by kernel_rfl)
                                  have e91 : (Gd.eq (.int .i64 (x.1 : Nat))).p (slot ac 91) wc := hU.dep 23 91 (by kernel_rfl)
                                  have e84 : (Gd.eq (.bool true)).p (slot ac 84) wc := hU.dep 16 84 (by kernel_rfl)
                                  refine step_val ((wanted_some rfl rfl e84).trans rfl) (v := .bool false) ?_ rfl
                                  have e86 : slot ac 86 = .int .i64 r.pre.len := e86
                                  have e91 : slot ac 91 = .int .i64 (x.1 : Nat) := e91
                                  simp [execOp, eval_tmp, e86, e91] <;> go_simp
                                case s25 =>
                                  intro ac wc hU
                                  have e84 : (Gd.eq (.bool true)).p (slot ac 84) wc := hU.dep 16 84 (by kernel_rfl)
                                  have e92 : (Gd.eq (.bool false)).p (slot ac 92) wc := hU.dep 24 92 (by kernel_rfl)
                                  refine step_val (wanted_none rfl) (run_pick (b := true) rfl (by rw [eval_tmp]; exact e84)) ?_
                                  show (Gd.eq (.bool false)).p (if true = true then _ else _) wc
                                  rw [if_pos rfl]
                                  exact (by rw [eval_tmp]; exact e92)
                              intro ac wc hU
                              have hlit := act_puts hU (by kernel_rfl) [68, 69, 70, 71, 72, 73, 74, 75, 76, 77, 78, 79, 80, 81, 82, 83, 84, 85, 86, 87, 88, 89, 90, 91, 92, 93] (by kernel_rfl)
                              have f68 : slot ac 68 = .pointer (some ⟨wi.heap.size, 0, none⟩) := hU.last 0 68 (by kernel_rfl)
                              have f69 : slot ac 69 = .int .i64 r.pre.bits := hU.last 1 69 (by kernel_rfl)
                              have f70 : slot ac 70 = .int .i64 bits := hU.last 2 70 (by kernel_rfl)
                              have f71 : slot ac 71 = .bool true := hU.last 3 71 (by kernel_rfl)
                              have f72 : slot ac 72 = .bool true := hU.last 4 72 (by kernel_rfl)
                              have f73 : slot ac 73 = .agg (pc r.pre) := hU.last 5 73 (by kernel_rfl)
                              have f74 : slot ac 74 = .int .i64 (lastN r : Nat) := hU.last 6 74 (by kernel_rfl)
                              have f75 : slot ac 75 = .pointer (some ⟨wo.heap.size, 0, none⟩) := hU.last 7 75 (by kernel_rfl)
                              have f76 : slot ac 76 = .int .i64 (u.length : Int) := hU.last 8 76 (by kernel_rfl)
                              have f77 : slot ac 77 = .bool true := hU.last 9 77 (by kernel_rfl)
                              have f78 : slot ac 78 = .bool true := hU.last 10 78 (by kernel_rfl)
                              have f79 : slot ac 79 = .bool true := hU.last 11 79 (by kernel_rfl)
                              have f80 : slot ac 80 = .agg (pc r.pre) := hU.last 12 80 (by kernel_rfl)
                              have f81 : slot ac 81 = .agg (kc q) := hU.last 13 81 (by kernel_rfl)
                              have f82 : slot ac 82 = .bool true := hU.last 14 82 (by kernel_rfl)
                              have f83 : slot ac 83 = .bool true := hU.last 15 83 (by kernel_rfl)
                              have f84 : slot ac 84 = .bool true := hU.last 16 84 (by kernel_rfl)
                              have f85 : slot ac 85 = .pointer (some ⟨wi.heap.size, 1, none⟩) := hU.last 17 85 (by kernel_rfl)
                              have f86 : slot ac 86 = .int .i64 r.pre.len := hU.last 18 86 (by kernel_rfl)
                              have f87 : slot ac 87 = .int .i64 (b : Int) := hU.last 19 87 (by kernel_rfl)
                              have f88 : slot ac 88 = .pointer (some ⟨wo.heap.size + 1, 0, none⟩) := hU.last 20 88 (by kernel_rfl)
                              have f89 : slot ac 89 = .pointer (some ⟨wo.heap.size + 1, b * 2, none⟩) := hU.last 21 89 (by kernel_rfl)
                              have f90 : slot ac 90 = .pointer (some ⟨wo.heap.size + 1, b * 2, none⟩) := hU.last 22 90 (by kernel_rfl)
                              have f91 : slot ac 91 = .int .i64 (x.1 : Nat) := hU.last 23 91 (by kernel_rfl)
                              have f92 : slot ac 92 = .bool false := hU.last 24 92 (by kernel_rfl)
                              have f93 : slot ac 93 = .bool false := hU.last 25 93 (by kernel_rfl)
                              have HWD : Hid (Below w14.heap.size w14 wc) := hU.below
                              simp only [puts, List.foldl, Act.put, List.setIfInBounds_toArray, List.set_cons_zero, List.set_cons_succ, f68, f69, f70, f71, f72, f73, f74, f75, f76, f77, f78, f79, f80, f81, f82, f83, f84, f85, f86, f87, f88, f89, f90, f91, f92, f93] at hlit
                              rw [hlit]
                              clear hlit hU f68 f69 f70 f71 f72 f73 f74 f75 f76 f77 f78 f79 f80 f81 f82 f83 f84 f85 f86 f87 f88 f89 f90 f91 f92 f93
                              generalize wc = wd at HWD ⊢
                              have HE := Lib.hid (HFF.out wd HWD.out)
                              clear HWD
                              go_wp2
                              go_roundw
                              case rel => exact ⟨i + 1, by omega, by go_num, by rw [HNX.out, HD.out]; exact HE.out.2.2.2.2.2.2.1, HE.out.2.2.2.2.2.2.2.1, HE.out.2.2.2.2.2.2.2.2⟩
                              case measure => simp [intOf]; omega
                        · have C2b : ((lastN r : Int) == (u.length : Int)) = false := by rw [beq_eq_false_iff_ne]; omega
                          have C2n : (lastN r == u.length) = false := by rw [beq_eq_false_iff_ne]; exact c2
                          have HD : Hid (slotD bits q u.length x r = x) := by show _ = _; unfold slotD; rw [if_neg (fun h => c2 h.2.1)]
                          clear c2
                          refine region_slots (by kernel_rfl) (by kernel_rfl) (Gof [Gd.eq (.pointer (some ⟨wi.heap.size, 0, none⟩)), Gd.eq (.int .i64 r.pre.bits), Gd.eq (.int .i64 bits), Gd.eq (.bool true), Gd.eq (.bool true), Gd.eq (.agg (pc r.pre)), Gd.eq (.int .i64 (lastN r : Nat)), Gd.eq (.pointer (some ⟨wo.heap.size, 0, none⟩)), Gd.eq (.int .i64 (u.length : Int)), Gd.eq (.bool false), Gd.eq (.bool false), Gd.eq (.bool false), Gd.any, Gd.any, Gd.any, Gd.eq (Value.bool false), Gd.eq (Value.bool false), Gd.any, Gd.any, Gd.any, Gd.any, Gd.any, Gd.any, Gd.any, Gd.any, Gd.eq (Value.bool false)]) (Gof_st _) (steps_all ?_) ?_
                          · dsimp only
                            refine StepsFrom.cons ?s0 (StepsFrom.cons ?s1 (StepsFrom.cons ?s2 (StepsFrom.cons ?s3 (StepsFrom.cons ?s4 (StepsFrom.cons ?s5 (StepsFrom.cons ?s6 (StepsFrom.cons ?s7 (StepsFrom.cons ?s8 (StepsFrom.cons ?s9 (StepsFrom.cons ?s10 (StepsFrom.cons ?s11 (StepsFrom.cons ?s12 (StepsFrom.cons ?s13 (StepsFrom.cons ?s14 (StepsFrom.cons ?s15 (StepsFrom.cons ?s16 (StepsFrom.cons ?s17 (StepsFrom.cons ?s18 (StepsFrom.cons ?s19 (StepsFrom.cons ?s20 (StepsFrom.cons ?s21 (StepsFrom.cons ?s22 (StepsFrom.cons ?s23 (StepsFrom.cons ?s24 (StepsFrom.cons ?s25 StepsFrom.nil)))))))))))))))))))))))))
                            case s0 =>
                              intro ac wc hU
                              have e14 : slot ac 14 = .pointer (some ⟨wi.heap.size, 0, none⟩) := (hU.keep 14 (by kernel_rfl)).trans rfl
                              refine step_val (wanted_none rfl) (v := .pointer (some ⟨wi.heap.size, 0, none⟩)) ?_ rfl
                              have e14 : slot ac 14 = .pointer (some ⟨wi.heap.size, 0, none⟩) := e14
                              simp [execOp, eval_tmp, e14] <;> go_simp
                            case s1 =>
                              intro ac wc hU
                              have e68 : (Gd.eq (.pointer (some ⟨wi.heap.size, 0, none⟩))).p (slot ac 68) wc := hU.dep 0 68 (by kernel_rfl)
                              refine step_val (wanted_none rfl) (v := .int .i64 r.pre.bits) ?_ rfl
                              have hc := (HFF.out wc hU.below).2.1
                              have e68 : slot ac 68 = .pointer (some ⟨wi.heap.size, 0, none⟩) := e68
                              simp [execOp, eval_tmp, e68] <;> go_simp
                            case s2 =>
                              intro ac wc hU
                              have e1 : slot ac 1 = .int .i64 bits := (hU.keep 1 (by kernel_rfl)).trans rfl
                              refine step_val (wanted_none rfl) (run_move rfl) ?_
                              show (Gd.eq (.int .i64 bits)).p _ wc
                              exact (by rw [eval_tmp]; exact e1)
                            case s3 =>
                              intro ac wc hU
                              have e69 : (Gd.eq (.int .i64 r.pre.bits)).p (slot ac 69) wc := hU.dep 1 69 (by kernel_rfl)
                              have e70 : (Gd.eq (.int .i64 bits)).p (slot ac 70) wc := hU.dep 2 70 (by kernel_rfl)
                              refine step_val (wanted_none rfl) (v := .bool true) ?_ rfl
                              have e69 : slot ac 69 = .int .i64 r.pre.bits := e69
                              have e70 : slot ac 70 = .int .i64 bits := e70
                              simp [execOp, eval_tmp, e69, e70] <;> go_simp
                            case s4 =>
                              intro ac wc hU
                              have e71 : (Gd.eq (.bool true)).p (slot ac 71) wc := hU.dep 3 71 (by kernel_rfl)
                              refine step_val (wanted_none rfl) (run_move rfl) ?_
                              show (Gd.eq (.bool true)).p _ wc
                              exact (by rw [eval_tmp]; exact e71)
                            case s5 =>
                              intro ac wc hU
                              have e14 : slot ac 14 = .pointer (some ⟨wi.heap.size, 0, none⟩) := (hU.keep 14 (by kernel_rfl)).trans rfl
                              have e72 : (Gd.eq (.bool true)).p (slot ac 72) wc := hU.dep 4 72 (by kernel_rfl)
                              refine step_val ((wanted_some rfl rfl e72).trans rfl) (v := .agg (pc r.pre)) ?_ rfl
                              have hc := (HFF.out wc hU.below).1
                              have e14 : slot ac 14 = .pointer (some ⟨wi.heap.size, 0, none⟩) := e14
                              simp [execOp, eval_tmp, e14] <;> go_simp
                            case s6 =>
                              intro ac wc hU
                              have e73 : (Gd.eq (.agg (pc r.pre))).p (slot ac 73) wc := hU.dep 5 73 (by kernel_rfl)
                              have e72 : (Gd.eq (.bool true)).p (slot ac 72) wc := hU.dep 4 72 (by kernel_rfl)
                              refine step_call ((wanted_some rfl rfl e72).trans rfl) (f := 59) (args := #[(.agg (pc r.pre))]) ?_ ?_
                              · have e73 : slot ac 73 = .agg (pc r.pre) := e73
                                simp [execOp, resolve, invoke, eval_tmp, e73] <;> go_simp
                              · refine (HLAST.out wc).mono ?_
                                rintro e w' ⟨rfl, hb⟩; exact ⟨_, rfl, hb, rfl⟩
                            case s7 =>
                              intro ac wc hU
                              have e9 : slot ac 9 = .pointer (some ⟨wo.heap.size, 0, none⟩) := (hU.keep 9 (by kernel_rfl)).trans rfl
                              have e72 : (Gd.eq (.bool true)).p (slot ac 72) wc := hU.dep 4 72 (by kernel_rfl)
                              refine step_val ((wanted_some rfl rfl e72).trans rfl) (v := .pointer (some ⟨wo.heap.size, 0, none⟩)) ?_ rfl
                              have e9 : slot ac 9 = .pointer (some ⟨wo.heap.size, 0, none⟩) := e9
                              simp [execOp, eval_tmp, e9] <;> go_simp
                            case s8 =>
                              intro ac wc hU
                              have e75 : (Gd.eq (.pointer (some ⟨wo.heap.size, 0, none⟩))).p (slot ac 75) wc := hU.dep 7 75 (by kernel_rfl)
                              have e72 : (Gd.eq (.bool true)).p (slot ac 72) wc := hU.dep 4 72 (by kernel_rfl)
                              refine step_val ((wanted_some rfl rfl e72).trans rfl) (v := .int .i64 (u.length : Int)) ?_ rfl
                              have hc := (HFF.out wc hU.below).2.2.2.1
                              have e75 : slot ac 75 = .pointer (some ⟨wo.heap.size, 0, none⟩) := e75
                              simp [execOp, eval_tmp, e75] <;> go_simp
                            case s9 =>
                              intro ac wc hU
                              have e74 : (Gd.eq (.int .i64 (lastN r : Nat))).p (slot ac 74) wc := hU.dep 6 74 (by kernel_rfl)
                              have e76 : (Gd.eq (.int .i64 (u.length : Int))).p (slot ac 76) wc := hU.dep 8 76 (by kernel_rfl)
                              have e72 : (Gd.eq (.bool true)).p (slot ac 72) wc := hU.dep 4 72 (by kernel_rfl)
                              refine step_val ((wanted_some rfl rfl e72).trans rfl) (v := .bool false) ?_ rfl
                              have e74 : slot ac 74 = .int .i64 (lastN r : Nat) := e74
                              have e76 : slot ac 76 = .int .i64 (u.length : Int) := e76
                              simp [execOp, eval_tmp, e74, e76] <;> go_simp
                            case s10 =>
                              intro ac wc hU
                              have e72 : (Gd.eq (.bool true)).p (slot ac 72) wc := hU.dep 4 72 (by kernel_rfl)
                              have e77 : (Gd.eq (.bool false)).p (slot ac 77) wc := hU.dep 9 77 (by kernel_rfl)
                              refine step_val (wanted_none rfl) (run_pick (b := true) rfl (by rw [eval_tmp]; exact e72)) ?_
                              show (Gd.eq (.bool false)).p (if true = true then _ else _) wc
                              rw [if_pos rfl]
                              exact (by rw [eval_tmp]; exact e77)
                            case s11 =>
                              intro ac wc hU
                              have e78 : (Gd.eq (.bool false)).p (slot ac 78) wc := hU.dep 10 78 (by kernel_rfl)
                              refine step_val (wanted_none rfl) (run_move rfl) ?_
                              show (Gd.eq (.bool false)).p _ wc
                              exact (by rw [eval_tmp]; exact e78)
                            case s12 =>
                              intro ac wc hU
                              have e14 : slot ac 14 = .pointer (some ⟨wi.heap.size, 0, none⟩) := (hU.keep 14 (by kernel_rfl)).trans rfl
                              have e79 : (Gd.eq (.bool false)).p (slot ac 79) wc := hU.dep 11 79 (by kernel_rfl)
                              exact step_skip ((wanted_some rfl rfl e79).trans rfl) trivial
                            case s13 =>
                              intro ac wc hU
                              have e12 : slot ac 12 = .pointer (some ⟨B12, 0, none⟩) := (hU.keep 12 (by kernel_rfl)).trans rfl
                              have e79 : (Gd.eq (.bool false)).p (slot ac 79) wc := hU.dep 11 79 (by kernel_rfl)
                              exact step_skip ((wanted_some rfl rfl e79).trans rfl) trivial
                            case s14 =>
                              intro ac wc hU
                              have e80 : (Gd.any).p (slot ac 80) wc := hU.dep 12 80 (by kernel_rfl)
                              have e81 : (Gd.any).p (slot ac 81) wc := hU.dep 13 81 (by kernel_rfl)
                              have e79 : (Gd.eq (.bool false)).p (slot ac 79) wc := hU.dep 11 79 (by kernel_rfl)
                              exact step_skip ((wanted_some rfl rfl e79).trans rfl) trivial
                            case s15 =>
                              intro ac wc hU
                              have e79 : (Gd.eq (.bool false)).p (slot ac 79) wc := hU.dep 11 79 (by kernel_rfl)
                              have e82 : (Gd.any).p (slot ac 82) wc := hU.dep 14 82 (by kernel_rfl)
                              refine step_val (wanted_none rfl) (run_pick (b := false) rfl (by rw [eval_tmp]; exact e79)) ?_
                              show (Gd.eq (Value.bool false)).p (if false = true then _ else _) wc
                              rw [if_neg (by decide)]
                              exact (rfl)
                            case s16 =>
                              intro ac wc hU
                              have e83 : (Gd.eq (Value.bool false)).p (slot ac 83) wc := hU.dep 15 83 (by kernel_rfl)
                              refine step_val (wanted_none rfl) (run_move rfl) ?_
                              show (Gd.eq (Value.bool false)).p _ wc
                              exact (by rw [eval_tmp]; exact e83)
                            case s17 =>
                              intro ac wc hU
                              have e14 : slot ac 14 = .pointer (some ⟨wi.heap.size, 0, none⟩) := (hU.keep 14 (by kernel_rfl)).trans rfl
                              have e84 : (Gd.eq (Value.bool false)).p (slot ac 84) wc := hU.dep 16 84 (by kernel_rfl)
                              exact step_skip ((wanted_some rfl rfl e84).trans rfl) trivial
                            case s18 =>
                              intro ac wc hU
                              have e85 : (Gd.any).p (slot ac 85) wc := hU.dep 17 85 (by kernel_rfl)
                              have e84 : (Gd.eq (Value.bool false)).p (slot ac 84) wc := hU.dep 16 84 (by kernel_rfl)
                              exact step_skip ((wanted_some rfl rfl e84).trans rfl) trivial
                            case s19 =>
                              intro ac wc hU
                              have e11 : slot ac 11 = .int .i64 (b : Int) := (hU.keep 11 (by kernel_rfl)).trans rfl
                              have e84 : (Gd.eq (Value.bool false)).p (slot ac 84) wc := hU.dep 16 84 (by kernel_rfl)
                              exact step_skip ((wanted_some rfl rfl e84).trans rfl) trivial
                            case s20 =>
                              intro ac wc hU
                              have e10 : slot ac 10 = .pointer (some ⟨wo.heap.size + 1, 0, none⟩) := (hU.keep 10 (by kernel_rfl)).trans rfl
                              have e84 : (Gd.eq (Value.bool false)).p (slot ac 84) wc := hU.dep 16 84 (by kernel_rfl)
                              exact step_skip ((wanted_some rfl rfl e84).trans rfl) trivial
                            case s21 =>
                              intro ac wc hU
                              have e87 : (Gd.any).p (slot ac 87) wc := hU.dep 19 87 (by kernel_rfl)
                              have e88 : (Gd.any).p (slot ac 88) wc := hU.dep 20 88 (by kernel_rfl)
                              have e84 : (Gd.eq (Value.bool false)).p (slot ac 84) wc := hU.dep 16 84 (by kernel_rfl)
                              exact step_skip ((wanted_some rfl rfl e84).trans rfl) trivial
                            case s22 =>
                              intro ac wc hU
                              have e89 : (Gd.any).p (slot ac 89) wc := hU.dep 21 89 (by kernel_rfl)
                              have e84 : (Gd.eq (Value.bool false)).p (slot ac 84) wc := hU.dep 16 84 (by kernel_rfl)
                              exact step_skip ((wanted_some rfl rfl e84).trans rfl) trivial
                            case s23 =>
                              intro ac wc hU
                              have e90 : (Gd.any).p (slot ac 90) wc := hU.dep 22 90 (by kernel_rfl)
                              have e84 : (Gd.eq (Value.bool false)).p (slot ac 84) wc := hU.dep 16 84 (by kernel_rfl)
                              exact step_skip ((wanted_some rfl rfl e84).trans rfl) trivial
                            case s24 =>
                              intro ac wc hU
                              have e86 : (Gd.any).p (slot ac 86) wc := hU.dep 18 86 (by kernel_rfl)
                              have e91 : (Gd.any).p (slot ac 91) wc := hU.dep 23 91 (by kernel_rfl)
                              have e84 : (Gd.eq (Value.bool false)).p (slot ac 84) wc := hU.dep 16 84 (by kernel_rfl)
                              exact step_skip ((wanted_some rfl rfl e84).trans rfl) trivial
                            case s25 =>
                              intro ac wc hU
                              have e84 : (Gd.eq (Value.bool false)).p (slot ac 84) wc := hU.dep 16 84 (by kernel_rfl)
                              have e92 : (Gd.any).p (slot ac 92) wc := hU.dep 24 92 (by kernel_rfl)
                              refine step_val (wanted_none rfl) (run_pick (b := false) rfl (by rw [eval_tmp]; exact e84)) ?_
                              show (Gd.eq (Value.bool false)).p (if false = true then _ else _) wc
                              rw [if_neg (by decide)]
                              exact (rfl)
                          intro ac wc hU
                          have hlit := act_puts hU (by kernel_rfl) [68, 69, 70, 71, 72, 73, 74, 75, 76, 77, 78, 79, 80, 81, 82, 83, 84, 85, 86, 87, 88, 89, 90, 91, 92, 93] (by kernel_rfl)
                          have f68 : slot ac 68 = .pointer (some ⟨wi.heap.size, 0, none⟩) := hU.last 0 68 (by kernel_rfl)
                          have f69 : slot ac 69 = .int .i64 r.pre.bits := hU.last 1 69 (by kernel_rfl)
                          have f70 : slot ac 70 = .int .i64 bits := hU.last 2 70 (by kernel_rfl)
                          have f71 : slot ac 71 = .bool true := hU.last 3 71 (by kernel_rfl)
                          have f72 : slot ac 72 = .bool true := hU.last 4 72 (by kernel_rfl)
                          have f73 : slot ac 73 = .agg (pc r.pre) := hU.last 5 73 (by kernel_rfl)
                          have f74 : slot ac 74 = .int .i64 (lastN r : Nat) := hU.last 6 74 (by kernel_rfl)
                          have f75 : slot ac 75 = .pointer (some ⟨wo.heap.size, 0, none⟩) := hU.last 7 75 (by kernel_rfl)
                          have f76 : slot ac 76 = .int .i64 (u.length : Int) := hU.last 8 76 (by kernel_rfl)
                          have f77 : slot ac 77 = .bool false := hU.last 9 77 (by kernel_rfl)
                          have f78 : slot ac 78 = .bool false := hU.last 10 78 (by kernel_rfl)
                          have f79 : slot ac 79 = .bool false := hU.last 11 79 (by kernel_rfl)
                          have f83 : slot ac 83 = Value.bool false := hU.last 15 83 (by kernel_rfl)
                          have f84 : slot ac 84 = Value.bool false := hU.last 16 84 (by kernel_rfl)
                          have f93 : slot ac 93 = Value.bool false := hU.last 25 93 (by kernel_rfl)
                          have HWD : Hid (Below w14.heap.size w14 wc) := hU.below
                          simp only [puts, List.foldl, Act.put, List.setIfInBounds_toArray, List.set_cons_zero, List.set_cons_succ, f68, f69, f70, f71, f72, f73, f74, f75, f76, f77, f78, f79, f83, f84, f93] at hlit
                          rw [hlit]
                          clear hlit hU f68 f69 f70 f71 f72 f73 f74 f75 f76 f77 f78 f79 f83 f84 f93
                          generalize wc = wd at HWD ⊢
                          have HE := Lib.hid (HFF.out wd HWD.out)
                          clear HWD
                          go_wp2
                          go_roundw
                          case rel => exact ⟨i + 1, by omega, by go_num, by rw [HNX.out, HD.out]; exact HE.out.2.2.2.2.2.2.1, HE.out.2.2.2.2.2.2.2.1, HE.out.2.2.2.2.2.2.2.2⟩
                          case measure => simp [intOf]; omega
                      · have C1b : (r.pre.bits == bits) = false := by rw [beq_eq_false_iff_ne]; exact c1
                        have HD : Hid (slotD bits q u.length x r = x) := by show _ = _; unfold slotD; rw [if_neg (fun h => c1 h.1)]
                        clear c1
                        refine region_slots (by kernel_rfl) (by kernel_rfl) (Gof [Gd.eq (.pointer (some ⟨wi.heap.size, 0, none⟩)), Gd.eq (.int .i64 r.pre.bits), Gd.eq (.int .i64 bits), Gd.eq (.bool false), Gd.eq (.bool false), Gd.any, Gd.any, Gd.any, Gd.any, Gd.any, Gd.eq (Value.bool false), Gd.eq (Value.bool false), Gd.any, Gd.any, Gd.any, Gd.eq (Value.bool false), Gd.eq (Value.bool false), Gd.any, Gd.any, Gd.any, Gd.any, Gd.any, Gd.any, Gd.any, Gd.any, Gd.eq (Value.bool false)]) (Gof_st _) (steps_all ?_) ?_
                        · dsimp only
                          refine StepsFrom.cons ?s0 (StepsFrom.cons ?s1 (StepsFrom.cons ?s2 (StepsFrom.cons ?s3 (StepsFrom.cons ?s4 (StepsFrom.cons ?s5 (StepsFrom.cons ?s6 (StepsFrom.cons ?s7 (StepsFrom.cons ?s8 (StepsFrom.cons ?s9 (StepsFrom.cons ?s10 (StepsFrom.cons ?s11 (StepsFrom.cons ?s12 (StepsFrom.cons ?s13 (StepsFrom.cons ?s14 (StepsFrom.cons ?s15 (StepsFrom.cons ?s16 (StepsFrom.cons ?s17 (StepsFrom.cons ?s18 (StepsFrom.cons ?s19 (StepsFrom.cons ?s20 (StepsFrom.cons ?s21 (StepsFrom.cons ?s22 (StepsFrom.cons ?s23 (StepsFrom.cons ?s24 (StepsFrom.cons ?s25 StepsFrom.nil)))))))))))))))))))))))))
                          case s0 =>
                            intro ac wc hU
                            have e14 : slot ac 14 = .pointer (some ⟨wi.heap.size, 0, none⟩) := (hU.keep 14 (by kernel_rfl)).trans rfl
                            refine step_val (wanted_none rfl) (v := .pointer (some ⟨wi.heap.size, 0, none⟩)) ?_ rfl
                            have e14 : slot ac 14 = .pointer (some ⟨wi.heap.size, 0, none⟩) := e14
                            simp [execOp, eval_tmp, e14] <;> go_simp
                          case s1 =>
                            intro ac wc hU
                            have e68 : (Gd.eq (.pointer (some ⟨wi.heap.size, 0, none⟩))).p (slot ac 68) wc := hU.dep 0 68 (by kernel_rfl)
                            refine step_val (wanted_none rfl) (v := .int .i64 r.pre.bits) ?_ rfl
                            have hc := (HFF.out wc hU.below).2.1
                            have e68 : slot ac 68 = .pointer (some ⟨wi.heap.size, 0, none⟩) := e68
                            simp [execOp, eval_tmp, e68] <;> go_simp
                          case s2 =>
                            intro ac wc hU
                            have e1 : slot ac 1 = .int .i64 bits := (hU.keep 1 (by kernel_rfl)).trans rfl
                            refine step_val (wanted_none rfl) (run_move rfl) ?_
                            show (Gd.eq (.int .i64 bits)).p _ wc
                            exact (by rw [eval_tmp]; exact e1)
                          case s3 =>
                            intro ac wc hU
                            have e69 : (Gd.eq (.int .i64 r.pre.bits)).p (slot ac 69) wc := hU.dep 1 69 (by kernel_rfl)
                            have e70 : (Gd.eq (.int .i64 bits)).p (slot ac 70) wc := hU.dep 2 70 (by kernel_rfl)
                            refine step_val (wanted_none rfl) (v := .bool false) ?_ rfl
                            have e69 : slot ac 69 = .int .i64 r.pre.bits := e69
                            have e70 : slot ac 70 = .int .i64 bits := e70
                            simp [execOp, eval_tmp, e69, e70] <;> go_simp
                          case s4 =>
                            intro ac wc hU
                            have e71 : (Gd.eq (.bool false)).p (slot ac 71) wc := hU.dep 3 71 (by kernel_rfl)
                            refine step_val (wanted_none rfl) (run_move rfl) ?_
                            show (Gd.eq (.bool false)).p _ wc
                            exact (by rw [eval_tmp]; exact e71)
                          case s5 =>
                            intro ac wc hU
                            have e14 : slot ac 14 = .pointer (some ⟨wi.heap.size, 0, none⟩) := (hU.keep 14 (by kernel_rfl)).trans rfl
                            have e72 : (Gd.eq (.bool false)).p (slot ac 72) wc := hU.dep 4 72 (by kernel_rfl)
                            exact step_skip ((wanted_some rfl rfl e72).trans rfl) trivial
                          case s6 =>
                            intro ac wc hU
                            have e73 : (Gd.any).p (slot ac 73) wc := hU.dep 5 73 (by kernel_rfl)
                            have e72 : (Gd.eq (.bool false)).p (slot ac 72) wc := hU.dep 4 72 (by kernel_rfl)
                            exact step_skip ((wanted_some rfl rfl e72).trans rfl) trivial
                          case s7 =>
                            intro ac wc hU
                            have e9 : slot ac 9 = .pointer (some ⟨wo.heap.size, 0, none⟩) := (hU.keep 9 (by kernel_rfl)).trans rfl
                            have e72 : (Gd.eq (.bool false)).p (slot ac 72) wc := hU.dep 4 72 (by kernel_rfl)
                            exact step_skip ((wanted_some rfl rfl e72).trans rfl) trivial
                          case s8 =>
                            intro ac wc hU
                            have e75 : (Gd.any).p (slot ac 75) wc := hU.dep 7 75 (by kernel_rfl)
                            have e72 : (Gd.eq (.bool false)).p (slot ac 72) wc := hU.dep 4 72 (by kernel_rfl)
                            exact step_skip ((wanted_some rfl rfl e72).trans rfl) trivial
                          case s9 =>
                            intro ac wc hU
                            have e74 : (Gd.any).p (slot ac 74) wc := hU.dep 6 74 (by kernel_rfl)
                            have e76 : (Gd.any).p (slot ac 76) wc := hU.dep 8 76 (by kernel_rfl)
                            have e72 : (Gd.eq (.bool false)).p (slot ac 72) wc := hU.dep 4 72 (by kernel_rfl)
                            exact step_skip ((wanted_some rfl rfl e72).trans rfl) trivial
                          case s10 =>
                            intro ac wc hU
                            have e72 : (Gd.eq (.bool false)).p (slot ac 72) wc := hU.dep 4 72 (by kernel_rfl)
                            have e77 : (Gd.any).p (slot ac 77) wc := hU.dep 9 77 (by kernel_rfl)
                            refine step_val (wanted_none rfl) (run_pick (b := false) rfl (by rw [eval_tmp]; exact e72)) ?_
                            show (Gd.eq (Value.bool false)).p (if false = true then _ else _) wc
                            rw [if_neg (by decide)]
                            exact (rfl)
                          case s11 =>
                            intro ac wc hU
                            have e78 : (Gd.eq (Value.bool false)).p (slot ac 78) wc := hU.dep 10 78 (by kernel_rfl)
                            refine step_val (wanted_none rfl) (run_move rfl) ?_
                            show (Gd.eq (Value.bool false)).p _ wc
                            exact (by rw [eval_tmp]; exact e78)
                          case s12 =>
                            intro ac wc hU
                            have e14 : slot ac 14 = .pointer (some ⟨wi.heap.size, 0, none⟩) := (hU.keep 14 (by kernel_rfl)).trans rfl
                            have e79 : (Gd.eq (Value.bool false)).p (slot ac 79) wc := hU.dep 11 79 (by kernel_rfl)
                            exact step_skip ((wanted_some rfl rfl e79).trans rfl) trivial
                          case s13 =>
                            intro ac wc hU
                            have e12 : slot ac 12 = .pointer (some ⟨B12, 0, none⟩) := (hU.keep 12 (by kernel_rfl)).trans rfl
                            have e79 : (Gd.eq (Value.bool false)).p (slot ac 79) wc := hU.dep 11 79 (by kernel_rfl)
                            exact step_skip ((wanted_some rfl rfl e79).trans rfl) trivial
                          case s14 =>
                            intro ac wc hU
                            have e80 : (Gd.any).p (slot ac 80) wc := hU.dep 12 80 (by kernel_rfl)
                            have e81 : (Gd.any).p (slot ac 81) wc := hU.dep 13 81 (by kernel_rfl)
                            have e79 : (Gd.eq (Value.bool false)).p (slot ac 79) wc := hU.dep 11 79 (by kernel_rfl)
                            exact step_skip ((wanted_some rfl rfl e79).trans rfl) trivial
                          case s15 =>
                            intro ac wc hU
                            have e79 : (Gd.eq (Value.bool false)).p (slot ac 79) wc := hU.dep 11 79 (by kernel_rfl)
                            have e82 : (Gd.any).p (slot ac 82) wc := hU.dep 14 82 (by kernel_rfl)
                            refine step_val (wanted_none rfl) (run_pick (b := false) rfl (by rw [eval_tmp]; exact e79)) ?_
                            show (Gd.eq (Value.bool false)).p (if false = true then _ else _) wc
                            rw [if_neg (by decide)]
                            exact (rfl)
                          case s16 =>
                            intro ac wc hU
                            have e83 : (Gd.eq (Value.bool false)).p (slot ac 83) wc := hU.dep 15 83 (by kernel_rfl)
                            refine step_val (wanted_none rfl) (run_move rfl) ?_
                            show (Gd.eq (Value.bool false)).p _ wc
                            exact (by rw [eval_tmp]; exact e83)
                          case s17 =>
                            intro ac wc hU
                            have e14 : slot ac 14 = .pointer (some ⟨wi.heap.size, 0, none⟩) := (hU.keep 14 (by kernel_rfl)).trans rfl
                            have e84 : (Gd.eq (Value.bool false)).p (slot ac 84) wc := hU.dep 16 84 (by kernel_rfl)
                            exact step_skip ((wanted_some rfl rfl e84).trans rfl) trivial
                          case s18 =>
                            intro ac wc hU
                            have e85 : (Gd.any).p (slot ac 85) wc := hU.dep 17 85 (by kernel_rfl)
                            have e84 : (Gd.eq (Value.bool false)).p (slot ac 84) wc := hU.dep 16 84 (by kernel_rfl)
                            exact step_skip ((wanted_some rfl rfl e84).trans rfl) trivial
                          case s19 =>
                            intro ac wc hU
                            have e11 : slot ac 11 = .int .i64 (b : Int) := (hU.keep 11 (by kernel_rfl)).trans rfl
                            have e84 : (Gd.eq (Value.bool false)).p (slot ac 84) wc := hU.dep 16 84 (by kernel_rfl)
                            exact step_skip ((wanted_some rfl rfl e84).trans rfl) trivial
                          case s20 =>
                            intro ac wc hU
                            have e10 : slot ac 10 = .pointer (some ⟨wo.heap.size + 1, 0, none⟩) := (hU.keep 10 (by kernel_rfl)).trans rfl
                            have e84 : (Gd.eq (Value.bool false)).p (slot ac 84) wc := hU.dep 16 84 (by kernel_rfl)
                            exact step_skip ((wanted_some rfl rfl e84).trans rfl) trivial
                          case s21 =>
                            intro ac wc hU
                            have e87 : (Gd.any).p (slot ac 87) wc := hU.dep 19 87 (by kernel_rfl)
                            have e88 : (Gd.any).p (slot ac 88) wc := hU.dep 20 88 (by kernel_rfl)
                            have e84 : (Gd.eq (Value.bool false)).p (slot ac 84) wc := hU.dep 16 84 (by kernel_rfl)
                            exact step_skip ((wanted_some rfl rfl e84).trans rfl) trivial
                          case s22 =>
                            intro ac wc hU
                            have e89 : (Gd.any).p (slot ac 89) wc := hU.dep 21 89 (by kernel_rfl)
                            have e84 : (Gd.eq (Value.bool false)).p (slot ac 84) wc := hU.dep 16 84 (by kernel_rfl)
                            exact step_skip ((wanted_some rfl rfl e84).trans rfl) trivial
                          case s23 =>
                            intro ac wc hU
                            have e90 : (Gd.any).p (slot ac 90) wc := hU.dep 22 90 (by kernel_rfl)
                            have e84 : (Gd.eq (Value.bool false)).p (slot ac 84) wc := hU.dep 16 84 (by kernel_rfl)
                            exact step_skip ((wanted_some rfl rfl e84).trans rfl) trivial
                          case s24 =>
                            intro ac wc hU
                            have e86 : (Gd.any).p (slot ac 86) wc := hU.dep 18 86 (by kernel_rfl)
                            have e91 : (Gd.any).p (slot ac 91) wc := hU.dep 23 91 (by kernel_rfl)
                            have e84 : (Gd.eq (Value.bool false)).p (slot ac 84) wc := hU.dep 16 84 (by kernel_rfl)
                            exact step_skip ((wanted_some rfl rfl e84).trans rfl) trivial
                          case s25 =>
                            intro ac wc hU
                            have e84 : (Gd.eq (Value.bool false)).p (slot ac 84) wc := hU.dep 16 84 (by kernel_rfl)
                            have e92 : (Gd.any).p (slot ac 92) wc := hU.dep 24 92 (by kernel_rfl)
                            refine step_val (wanted_none rfl) (run_pick (b := false) rfl (by rw [eval_tmp]; exact e84)) ?_
                            show (Gd.eq (Value.bool false)).p (if false = true then _ else _) wc
                            rw [if_neg (by decide)]
                            exact (rfl)
                        intro ac wc hU
                        have hlit := act_puts hU (by kernel_rfl) [68, 69, 70, 71, 72, 73, 74, 75, 76, 77, 78, 79, 80, 81, 82, 83, 84, 85, 86, 87, 88, 89, 90, 91, 92, 93] (by kernel_rfl)
                        have f68 : slot ac 68 = .pointer (some ⟨wi.heap.size, 0, none⟩) := hU.last 0 68 (by kernel_rfl)
                        have f69 : slot ac 69 = .int .i64 r.pre.bits := hU.last 1 69 (by kernel_rfl)
                        have f70 : slot ac 70 = .int .i64 bits := hU.last 2 70 (by kernel_rfl)
                        have f71 : slot ac 71 = .bool false := hU.last 3 71 (by kernel_rfl)
                        have f72 : slot ac 72 = .bool false := hU.last 4 72 (by kernel_rfl)
                        have f78 : slot ac 78 = Value.bool false := hU.last 10 78 (by kernel_rfl)
                        have f79 : slot ac 79 = Value.bool false := hU.last 11 79 (by kernel_rfl)
                        have f83 : slot ac 83 = Value.bool false := hU.last 15 83 (by kernel_rfl)
                        have f84 : slot ac 84 = Value.bool false := hU.last 16 84 (by kernel_rfl)
                        have f93 : slot ac 93 = Value.bool false := hU.last 25 93 (by kernel_rfl)
                        have HWD : Hid (Below w14.heap.size w14 wc) := hU.below
                        simp only [puts, List.foldl, Act.put, List.setIfInBounds_toArray, List.set_cons_zero, List.set_cons_succ, f68, f69, f70, f71, f72, f78, f79, f83, f84, f93] at hlit
                        rw [hlit]
                        clear hlit hU f68 f69 f70 f71 f72 f78 f79 f83 f84 f93
                        generalize wc = wd at HWD ⊢
                        have HE := Lib.hid (HFF.out wd HWD.out)
                        clear HWD
                        go_wp2
                        go_roundw
                        case rel => exact ⟨i + 1, by omega, by go_num, by rw [HNX.out, HD.out]; exact HE.out.2.2.2.2.2.2.1, HE.out.2.2.2.2.2.2.2.1, HE.out.2.2.2.2.2.2.2.2⟩
                        case measure => simp [intOf]; omega
                    · obtain rfl : i = m := by omega
                      have hall : t.take i = t := List.take_of_length_le (by rw [← HM.out]; exact Nat.le_refl _)
                      have HSB : Hid (wi.heap[wo.heap.size + 1]? = some (.cells (nc ((ndU T u b).setSl b (T.sl u b))) 104 (0, 0))) := by
                        have h1 := HNi.out
                        rw [hall, HQ.out, HS.out b HBB.out] at h1
                        exact h1
                      clear hall
                      go_wp2
                      have hn1 : 1 ≤ N := by omega
                      go_loopw [15] (fun j wr => ∃ j' : Nat, 1 ≤ j' ∧ j' ≤ N ∧ j = .int .i64 j' ∧ Hid (wr.heap[wo.heap.size + 1]? = some (.cells (nc (((ndU T u b).setSl b (T.sl u b)).setNx b (nxI T.ws (u ++ [b]) j'))) 104 (0, 0))) ∧ Hid (wr.heap[B12]? = some (.cells (kc q) 24 (0, 0))) ∧ Hid (Below w9.heap.size w9 wr)) (fun j _ => N - (intOf j).toNat)
                      case atStart => exact ⟨1, Nat.le_refl _, hn1, rfl, by show _ = _; rw [nxI_one, ndU_next]; exact HSB.out, HKi.out, HWi.out⟩
                      case round =>
                        obtain ⟨j, hj1, hj, rfl, HNj, HKj, HWj⟩ := hrel
                        obtain ⟨wj, hwj⟩ : ∃ wj, wj = wr := ⟨_, rfl⟩
                        subst hwj
                        by_cases hlt4 : j < N
                        · have hltI4 : (j : Int) < N := by omega
                          have hj0 : (0 : Int) ≤ j := by omega
                          obtain ⟨x, hx⟩ : ∃ x, T.ws[j]? = some x := ⟨T.ws[j]'(by rw [← HN.out]; exact hlt4), List.getElem?_eq_getElem _⟩
                          have HXJ := Lib.hid hx
                          have hxo := HWO.out.low x (List.mem_of_getElem? hx)
                          obtain ⟨kk1, kk2, -, -⟩ := HK.out wj HWj.out
                          have kw := kk2.way hx
                          rw [show (⟨gw, 0, none⟩ : Addr).add (j * 17) = ⟨gw, j * 17, none⟩ by rw [add_here, Nat.zero_add]] at kw
                          have cu : wj.cell? ⟨wo.heap.size, 0, none⟩ = some (.int .i64 (u.length : Int)) := by
                            have := kk1 0 _ (show (wl u)[0]? = some (.int .i64 (u.length : Int)) from rfl)
                            rw [add_here] at this; exact this
                          have cx : wj.cell? ⟨gw, j * 17, none⟩ = some (.int .i64 (x.length : Int)) := by
                            have := kw 0 _ (show (wl x)[0]? = some (.int .i64 (x.length : Int)) from rfl)
                            rw [add_here] at this; exact this
                          have lx : ∀ k, (keyLoad ⟨gw, j * 17 + 1, none⟩).run Try.prog (wj.drewN k) = .ok (.agg (kc (keyOf x))) (wj.drewN k) := fun k => run_keyLoad fun i y hy => by
                            have := kw (1 + i) y (by unfold wl; rw [Nat.add_comm, List.getElem?_cons_succ]; simpa [kc] using hy)
                            rw [add_here, ← Nat.add_assoc] at this
                            exact this
                          have lq : ∀ k, (keyLoad ⟨B12, 0, none⟩).run Try.prog (wj.drewN k) = .ok (.agg (kc q)) (wj.drewN k) := fun k => run_keyLoad fun i y hy => by
                            have := cell_of HKj.out i
                            rw [Nat.zero_add]
                            exact this.trans hy
                          have hE := fun W => run_eqKey_top (keyOf x) q W
                          have hwe := way_eq hxo.1 (low_snoc HLOW.out.1 HBB.out) (by have := hxo.2; omega)
                          rw [List.length_append, List.length_singleton, ← HQ.out] at hwe
                          push_cast at hwe
                          have hwu : IntKind.i64.wrap ((u.length : Int) + 1) = (u.length : Int) + 1 := by rw [IntKind.wrap_i64]; have := HLOW.out.2; omega
                          clear hx hxo kk1 kk2 kw
                          by_cases hlen : x.length = u.length + 1
                          · have e1 : ((x.length : Int) == (u.length : Int) + 1) = true := by rw [beq_iff_eq]; omega
                            have e1n : (x.length == u.length + 1) = true := by rw [beq_iff_eq]; exact hlen
                            rw [e1, Bool.true_and] at hwe
                            cases hk : keyEq (keyOf x) q with
                            | false =>
                              rw [hk] at hwe
                              have HD : Hid (x ≠ u ++ [b]) := of_decide_eq_false hwe.symm
                              simp only [hk] at hE
                              clear hwe hk hlen
                              go_wp2
                              go_quiet (fail)
                              generalize hwq : World.drewN wj _ = wq
                              have HQJ : Hid (wq.heap[wo.heap.size + 1]? = some (.cells (nc (((ndU T u b).setSl b (T.sl u b)).setNx b (nxI T.ws (u ++ [b]) j))) 104 (0, 0)) ∧ wq.heap[B12]? = some (.cells (kc q) 24 (0, 0)) ∧ Below w9.heap.size w9 wq) := by rw [← hwq]; exact ⟨HNj.out, HKj.out, ⟨HWj.out.os, HWj.out.tape, HWj.out.output, HWj.out.size, HWj.out.block⟩⟩
                              clear hwq lx lq hE cu cx
                              go_wp2
                              go_roundw
                              case rel => exact ⟨j + 1, by omega, by omega, by go_num, by show _ = _; rw [nxI_miss hj1 HXJ.out HD.out]; exact HQJ.out.1, HQJ.out.2.1, HQJ.out.2.2⟩
                              case measure => simp [intOf]; omega
                            | true =>
                              rw [hk] at hwe
                              have HD : Hid (x = u ++ [b]) := (of_decide_eq_true hwe.symm : x = u ++ [b])
                              simp only [hk] at hE
                              clear hwe hk hlen
                              go_wp2
                              go_quiet (fail)
                              generalize hwq : World.drewN wj _ = wq
                              have HQJ : Hid (wq.heap[wo.heap.size + 1]? = some (.cells (nc (((ndU T u b).setSl b (T.sl u b)).setNx b (nxI T.ws (u ++ [b]) j))) 104 (0, 0)) ∧ wq.heap[B12]? = some (.cells (kc q) 24 (0, 0)) ∧ Below w9.heap.size w9 wq) := by rw [← hwq]; exact ⟨HNj.out, HKj.out, ⟨HWj.out.os, HWj.out.tape, HWj.out.output, HWj.out.size, HWj.out.block⟩⟩
                              have cN : wq.cell? ⟨wo.heap.size + 1, 32 + b, none⟩ = some (ndC (((ndU T u b).setSl b (T.sl u b)).setNx b (nxI T.ws (u ++ [b]) j)) (32 + b)) := by rw [cell_of HQJ.out.1]; exact nc_at _ (by have := HBB.out; omega)
                              have fN := frozen_of HQJ.out.1 (32 + b)
                              have HSJ : Hid ((wq.setCell ⟨wo.heap.size + 1, 32 + b, none⟩ (.int .i64 (j : Int))).heap[wo.heap.size + 1]? = some (.cells (nc (((ndU T u b).setSl b (T.sl u b)).setNx b j)) 104 (0, 0)) ∧ (wq.setCell ⟨wo.heap.size + 1, 32 + b, none⟩ (.int .i64 (j : Int))).heap[B12]? = some (.cells (kc q) 24 (0, 0)) ∧ Below w9.heap.size w9 (wq.setCell ⟨wo.heap.size + 1, 32 + b, none⟩ (.int .i64 (j : Int)))) := by
                                refine ⟨?_, ?_, HQJ.out.2.2.setCell (by show _ ≤ wo.heap.size + 1; have := HS9.out; omega) _⟩
                                · have h := node_setNx (W := wq) (B := wo.heap.size + 1) HQJ.out.1 HBB.out j
                                  rw [setNx_setNx] at h
                                  exact h
                                · rw [heap_setCell_other _ _ _ _ (by show B12 ≠ wo.heap.size + 1; have := HLT12.out; omega)]
                                  exact HQJ.out.2.1
                              clear hwq lx lq hE cu cx
                              go_wp2
                              go_roundw
                              case rel => exact ⟨j + 1, by omega, by omega, by go_num, by show _ = _; rw [nxI_hit HOK.out.nodup (by rw [← HD.out]; exact HXJ.out)]; exact HSJ.out.1, HSJ.out.2.1, HSJ.out.2.2⟩
                              case measure => simp [intOf]; omega
                          · have e1 : ((x.length : Int) == (u.length : Int) + 1) = false := by rw [beq_eq_false_iff_ne]; omega
                            have e1n : (x.length == u.length + 1) = false := by rw [beq_eq_false_iff_ne]; exact hlen
                            have HD : Hid (x ≠ u ++ [b]) := fun h => hlen (by rw [h]; simp)
                            clear hwe hlen
                            go_wp2
                            go_quiet (fail)
                            generalize hwq : World.drewN wj _ = wq
                            have HQJ : Hid (wq.heap[wo.heap.size + 1]? = some (.cells (nc (((ndU T u b).setSl b (T.sl u b)).setNx b (nxI T.ws (u ++ [b]) j))) 104 (0, 0)) ∧ wq.heap[B12]? = some (.cells (kc q) 24 (0, 0)) ∧ Below w9.heap.size w9 wq) := by rw [← hwq]; exact ⟨HNj.out, HKj.out, ⟨HWj.out.os, HWj.out.tape, HWj.out.output, HWj.out.size, HWj.out.block⟩⟩
                            clear hwq lx lq hE cu cx
                            go_wp2
                            go_roundw
                            case rel => exact ⟨j + 1, by omega, by omega, by go_num, by show _ = _; rw [nxI_miss hj1 HXJ.out HD.out]; exact HQJ.out.1, HQJ.out.2.1, HQJ.out.2.2⟩
                            case measure => simp [intOf]; omega
                        · obtain rfl : j = N := by omega
                          have HFB : Hid (wj.heap[wo.heap.size + 1]? = some (.cells (nc (ndU T u (b + 1))) 104 (0, 0))) := by
                            have h := HNj.out
                            rw [HN.out, nxI_all, ndU_succ] at h
                            exact h
                          go_wp2
                          go_roundw
                          case rel => exact ⟨b + 1, by omega, by go_num, HFB.out, HWj.out⟩
                          case measure => simp [intOf]; omega
                · obtain rfl : b = 16 := by omega
                  obtain ⟨v7, hb7, ho7⟩ := (HK.out wb HW2b.out).2.2.2
                  have HFB := Lib.hid (HK.out wb HW2b.out).2.2.1
                  have c7 : wb.cell? ⟨w2.heap.size, 1, none⟩ = some v7 := by rw [cell_of hb7]; rfl
                  have hnn := HN2.out
                  rw [ndU_all] at hnn
                  have ln : (nodeLoad ⟨wo.heap.size + 1, 0, none⟩).run Try.prog wb = .ok (.agg (nc (T.node u))) wb := run_nodeLoad fun j x hx => by
                    rw [add_here, Nat.zero_add, cell_of hnn]; simpa [nc] using hx
                  have nr := run_nodesBuild (T.node u) wb
                  have hal : Below wb.heap.size wb (wb.alloc (.cells (nc (T.node u)) 104)) := (Below.refl _ _).alloc (Nat.le_refl _) _
                  have HOW := Lib.hid (ho7.later hal)
                  have HNEW := Lib.hid (newNode wb (T.node u))
                  have HAL := Lib.hid hal
                  have HX7 : Hid ((wb.alloc (.cells (nc (T.node u)) 104)).heap[w2.heap.size]? = some (.cells (tc bits v7) 52 (0, 0))) := (hal.block _ (Array.getElem?_eq_some_iff.1 hb7).1).trans hb7
                  have HSZ : Hid (w7.heap.size ≤ wb.heap.size) := by show _ ≤ _; have h1 := HFB.out.size; have h2 := (Array.getElem?_eq_some_iff.1 hb7).1; have h3 := hz7.out; omega
                  have hlen : (T.nodes.take n).length = n := by rw [List.length_take, T.nodes_length, ← HN.out]; omega
                  have HLEN := Lib.hid hlen
                  obtain ⟨i0, q0, q1', q2', q3⟩ := infoN'
                  have Q0 := Lib.hid q0
                  have Q1 := Lib.hid q1'
                  have Q2 := Lib.hid q2'
                  have Q3 := Lib.hid q3
                  have HON := Lib.hid ho7.one
                  clear hal q0 q1' q2' q3 hb7 ho7 hnn hlen
                  go_wp2_with (at_builtin; refine wpList_append_own _ rfl _ _ 50 rfl w7.heap.size 104 i0 (.agg (nc nd0)) 48 384 Try.underlying50 Q0.out Q1.out Q2.out Q3.out (nc_size _) (by decide) _ (T.nodes.take n).length (fn (T.nodes.take n)) rfl HOW.out ⟨wb.heap.size, 0, none⟩ 1 1 (ndl (T.node u)) rfl (ndl_length _) HNEW.out (ndl_one _) (by rw [HLEN.out]; simp only [maxLen]; omega) (by rw [HLEN.out]; omega) (by have := HSZ.out; simp; omega) ?_)
                  intro v' wz hown' hg _
                  have hx7 : wz.heap[w2.heap.size]? = some (.cells (tc bits v7) 52 (0, 0)) := by
                    rw [hg.block _ (Array.getElem?_eq_some_iff.1 HX7.out).1 (fun e => by have h1 := (World.ownsRow.lt HOW.out _ e.symm).1; have h2 := hz7.out; omega)]
                    exact HX7.out
                  have hbz : Below w2.heap.size w2 wz := (HFB.out.trans (HAL.out.mono HFB.out.size)).grown hg (Nat.le_trans HFB.out.size HAL.out.size) (fun k hk => by have h1 := (World.ownsRow.lt HOW.out k hk).1; have h2 := hz7.out; omega)
                  have hoz : OwnN wz w7.heap.size v' (T.nodes.take (n + 1)) := by
                    have e1 : T.nodes.take (n + 1) = T.nodes.take n ++ [T.node u] := by rw [List.take_add_one, T.nodes_at HU.out]; rfl
                    unfold OwnN
                    rw [e1, List.length_append, fn_append, fn_one, List.length_take]
                    exact hown'
                  have fz := frozen_of hx7 1
                  have cz : wz.cell? ⟨w2.heap.size, 1, none⟩ = some v7 := by rw [cell_of hx7]; rfl
                  have HE : Hid ((∃ v7, (wz.setCell ⟨w2.heap.size, 1, none⟩ v').heap[w2.heap.size]? = some (.cells (tc bits v7) 52 (0, 0)) ∧ OwnN (wz.setCell ⟨w2.heap.size, 1, none⟩ v') w7.heap.size v7 (T.nodes.take (n + 1))) ∧ Below w2.heap.size w2 (wz.setCell ⟨w2.heap.size, 1, none⟩ v')) :=
                    ⟨⟨v', heap_setCell_same _ _ _ _ _ _ hx7, ownsRow_setCell_below hoz (by show w2.heap.size < _; have := hz7.out; omega) _⟩, hbz.setCell (Nat.le_refl _) _⟩
                  obtain ⟨g3, cap3, hv3, -, -⟩ := hoz.form (by rw [List.length_take, T.nodes_length, ← HN.out]; omega)
                  generalize (T.nodes.take (n + 1)).length = m3 at hv3
                  clear hown' hg hx7 hbz hoz nr ln c7
                  subst hv3
                  go_wp2
                  go_roundw
                  case rel => exact ⟨n + 1, by omega, by go_num, HE.out.1, HE.out.2⟩
                  case measure => simp [intOf]; omega
            · obtain rfl : n = N := by omega
              have hall : T.nodes.take n = T.nodes := List.take_of_length_le (by rw [T.nodes_length, ← HN.out]; exact Nat.le_refl _)
              have HO' := HO.out
              rw [hall] at HO'
              clear hall
              obtain ⟨v7, hb7, ho7⟩ := HO'
              have t1 : wo.heap[w.heap.size]? = some (.cells tzero 52 (0, 0)) := (HT.out wo (HW2.out.trans (HW.out.mono HW2.out.size))).1
              have t3 : Below w.heap.size w wo := (HT.out wo (HW2.out.trans (HW.out.mono HW2.out.size))).2.2
              have ll := run_trieLoad (bits := bits) (v := v7) hb7
              have st5 := run_trieStore t1 (b2 := bits) (v2 := v7) ho7.one
              have HF := Lib.hid (trie_fin t1 t3 bits v7)
              have HOF : Hid (OwnN (wo.setRow w.heap.size (tc bits v7)) w.heap.size v7 T.nodes) := (ho7.setRow (by have := HZ.out; have := hz7.out; have := HW2.out.size; omega) _).base (by have := HZ.out; have := hz7.out; have := HW2.out.size; omega)
              clear hb7 ho7 t1 t3
              go_wp2
              refine bodyPost_ret (v := .tuple #[.agg (tc bits v7), .int .i64 0]) (rbuild_out HF.out.1 _ rfl rfl) rfl ?_
              exact ⟨v7, by rw [HXX.out], by rw [HXX.out]; exact HOF.out, HF.out.2⟩
        · have h512I : ¬ (N : Int) ≤ 512 := by omega
          have h512J : (512 : Int) < N := by omega
          have HX1 : Hid (X = (0, [], 5)) := by show _ = _; rw [HXB.out, if_neg h512]
          obtain ⟨W', st, st2, st3⟩ := BAD.out w2 5 HW2.out HX1.out
          have b0 := HB0.out
          have S2 := Lib.hid st2
          have S3 := Lib.hid st3
          clear st2 st3
          go_wp2
          exact bodyPost_ret (v := .tuple #[.agg (tc 0 (.slice none 0 0)), .int .i64 5]) (rbuild_out S2.out _ rfl rfl) rfl S3.out
    · have q1 : (bits != 32) = true := by simp; exact fun h => hb (.inl h)
      have q2 : (bits != 128) = true := by simp; exact fun h => hb (.inr h)
      have HX1 : Hid (X = (0, [], 1)) := by show _ = _; rw [HX0.out, if_neg (fun h => hb (by simpa using h.2))]
      clear hb b0
      go_enter Try.func26, Try.ntmps26
      go_wp2_with fail
      rw [HW0.out]
      refine (C1.out _ HRZ.out).mono ?_
      rintro e w1 ⟨rfl, h1⟩
      have HWC := Lib.hid h1
      clear h1
      obtain ⟨W', st, st2, st3⟩ := BAD.out w1 1 HWC.out HX1.out
      have b0 := HB0.out
      have S2 := Lib.hid st2
      have S3 := Lib.hid st3
      clear st2 st3
      go_wp2
      exact bodyPost_ret (v := .tuple #[.agg (tc 0 (.slice none 0 0)), .int .i64 1]) (rbuild_out S2.out _ rfl rfl) rfl S3.out
end Go.Proofs.Ytggjcjijoihilaa
