/- The document's Ways of layer 4: the ways of a table's trie, in the same order. -/
import Derived.Test.YtggjcjijoihilaaTRightW
import Derived.Test.YtggjcjijoihilaaTWaysR
namespace Go.Proofs.Ytggjcjijoihilaa
open Go.RowKit Go.Sort Go.Shelf

/-! ### Plainly -/
structure WaysOk (ws : List (List Nat)) (n : Nat) : Prop where
  low : ∀ u ∈ ws, Low u ∧ u.length ≤ 31
  pos : 1 ≤ ws.length
  le : ws.length ≤ n
theorem WaysOk.step {T : Tr} {n : Nat} (h : WaysOk T.ws n) {v : List Nat} (hv : Low v) (hl : v.length ≤ 31) : WaysOk (T.step v).ws (n + 1) := by
  unfold Tr.step
  split
  · exact ⟨h.low, h.pos, Nat.le_succ_of_le h.le⟩
  · refine ⟨fun u hu => ?_, ?_, ?_⟩
    · rcases List.mem_append.1 hu with h1 | h1
      · exact h.low u h1
      · rw [List.mem_singleton.1 h1]; exact ⟨hv, hl⟩
    · have := h.pos; show 1 ≤ (T.ws ++ [v]).length; simp
    · have := h.le; show (T.ws ++ [v]).length ≤ n + 1; simp; exact this
theorem WaysOk.along {T : Tr} {n : Nat} (h : WaysOk T.ws n) {k : Nat → Nat} (hk : Bytes16 k) : ∀ s, s ≤ 31 → WaysOk (T.along k s).ws (n + s)
  | 0, _ => h
  | s + 1, hs => by
    have := (h.along hk s (by omega)).step (path_low hk (s + 1)) (by rw [pathN_length]; exact hs)
    exact this
theorem last_le {r : Rt} (h : mayB r.pre = true) : 0 ≤ r.pre.len ∧ r.pre.len ≤ 128 ∧ lastN r ≤ 31 := by
  obtain ⟨h1, h2, h3, -⟩ := (mayB_iff r.pre r.hk).1 h
  refine ⟨h2, by omega, ?_⟩
  unfold lastN
  omega
theorem tree_snoc (t : List Rt) (r : Rt) (bits : Int) : (treeL (t ++ [r]) bits).ws = if r.pre.bits = bits then ((treeL t bits).along r.pre.key (lastN r)).ws else (treeL t bits).ws := by
  unfold treeL
  rw [adds_snoc]
  split <;> rfl
theorem ways_tree (bits : Int) (t : List Rt) (h : ∀ r ∈ t, mayB r.pre = true) : WaysOk (treeL t bits).ws (1 + 31 * t.length) := by
  induction e : t.length generalizing t with
  | zero =>
    have : t = [] := List.length_eq_zero_iff.1 e
    subst this
    exact ⟨fun u hu => by
      have h1 : u ∈ [([] : List Nat)] := hu
      rw [List.mem_singleton.1 h1]; exact ⟨fun c hc => by simp at hc, by simp⟩, Nat.le_refl _, Nat.le_refl _⟩
  | succ n ih =>
    rcases List.eq_nil_or_concat t with rfl | ⟨t', r, rfl⟩
    · simp at e
    · rw [List.concat_eq_append] at e h ⊢
      have ih' := ih t' (fun x hx => h x (by simp [hx])) (by simp at e; exact e)
      rw [tree_snoc]
      have hl := last_le (h r (by simp))
      split
      · have h2 := ih'.along r.hk (lastN r) hl.2.2
        exact ⟨h2.low, h2.pos, Nat.le_trans h2.le (by omega)⟩
      · exact ⟨ih'.low, ih'.pos, Nat.le_trans ih'.le (by omega)⟩
theorem mem_take_succ {ws : List (List Nat)} {j : Nat} {u v : List Nat} (h : ws[j]? = some u) : (v ∈ ws.take (j + 1)) ↔ (v ∈ ws.take j ∨ u = v) := by
  rw [List.take_add_one, h]
  simp [eq_comm]

attribute [local go_sem ↓] loadVar_key loadVar_pre loadVar_route storeVar_key storeVar_pre storeVar_route loadVar_way storeVar_way build_way buildSlice_ways binOp_wayEql

set_option maxHeartbeats 2000000 in
set_option maxRecDepth 100000 in
theorem rways_any (t : List Rt) (ht : t.length ≤ 40) (hmay : ∀ r ∈ t, mayB r.pre = true) (bits : Int) (v : Value) (w : World) (hR : Rd w v t) :
    Calls Try.prog 57 #[v, .int .i64 bits] w fun e w' => ∃ v', e = .returned v' ∧ OwnW w' w.heap.size v' (treeL t bits).ws ∧ Below w.heap.size w w' := by
  have hb0 : Below w.heap.size w (w.alloc (.cells (wc []) 98)) := (Below.refl _ _).alloc (Nat.le_refl _) _
  have ho0 : OwnW (w.alloc (.cells (wc []) 98)) w.heap.size (.slice (some ⟨w.heap.size, 0, none⟩) 1 1) [[]] := by
    have := World.ownsRow_lit (base := w.heap.size) (e := 98) (size := 17) w (wc []) 1 (Nat.le_refl _) (by simp only [maxLen]; omega) (by rw [wc_size])
    unfold OwnW
    rw [fw_one]
    exact this
  have wb0 := run_wayBuild0
  have wsb := run_waysBuild []
  obtain ⟨a, cap, hv, -⟩ := rd_len hR
  obtain ⟨n, hn⟩ : ∃ n, n = t.length := ⟨_, rfl⟩
  rw [← hn] at hv ht
  have hnI : (n : Int) ≤ 40 := by omega
  have HN := Lib.hid hn
  have HT40 : Hid (n ≤ 40) := ht
  have HMAY : Hid (∀ r ∈ t, mayB r.pre = true) := hmay
  subst hv
  obtain ⟨W0, hW0⟩ : ∃ W0, w.alloc (.cells (wc []) 98) = W0 := ⟨_, rfl⟩
  have hz0 : W0.heap.size = w.heap.size + 1 := by rw [← hW0]; simp
  rw [hW0] at hb0 ho0
  have HRD : Hid (∀ W, Below w.heap.size w W → Rd W (.slice a n cap) t) := fun W h => hR.later h
  have HB0 := Lib.hid hb0
  have HO0 := Lib.hid ho0
  have HW0 := Lib.hid hW0
  clear hR hn hmay ht hb0 ho0 hW0 hz0
  go_enter Try.func57, Try.ntmps57
  go_wp2
  rw [HW0.out]
  clear wb0 wsb
  go_loopw [5, 6] (fun s i wr => ∃ i' : Nat, i' ≤ n ∧ i = .int .i64 i' ∧ Hid (OwnW wr w.heap.size s (treeL (t.take i') bits).ws) ∧ Hid (Below w.heap.size w wr)) (fun _ i _ => n - (intOf i).toNat)
  case atStart => exact ⟨0, Nat.zero_le _, rfl, HO0.out, HB0.out⟩
  case round =>
    obtain ⟨i, hi, rfl, HO, HW⟩ := hrel
    by_cases hlt : i < n
    · have hltI : (i : Int) < n := by omega
      have hi0 : (0 : Int) ≤ i := by omega
      obtain ⟨r, hr⟩ : ∃ r, t[i]? = some r := ⟨t[i]'(by rw [← HN.out]; exact hlt), List.getElem?_eq_getElem _⟩
      obtain ⟨wo, hwo⟩ : ∃ wo, wo = wr := ⟨_, rfl⟩
      subst hwo
      obtain ⟨b0, o0, hab⟩ := rt_place (HRD.out wo HW.out) hr
      subst hab
      have HC : Hid (∀ W, Below w.heap.size w W → (preLoad ⟨b0, o0 + i * 19, none⟩).run Try.prog W = .ok (.agg (pc r.pre)) W ∧ (keyLoad ⟨b0, o0 + i * 19 + 2, none⟩).run Try.prog W = .ok (.agg (kc r.pre.key)) W) := fun W h => by
        have h2 := HRD.out W h
        refine ⟨?_, (rt_at h2 hr).2⟩
        rcases h2 with ⟨h, hnil⟩ | ⟨a', cap', h, _, _, hc⟩
        · exfalso; rw [hnil] at hr; cases hr
        · simp only [Value.slice.injEq, Option.some.injEq] at h
          obtain ⟨rfl, -⟩ := h
          have h1 := hc.route hr
          rw [show (⟨b0, o0, none⟩ : Addr).add (i * 19) = ⟨b0, o0 + i * 19, none⟩ from add_here _ _ _] at h1
          exact run_preLoadA h1.pre
      obtain ⟨cb, -⟩ := rt_at (HRD.out wo HW.out) hr
      have htake : Hid (t.take (i + 1) = t.take i ++ [r]) := by show _ = _; rw [List.take_add_one, hr]; rfl
      have hmr : mayB r.pre = true := HMAY.out r (List.mem_of_getElem? hr)
      have HLST := Lib.hid (last_le hmr)
      have HMR := Lib.hid hmr
      clear hr hmr
      obtain ⟨T, hT⟩ : ∃ T, T = treeL (t.take i) bits := ⟨_, rfl⟩
      rw [← hT] at HO
      have HWO : Hid (WaysOk T.ws (1 + 31 * 40)) := by
        have h1 := ways_tree bits (t.take i) (fun r hr => HMAY.out r (List.mem_of_mem_take hr))
        rw [← hT] at h1
        refine ⟨h1.low, h1.pos, Nat.le_trans h1.le ?_⟩
        rw [List.length_take]; have := HT40.out; omega
      have HSN : Hid ((treeL (t.take (i + 1)) bits).ws = if r.pre.bits = bits then (T.along r.pre.key (lastN r)).ws else T.ws) := by
        show _ = _
        rw [htake.out, tree_snoc, hT]
      clear hT
      by_cases hbt : r.pre.bits = bits
      · have hne : (r.pre.bits != bits) = false := by rw [hbt]; simp
        have HBT := Lib.hid hbt
        have HWT := Lib.hid HO
        obtain ⟨q, hq⟩ : ∃ q, q = lastN r := ⟨_, rfl⟩
        have hq31 : q ≤ 31 := by have := HLST.out.2.2; omega
        have hqI : (q : Int) ≤ 31 := by omega
        have HQ := Lib.hid hq
        clear hq hbt
        go_wp2
        clear hne cb
        go_loopw [5, 7] (fun s i wr => ∃ k : Nat, k ≤ q ∧ i = .int .i64 ((k : Int) + 1) ∧ Hid (OwnW wr w.heap.size s (T.along r.pre.key k).ws) ∧ Hid (Below w.heap.size w wr)) (fun _ i _ => q + 1 - (intOf i).toNat)
        case atStart => exact ⟨0, Nat.zero_le _, rfl, HO.out, HW.out⟩
        case round =>
          obtain ⟨k, hk, rfl, HO2, HW2⟩ := hrel
          obtain ⟨w2, hw2⟩ : ∃ w2, w2 = wr := ⟨_, rfl⟩
          subst hw2
          have lp := (HC.out w2 HW2.out).1
          have HL := Lib.hid (fun W => last_any r HLST.out.1 HLST.out.2.1 W)
          rw [← HQ.out] at HL
          have hk0 : (0 : Int) ≤ k := by omega
          have hkI : (k : Int) ≤ q := by omega
          go_wp2_with fail
          refine (HL.out _).mono ?_
          rintro e3 w3 ⟨rfl, h3⟩
          have HW3 := Lib.hid (HW2.out.trans (h3.mono HW2.out.size))
          have HO3 := Lib.hid (HO2.out.later h3)
          clear h3 lp
          by_cases hkq : k < q
          · have hkqI : (k : Int) + 1 ≤ q := by omega
            have hs1 : Hid (k + 1 ≤ 31) := by show k + 1 ≤ 31; omega
            have hmul : Int.toNat (4 * ((k : Int) + 1)) = 4 * (k + 1) := by omega
            have lk := (HC.out w3 HW3.out).2
            have HCT := Lib.hid (fun W => rcut_any r.pre.key (4 * ((k : Int) + 1)) W r.hk)
            rw [hmul] at HCT
            clear hmul
            have hwbd : ∀ W, (wayBuild #[(0, .int .i64 ((k : Int) + 1)), (1, .agg (kc (cutB r.pre.key (4 * (k + 1)))))]).run Try.prog W = .ok (.agg (wc (pathN r.pre.key (k + 1)))) W := fun W => by
              have := run_wayBuild (s := k + 1) (k := cutB r.pre.key (4 * (k + 1))) (v := pathN r.pre.key (k + 1)) (by rw [pathN_length]) (fun i _ => cut_path _ _ _) W
              push_cast at this
              exact this
            obtain ⟨u, hu⟩ : ∃ u, u = pathN r.pre.key (k + 1) := ⟨_, rfl⟩
            rw [← hu] at hwbd
            have HU := Lib.hid hu
            have hulow : Low u := by rw [hu]; exact path_low r.hk _
            have HUL := Lib.hid hulow
            clear hulow hu
            go_wp2_with fail
            refine (HCT.out _).mono ?_
            rintro e4 w4 ⟨rfl, h4⟩
            clear lk
            have wst := run_wayStore_new u w4 #[Value.int IntKind.i64 0, Value.int IntKind.u8 0, Value.int IntKind.u8 0, Value.int IntKind.u8 0, Value.int IntKind.u8 0, Value.int IntKind.u8 0, Value.int IntKind.u8 0, Value.int IntKind.u8 0, Value.int IntKind.u8 0, Value.int IntKind.u8 0, Value.int IntKind.u8 0, Value.int IntKind.u8 0, Value.int IntKind.u8 0, Value.int IntKind.u8 0, Value.int IntKind.u8 0, Value.int IntKind.u8 0, Value.int IntKind.u8 0] rfl
            have HW4 := Lib.hid (HW3.out.trans (h4.mono HW3.out.size))
            have HO4 := Lib.hid (HO3.out.later h4)
            have hal4 : Below w4.heap.size w4 (w4.alloc (.cells (wc u) 98)) := (Below.refl _ _).alloc (Nat.le_refl _) _
            have hbx4 := Go.heap_alloc_new w4 (.cells (wc u) 98)
            obtain ⟨w5, hw5⟩ : ∃ w5, w4.alloc (.cells (wc u) 98) = w5 := ⟨_, rfl⟩
            rw [hw5] at hal4 hbx4
            have HO5 := Lib.hid (HO4.out.later hal4)
            have HW5 := Lib.hid (HW4.out.trans (hal4.mono HW4.out.size))
            have HWL : Hid (CellsAt w5 ⟨w4.heap.size, 0, none⟩ (wl u)) := by rw [← hw5]; exact newWay w4 u
            rw [hw5] at wst
            clear h4 hal4 hbx4 hw5
            go_wp2
            clear wst hwbd
            generalize w4.heap.size = bx at HWL ⊢
            have HT2 : Hid (WaysOk (T.along r.pre.key k).ws (1 + 31 * 40 + 31)) := by
              have := HWO.out.along r.hk k (by have := hs1.out; omega)
              exact ⟨this.low, this.pos, Nat.le_trans this.le (by have := hs1.out; omega)⟩
            obtain ⟨vs, hvs⟩ : ∃ vs, vs = (T.along r.pre.key k).ws := ⟨_, rfl⟩
            rw [← hvs] at HT2 HO5
            have HVS := Lib.hid hvs
            clear hvs
            obtain ⟨g, gc, hg, hg1, hg2⟩ := HO5.out.form HT2.out.pos
            subst hg
            obtain ⟨m, hm⟩ : ∃ m, m = vs.length := ⟨_, rfl⟩
            rw [← hm] at HO5 ⊢
            have HM := Lib.hid hm
            have hmI : (m : Int) ≤ 1302 := by have := HT2.out.le; omega
            have HVC := Lib.hid (HO5.out.cells hm)
            clear hm hg1 hg2
            go_loopw [9, 10] (fun f j wr => ∃ j' : Nat, j' ≤ m ∧ j = .int .i64 j' ∧ f = .bool (decide (u ∈ vs.take j')) ∧ Hid (Below w5.heap.size w5 wr)) (fun _ j _ => m - (intOf j).toNat)
            case atStart => exact ⟨0, Nat.zero_le _, rfl, by simp, Below.refl _ _⟩
            case round =>
              obtain ⟨j, hj, rfl, rfl, HW6⟩ := hrel
              obtain ⟨w6, hw6⟩ : ∃ w6, w6 = wr := ⟨_, rfl⟩
              subst hw6
              obtain ⟨F, hF⟩ : ∃ F, F = decide (u ∈ vs.take j) := ⟨_, rfl⟩
              rw [← hF]
              have HF := Lib.hid hF
              clear hF
              have hj0 : (0 : Int) ≤ j := by omega
              by_cases hjm : j < m
              · have hjmI : (j : Int) < m := by omega
                obtain ⟨x, hx⟩ : ∃ x, vs[j]? = some x := ⟨vs[j]'(by rw [← HM.out]; exact hjm), List.getElem?_eq_getElem _⟩
                have HNX : Hid (decide (u ∈ vs.take (j + 1)) = (F || decide (x = u))) := by
                  show _ = _
                  rw [HF.out, Bool.eq_iff_iff]
                  simp only [Bool.or_eq_true, decide_eq_true_eq]
                  exact mem_take_succ hx
                cases F with
                | true =>
                  clear hx
                  go_wp2
                  go_quiet (fail)
                  go_wp2
                  go_roundw
                  case rel => exact ⟨j + 1, by omega, by go_num, by rw [HNX.out]; rfl, ⟨HW6.out.os, HW6.out.tape, HW6.out.output, HW6.out.size, HW6.out.block⟩⟩
                  case measure => simp [intOf]; omega
                | false =>
                  have la : ∀ k, (wayLoad ⟨g, j * 17, none⟩).run Try.prog (w6.drewN k) = .ok (.agg (wc x)) (w6.drewN k) := fun k => run_wayLoad fun i u hu => by
                    have := (HVC.out.later HW6.out).way hx i u hu
                    rw [show (⟨g, 0, none⟩ : Addr).add (j * 17) = ⟨g, j * 17, none⟩ by rw [add_here, Nat.zero_add]] at this
                    exact this
                  have lb : ∀ k, (wayLoad ⟨bx, 0, none⟩).run Try.prog (w6.drewN k) = .ok (.agg (wc u)) (w6.drewN k) := fun k => run_wayLoad fun i u hu => (HWL.out.later HW6.out) i u hu
                  have hxo := HT2.out.low x (List.mem_of_getElem? hx)
                  have he := fun W => run_wayEql hxo.1 HUL.out (by have := hxo.2; omega) W
                  clear hx hxo
                  go_wp2
                  go_quiet (fail)
                  go_wp2
                  go_roundw
                  case rel => exact ⟨j + 1, by omega, by go_num, by rw [HNX.out]; simp, ⟨HW6.out.os, HW6.out.tape, HW6.out.output, HW6.out.size, HW6.out.block⟩⟩
                  case measure => simp [intOf]; omega
              · obtain rfl : j = m := by omega
                have hjjI : ¬ (j : Int) < j := by omega
                have HFM : Hid (F = decide (u ∈ vs)) := by
                  have h := HF.out
                  rw [List.take_of_length_le (by rw [← HM.out]; exact Nat.le_refl _)] at h
                  exact h
                have HST : Hid ((T.along r.pre.key (k + 1)).ws = if u ∈ vs then vs else vs ++ [u]) := by
                  show ((T.along r.pre.key k).step (pathN r.pre.key (k + 1))).ws = _
                  rw [← HU.out, HVS.out]
                  unfold Tr.step
                  split <;> rfl
                have HWF := Lib.hid (HW5.out.trans (HW6.out.mono HW5.out.size))
                have HO6 := Lib.hid (HO5.out.later HW6.out)
                cases F with
                | true =>
                  go_wp2
                  go_roundw
                  case rel => exact ⟨k + 1, by omega, by push_cast; go_num, by have h := HST.out; rw [if_pos (by have := HFM.out; simpa using this.symm)] at h; rw [h]; exact HO6.out, HWF.out⟩
                  case measure => simp [intOf]; omega
                | false =>
                  have lb : (wayLoad ⟨bx, 0, none⟩).run Try.prog w6 = .ok (.agg (wc u)) w6 := run_wayLoad fun i u hu => (HWL.out.later HW6.out) i u hu
                  have hbd := fun W => run_waysBuild u W
                  have hal : Below w6.heap.size w6 (w6.alloc (.cells (wc u) 98)) := (Below.refl _ _).alloc (Nat.le_refl _) _
                  have HOW := Lib.hid (HO6.out.later hal)
                  have HNEW := Lib.hid (newWay w6 u)
                  have HAL := Lib.hid hal
                  have HSZ : Hid (w.heap.size ≤ w6.heap.size) := HWF.out.size
                  obtain ⟨i0, q0, q1, q2, q3⟩ := infoWay'
                  have Q0 := Lib.hid q0
                  have Q1 := Lib.hid q1
                  have Q2 := Lib.hid q2
                  have Q3 := Lib.hid q3
                  clear hal q0 q1 q2 q3
                  go_wp2_with (at_builtin; refine wpList_append_own _ rfl _ _ 95 rfl w.heap.size 98 i0 (.agg (wc [])) 17 24 Try.underlying95 Q0.out Q1.out Q2.out Q3.out (wc_size _) (by decide) _ vs.length (fw vs) rfl (by rw [← HM.out]; have h := HOW.out; unfold OwnW at h; rw [← HM.out] at h; exact h) ⟨w6.heap.size, 0, none⟩ 1 1 (wl u) rfl (wl_length u) HNEW.out (wl_one u) (by have := HM.out; simp only [maxLen]; omega) (by have := HM.out; omega) (by have := HSZ.out; simp; omega) ?_)
                  intro v' wz hown' hg _
                  have hb3 := (HWF.out.trans (HAL.out.mono HSZ.out)).grown hg (Nat.le_trans HSZ.out HAL.out.size) (fun k hk => (World.ownsRow.lt HOW.out k hk).1)
                  have hown3 : OwnW wz w.heap.size v' (vs ++ [u]) := by unfold OwnW; rw [List.length_append, fw_append, fw_one]; exact hown'
                  clear hown' hg lb hbd
                  go_wp2
                  go_roundw
                  case rel => exact ⟨k + 1, by omega, by push_cast; go_num, by have h := HST.out; rw [if_neg (by have := HFM.out; simpa using this.symm)] at h; rw [h]; exact hown3, hb3⟩
                  case measure => simp [intOf]; omega
          · have hkqI : ¬ (k : Int) + 1 ≤ q := by omega
            obtain rfl : k = q := by omega
            go_wp2
            go_roundw
            case rel => exact ⟨i + 1, by omega, by go_num, by have h := HSN.out; rw [if_pos HBT.out, ← HQ.out] at h; rw [h]; exact HO3.out, HW3.out⟩
            case measure => simp [intOf]; omega
      · have hne : (r.pre.bits != bits) = true := by simp [hbt]
        have HNB := Lib.hid hbt
        clear hbt
        go_wp2
        go_roundw
        case rel => exact ⟨i + 1, by omega, by go_num, by have h := HSN.out; rw [if_neg HNB.out] at h; rw [h]; exact HO.out, HW.out⟩
        case measure => simp [intOf]; omega
    · obtain rfl : i = n := by omega
      go_wp2
      go_ret
      have hO := HO.out
      rw [List.take_of_length_le (by rw [← HN.out]; exact Nat.le_refl _)] at hO
      exact ⟨_, rfl, hO, HW.out⟩
end Go.Proofs.Ytggjcjijoihilaa
