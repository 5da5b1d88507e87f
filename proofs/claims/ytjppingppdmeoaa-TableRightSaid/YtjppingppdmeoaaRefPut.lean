/- bywayref03.Put: a table with a route more, or another one in its prefix's place. -/
import Derived.Test.YtjppingppdmeoaaRefLists
import Derived.Test.YtjppingppdmeoaaTabChange
import Derived.Test.YtjppingppdmeoaaRefBit
import Derived.Deep.RegionHeld3
namespace Go.Proofs.Ytjppingppdmeoaa
open Go.RowKit Go.Sort Go.Shelf
attribute [local go_sem ↓] loadVar_key loadVar_pre loadVar_route storeVar_pre storeVar_route buildSlice_row binOp_preNeq

theorem run_preNeq (p q : Pre) (w : World) : (preNeq (.agg (pc p)) (.agg (pc q))).run Try.prog w = .ok (.bool (!preEq p q)) w := by
  unfold preNeq
  rw [run_neq_struct]
  have h : (Op.equalIn 10000 26 (.agg (pc p)) (.agg (pc q))).run Try.prog w = .ok (preEq p q) w := run_equalPre 9996 p q w
  rw [h]; rfl

set_option maxHeartbeats 4000000 in
set_option maxRecDepth 100000 in
theorem rput_any (l : List Rt) (r : Rt) (hl : l.length ≤ 60000) (v : Value) (w : World) (hR : Rd w v l) :
    Calls Try.prog 52 #[v, .agg (rc r)] w (ListPost w (putGo r l false)) := by
  have hb0 : Below w.heap.size w (w.alloc (.cells (rc r) 34)) := (Below.refl _ _).alloc (Nat.le_refl _) _
  have rn := newRoute w r
  obtain ⟨W0, hW0⟩ : ∃ W0, w.alloc (.cells (rc r) 34) = W0 := ⟨_, rfl⟩
  have hz0 : W0.heap.size = w.heap.size + 1 := by rw [← hW0]; simp
  rw [hW0] at hb0 rn
  have T : ∀ W, Below W0.heap.size W0 W → CellsAt W ⟨w.heap.size, 0, none⟩ (rl r) ∧ Rd W v l ∧ Below w.heap.size w W := fun W h =>
    ⟨rn.later h, hR.later (hb0.trans (h.mono (by omega))), hb0.trans (h.mono (by omega))⟩
  have HT := Lib.hid T
  have HZ : Hid (w.heap.size ≤ W0.heap.size) := hb0.size
  obtain ⟨a, cap, hv, -⟩ := rd_len hR
  obtain ⟨n, hn⟩ : ∃ n, n = l.length := ⟨_, rfl⟩
  rw [← hn] at hv hl
  have hlI : (n : Int) ≤ 60000 := by omega
  have HN := Lib.hid hn
  have HL : Hid (n ≤ 60000) := hl
  subst hv
  obtain ⟨i0, hi0, hz0', hz1, hz2⟩ := infoR'
  have H0 := Lib.hid hi0
  have H1 := Lib.hid hz0'
  have H2 := Lib.hid hz1
  have H3 := Lib.hid hz2
  have hbase : Hid (Below W0.heap.size W0 (w.alloc (.cells (rc r) 34))) := by rw [hW0]; exact Below.refl _ _
  obtain ⟨X, hX⟩ : ∃ X, X = putGo r l false := ⟨_, rfl⟩
  rw [← hX]
  have HX := Lib.hid hX
  clear hR hn hi0 hz0' hz1 hz2 hl T hb0 rn hz0 hW0 hX
  unfold ListPost
  go_enter Try.func52, Try.ntmps52
  go_wp2
  go_loopw [5, 6, 7] (fun q d t wr => ∃ (i : Nat) (d' : Bool) (o : List Rt), i ≤ n ∧ t = .int .i64 i ∧ d = .bool d' ∧ Hid (Own wr W0.heap.size q o) ∧ Hid (o ++ putGo r (l.drop i) d' = X) ∧ Hid (o.length ≤ i + if d' = true then 1 else 0) ∧ Hid (Below W0.heap.size W0 wr)) (fun _ _ t _ => n - (intOf t).toNat)
  case atStart => exact ⟨0, false, [], Nat.zero_le _, rfl, rfl, own_nil _ _, by show _ = _; rw [HX.out]; rfl, by show _ ≤ _; simp, hbase⟩
  case round =>
    obtain ⟨i, d, o, hi, rfl, rfl, HO, HEQ, HLO, HW⟩ := hrel
    by_cases hlt : i < n
    · have hltI : (i : Int) < n := by omega
      have hi0 : (0 : Int) ≤ i := by omega
      obtain ⟨s, hrr⟩ : ∃ s, l[i]? = some s := ⟨l[i]'(by rw [← HN.out]; exact hlt), List.getElem?_eq_getElem _⟩
      obtain ⟨a', rfl, hca⟩ : ∃ a', a = some a' ∧ CellsAt wr a' (fl l) := by
        rcases (HT.out wr HW.out).2.1 with ⟨h, hnil⟩ | ⟨a', cap', h, _, _, hc⟩
        · exfalso; rw [hnil] at hrr; cases hrr
        · simp only [Value.slice.injEq] at h
          exact ⟨a', h.1, hc⟩
      have HF : Hid (∀ W, Below W0.heap.size W0 W → (preLoad (a'.add (i * 19))).run Try.prog W = .ok (.agg (pc s.pre)) W ∧ (preLoad ⟨w.heap.size, 0, none⟩).run Try.prog W = .ok (.agg (pc r.pre)) W ∧ (routeLoad (a'.add (i * 19))).run Try.prog W = .ok (.agg (rc s)) W ∧ (routeLoad ⟨w.heap.size, 0, none⟩).run Try.prog W = .ok (.agg (rc r)) W) := fun W h => by
        obtain ⟨h1, h2, -⟩ := HT.out W h
        rcases h2 with ⟨h2, -⟩ | ⟨a2, cap', h2, _, _, hc⟩
        · simp at h2
        · simp only [Value.slice.injEq, Option.some.injEq] at h2
          obtain ⟨rfl, -, -⟩ := h2
          exact ⟨run_preLoadA (hc.route hrr).pre, run_preLoadA h1.pre, run_routeLoad (hc.route hrr), run_routeLoad h1⟩
      have hdrop : l.drop i = s :: l.drop (i + 1) := by
        have hlt2 : i < l.length := by rw [← HN.out]; exact hlt
        rw [List.drop_eq_getElem_cons hlt2]
        rw [List.getElem?_eq_getElem hlt2] at hrr
        simp only [Option.some.injEq] at hrr
        rw [hrr]
      have HQ : Hid (o ++ putGo r (s :: l.drop (i + 1)) d = X) := by show _ = _; rw [← hdrop]; exact HEQ.out
      have HLE := Lib.hid (fun W => rless_any s.pre r.pre s.hk r.hk W)
      clear hca hrr hdrop
      cases d with
      | true =>
        go_wp2
        refine wp_region_held_drew (S := (fun w' => (preLoad (a'.add (i * 19))).run Try.prog w' = .ok (.agg (pc s.pre)) w' ∧ (preLoad ⟨w.heap.size, 0, none⟩).run Try.prog w' = .ok (.agg (pc r.pre)) w')) (by kernel_rfl) (⟨(HF.out _ (HW.out.trans ((Below.refl wr.heap.size wr).drew.mono HW.out.size))).1, (HF.out _ (HW.out.trans ((Below.refl wr.heap.size wr).drew.mono HW.out.size))).2.1⟩) (fun hHeld => ?_)
        refine wpAnyH_take (i := 0) (oi := { dst := some 14, op := Go.Op.move (Go.Operand.tmp 6), type := 4, pos := "ref.go:57", after := #[], guard := none }) (v := ?v0t) rfl (by kernel_rfl) (by kernel_rfl) (by kernel_rfl) (fun _ _ _ h => h) (Or.inl ⟨by rfl, ?hy0t⟩) (by assumption) ?rest0t
        case hy0t => intro w hSw; (try dsimp only at hSw); go_simp; try with_reducible rfl
        try simp only [Act.put, List.setIfInBounds_toArray, List.set_cons_zero, List.set_cons_succ]
        refine wpAnyH_take (i := 1) (oi := { dst := some 15, op := Go.Op.unOp Go.UnOp.not 4 (Go.Operand.tmp 14), type := 4, pos := "ref.go:57", after := #[{ on := 0, ground := Go.Ground.data }], guard := none }) (v := ?v1t) rfl (by kernel_rfl) (by kernel_rfl) (by kernel_rfl) (fun _ _ _ h => h) (Or.inl ⟨by rfl, ?hy1t⟩) (by assumption) ?rest1t
        case hy1t => intro w hSw; (try dsimp only at hSw); go_simp; try with_reducible rfl
        try simp only [Act.put, List.setIfInBounds_toArray, List.set_cons_zero, List.set_cons_succ]
        refine wpAnyH_take (i := 2) (oi := { dst := some 16, op := Go.Op.move (Go.Operand.tmp 15), type := 4, pos := "ref.go:57", after := #[{ on := 1, ground := Go.Ground.data }], guard := none }) (v := ?v2t) rfl (by kernel_rfl) (by kernel_rfl) (by kernel_rfl) (fun _ _ _ h => h) (Or.inl ⟨by rfl, ?hy2t⟩) (by assumption) ?rest2t
        case hy2t => intro w hSw; (try dsimp only at hSw); go_simp; try with_reducible rfl
        try simp only [Act.put, List.setIfInBounds_toArray, List.set_cons_zero, List.set_cons_succ]
        refine wpAnyH_take (i := 3) (oi := { dst := some 17, op := Go.Op.move (Go.Operand.tmp 0), type := 22, pos := "ref.go:57", after := #[{ on := 2, ground := Go.Ground.guard }], guard := some (2, true) }) rfl (by kernel_rfl) (by kernel_rfl) (by kernel_rfl) (fun _ _ _ h => h) (Or.inr ⟨by rfl, rfl⟩) (by assumption) ?_
        try simp only [Act.put, List.setIfInBounds_toArray, List.set_cons_zero, List.set_cons_succ]
        refine wpAnyH_take (i := 4) (oi := { dst := some 18, op := Go.Op.move (Go.Operand.tmp 7), type := 3, pos := "ref.go:57", after := #[{ on := 2, ground := Go.Ground.guard }], guard := some (2, true) }) rfl (by kernel_rfl) (by kernel_rfl) (by kernel_rfl) (fun _ _ _ h => h) (Or.inr ⟨by rfl, rfl⟩) (by assumption) ?_
        try simp only [Act.put, List.setIfInBounds_toArray, List.set_cons_zero, List.set_cons_succ]
        refine wpAnyH_take (i := 5) (oi := { dst := some 19, op := Go.Op.indexAddr 22 (Go.Operand.tmp 17) (Go.Operand.tmp 18), type := 0, pos := "ref.go:57", after := #[{ on := 3, ground := Go.Ground.data }, { on := 4, ground := Go.Ground.data }, { on := 2, ground := Go.Ground.guard }], guard := some (2, true) }) rfl (by kernel_rfl) (by kernel_rfl) (by kernel_rfl) (fun _ _ _ h => h) (Or.inr ⟨by rfl, rfl⟩) (by assumption) ?_
        try simp only [Act.put, List.setIfInBounds_toArray, List.set_cons_zero, List.set_cons_succ]
        refine wpAnyH_take (i := 6) (oi := { dst := some 20, op := Go.Op.fieldAddr 34 (Go.Operand.tmp 19) 0, type := 0, pos := "ref.go:57", after := #[{ on := 5, ground := Go.Ground.data }, { on := 2, ground := Go.Ground.guard }], guard := some (2, true) }) rfl (by kernel_rfl) (by kernel_rfl) (by kernel_rfl) (fun _ _ _ h => h) (Or.inr ⟨by rfl, rfl⟩) (by assumption) ?_
        try simp only [Act.put, List.setIfInBounds_toArray, List.set_cons_zero, List.set_cons_succ]
        refine wpAnyH_take (i := 7) (oi := { dst := some 21, op := Go.Op.load 26 (Go.Operand.tmp 20), type := 26, pos := "ref.go:57", after := #[{ on := 6, ground := Go.Ground.data }, { on := 2, ground := Go.Ground.guard }], guard := some (2, true) }) rfl (by kernel_rfl) (by kernel_rfl) (by kernel_rfl) (fun _ _ _ h => h) (Or.inr ⟨by rfl, rfl⟩) (by assumption) ?_
        try simp only [Act.put, List.setIfInBounds_toArray, List.set_cons_zero, List.set_cons_succ]
        refine wpAnyH_take (i := 8) (oi := { dst := some 22, op := Go.Op.fieldAddr 34 (Go.Operand.tmp 3) 0, type := 0, pos := "ref.go:57", after := #[{ on := 2, ground := Go.Ground.guard }], guard := some (2, true) }) rfl (by kernel_rfl) (by kernel_rfl) (by kernel_rfl) (fun _ _ _ h => h) (Or.inr ⟨by rfl, rfl⟩) (by assumption) ?_
        try simp only [Act.put, List.setIfInBounds_toArray, List.set_cons_zero, List.set_cons_succ]
        refine wpAnyH_take (i := 9) (oi := { dst := some 23, op := Go.Op.load 26 (Go.Operand.tmp 22), type := 26, pos := "ref.go:57", after := #[{ on := 8, ground := Go.Ground.data }, { on := 2, ground := Go.Ground.guard }], guard := some (2, true) }) rfl (by kernel_rfl) (by kernel_rfl) (by kernel_rfl) (fun _ _ _ h => h) (Or.inr ⟨by rfl, rfl⟩) (by assumption) ?_
        try simp only [Act.put, List.setIfInBounds_toArray, List.set_cons_zero, List.set_cons_succ]
        refine wpAnyH_take (i := 10) (oi := { dst := some 24, op := Go.Op.call { callee := Go.Callee.value (Go.Operand.func 42), args := #[Go.Operand.tmp 21, Go.Operand.tmp 23], argTypes := #[26, 26] }, type := 4, pos := "ref.go:57", after := #[{ on := 7, ground := Go.Ground.data }, { on := 9, ground := Go.Ground.data }, { on := 2, ground := Go.Ground.chain }, { on := 2, ground := Go.Ground.guard }], guard := some (2, true) }) rfl (by kernel_rfl) (by kernel_rfl) (by kernel_rfl) (fun _ _ _ h => h) (Or.inr ⟨by rfl, rfl⟩) (by assumption) ?_
        try simp only [Act.put, List.setIfInBounds_toArray, List.set_cons_zero, List.set_cons_succ]
        refine wpAnyH_take (i := 11) (oi := { dst := some 25, op := Go.Op.unOp Go.UnOp.not 4 (Go.Operand.tmp 24), type := 4, pos := "ref.go:57", after := #[{ on := 10, ground := Go.Ground.data }, { on := 2, ground := Go.Ground.guard }], guard := some (2, true) }) rfl (by kernel_rfl) (by kernel_rfl) (by kernel_rfl) (fun _ _ _ h => h) (Or.inr ⟨by rfl, rfl⟩) (by assumption) ?_
        try simp only [Act.put, List.setIfInBounds_toArray, List.set_cons_zero, List.set_cons_succ]
        refine wpAnyH_take (i := 12) (oi := { dst := some 26, op := Go.Op.pick (Go.Operand.tmp 16) (Go.Operand.tmp 25) (Go.Operand.const (Go.Value.bool false)), type := 4, pos := "ref.go:57", after := #[{ on := 2, ground := Go.Ground.data }, { on := 11, ground := Go.Ground.data }], guard := none }) (v := ?v12t) rfl (by kernel_rfl) (by kernel_rfl) (by kernel_rfl) (fun _ _ _ h => h) (Or.inl ⟨by rfl, ?hy12t⟩) (by assumption) ?rest12t
        case hy12t => intro w hSw; (try dsimp only at hSw); go_simp; try with_reducible rfl
        try simp only [Act.put, List.setIfInBounds_toArray, List.set_cons_zero, List.set_cons_succ]
        refine wpAnyH_done (by kernel_rfl) ?_ _
        clear hHeld HLE
        obtain ⟨wq, hwq⟩ : ∃ wq, wr.drew = wq := ⟨_, rfl⟩
        have HBQ0 : Hid (Below W0.heap.size W0 wq) := by rw [← hwq]; exact (HW.out.trans ((Below.refl wr.heap.size wr).drew.mono HW.out.size))
        rw [hwq]
        have HOQ : Hid (Own wq W0.heap.size u5 o) := by rw [← hwq]; exact HO.out.later (Below.refl wr.heap.size wr).drew
        clear hwq
        have HE1 : Hid (o ++ ((if preEq s.pre r.pre = true then [] else [s]) ++ putGo r (l.drop (i + 1)) true) = X) := by show _ = _; have h := HQ.out; unfold putGo at h; simpa using h
        have HBQt : Hid (Below W0.heap.size W0 wq) := HBQ0.out
        have HDt : Hid (∀ k, Below W0.heap.size W0 (wq.drewN k)) := fun k => ⟨HBQt.out.os, HBQt.out.tape, HBQt.out.output, HBQt.out.size, HBQt.out.block⟩
        have HQQt : Hid (∀ k, Below wq.heap.size wq (wq.drewN k)) := fun k => ⟨(Below.refl wq.heap.size wq).os, (Below.refl wq.heap.size wq).tape, (Below.refl wq.heap.size wq).output, (Below.refl wq.heap.size wq).size, (Below.refl wq.heap.size wq).block⟩
        have l1 : ∀ k, (preLoad (a'.add (i * 19))).run Try.prog (wq.drewN k) = .ok (.agg (pc s.pre)) (wq.drewN k) := fun k => (HF.out _ (HDt.out k)).1
        have l2 : ∀ k, (preLoad ⟨w.heap.size, 0, none⟩).run Try.prog (wq.drewN k) = .ok (.agg (pc r.pre)) (wq.drewN k) := fun k => (HF.out _ (HDt.out k)).2.1
        have le := run_preNeq s.pre r.pre
        cases heq : preEq s.pre r.pre with
        | true =>
          rw [heq] at le
          have HE2 : Hid (o ++ putGo r (l.drop (i + 1)) true = X) := by show _ = _; have h := HE1.out; rw [heq] at h; simpa using h
          clear heq
          go_wp2
          go_quiet (fail)
          clear l1 l2 le
          go_wp2
          go_roundw
          case rel => exact ⟨i + 1, true, o, by omega, by go_num, rfl, (HOQ.out).later (HQQt.out _), HE2.out, (by have := HLO.out; show _ ≤ _; simp at this ⊢; omega), HDt.out _⟩
          case measure => simp [intOf]; omega
        | false =>
          rw [heq] at le
          have HE2 : Hid ((o ++ [s]) ++ putGo r (l.drop (i + 1)) true = X) := by show _ = _; have h := HE1.out; rw [heq] at h; simpa using h
          clear heq
          go_wp2
          go_quiet (fail)
          clear l1 l2 le
          obtain ⟨wp', hwp⟩ : ∃ wp', wq.drewN nq = wp' := ⟨_, rfl⟩
          have hbp : Below W0.heap.size W0 wp' := by rw [← hwp]; exact HDt.out _
          have hop : Own wp' W0.heap.size u5 o := by rw [← hwp]; exact (HOQ.out).later (HQQt.out _)
          rw [hwp]
          clear hwp
          have ld := (HF.out _ hbp).2.2.1
          have hbd := run_rowBuild s wp'
          have hwb := hbp
          have HQL : Hid (o.length ≤ 60001) := by have h1 := HLO.out; have h2 := HL.out; show _ ≤ _; simp at h1 ⊢; omega
          have halz : Below wp'.heap.size wp' (wp'.alloc (.cells (rc s) 34)) := (Below.refl _ _).alloc (Nat.le_refl _) _
          have hownz := (hop).later halz
          have hnewz := newRoute wp' s
          have hszz : W0.heap.size ≤ wp'.heap.size := (hwb).size
          go_wp2_with (at_builtin; refine wpList_append_own _ rfl _ _ 22 rfl W0.heap.size 34 i0 (.agg (rc zrt)) 19 40 Try.underlying22 H0.out H1.out H2.out H3.out (rc_size _) (by decide) _ o.length (fl o) rfl hownz ⟨wp'.heap.size, 0, none⟩ 1 1 (rl s) rfl (rl_length s) hnewz (rl_one s) (by have := HQL.out; simp only [maxLen]; omega) (by have := HQL.out; omega) (by have := (hwb).size; simp; omega) ?_)
          intro vz wz hown' hg _
          have HBz : Hid (Below W0.heap.size W0 wz) := ((hwb).trans (halz.mono hszz)).grown hg (Nat.le_trans hszz halz.size) (fun k hk => (hownz.lt k hk).1)
          have HOz : Hid (Own wz W0.heap.size vz (o ++ [s])) := by show Own _ _ _ _; unfold Own; rw [List.length_append, fl_append, fl_one]; exact hown'
          clear hown' hg hownz halz hnewz hszz
          clear ld hbd hbp hop hwb
          go_wp2
          go_roundw
          case rel => exact ⟨i + 1, true, o ++ [s], by omega, by go_num, rfl, HOz.out, HE2.out, (by have := HLO.out; show _ ≤ _; simp at this ⊢; omega), HBz.out⟩
          case measure => simp [intOf]; omega
      | false =>
        cases hle : lessB s.pre r.pre with
        | true =>
          rw [hle] at HLE
          go_wp2
          refine wp_region_held_drew (S := (fun w' => (preLoad (a'.add (i * 19))).run Try.prog w' = .ok (.agg (pc s.pre)) w' ∧ (preLoad ⟨w.heap.size, 0, none⟩).run Try.prog w' = .ok (.agg (pc r.pre)) w')) (by kernel_rfl) (⟨(HF.out _ (HW.out.trans ((Below.refl wr.heap.size wr).drew.mono HW.out.size))).1, (HF.out _ (HW.out.trans ((Below.refl wr.heap.size wr).drew.mono HW.out.size))).2.1⟩) (fun hHeld => ?_)
          refine wpAnyH_take (i := 0) (oi := { dst := some 14, op := Go.Op.move (Go.Operand.tmp 6), type := 4, pos := "ref.go:57", after := #[], guard := none }) (v := ?v0u) rfl (by kernel_rfl) (by kernel_rfl) (by kernel_rfl) (fun _ _ _ h => h) (Or.inl ⟨by rfl, ?hy0u⟩) (by assumption) ?rest0u
          case hy0u => intro w hSw; (try dsimp only at hSw); go_simp; try with_reducible rfl
          try simp only [Act.put, List.setIfInBounds_toArray, List.set_cons_zero, List.set_cons_succ]
          refine wpAnyH_take (i := 1) (oi := { dst := some 15, op := Go.Op.unOp Go.UnOp.not 4 (Go.Operand.tmp 14), type := 4, pos := "ref.go:57", after := #[{ on := 0, ground := Go.Ground.data }], guard := none }) (v := ?v1u) rfl (by kernel_rfl) (by kernel_rfl) (by kernel_rfl) (fun _ _ _ h => h) (Or.inl ⟨by rfl, ?hy1u⟩) (by assumption) ?rest1u
          case hy1u => intro w hSw; (try dsimp only at hSw); go_simp; try with_reducible rfl
          try simp only [Act.put, List.setIfInBounds_toArray, List.set_cons_zero, List.set_cons_succ]
          refine wpAnyH_take (i := 2) (oi := { dst := some 16, op := Go.Op.move (Go.Operand.tmp 15), type := 4, pos := "ref.go:57", after := #[{ on := 1, ground := Go.Ground.data }], guard := none }) (v := ?v2u) rfl (by kernel_rfl) (by kernel_rfl) (by kernel_rfl) (fun _ _ _ h => h) (Or.inl ⟨by rfl, ?hy2u⟩) (by assumption) ?rest2u
          case hy2u => intro w hSw; (try dsimp only at hSw); go_simp; try with_reducible rfl
          try simp only [Act.put, List.setIfInBounds_toArray, List.set_cons_zero, List.set_cons_succ]
          refine wpAnyH_take (i := 3) (oi := { dst := some 17, op := Go.Op.move (Go.Operand.tmp 0), type := 22, pos := "ref.go:57", after := #[{ on := 2, ground := Go.Ground.guard }], guard := some (2, true) }) (v := ?v3u) rfl (by kernel_rfl) (by kernel_rfl) (by kernel_rfl) (fun _ _ _ h => h) (Or.inl ⟨by rfl, ?hy3u⟩) (by assumption) ?rest3u
          case hy3u => intro w hSw; (try dsimp only at hSw); go_simp; try with_reducible rfl
          try simp only [Act.put, List.setIfInBounds_toArray, List.set_cons_zero, List.set_cons_succ]
          refine wpAnyH_take (i := 4) (oi := { dst := some 18, op := Go.Op.move (Go.Operand.tmp 7), type := 3, pos := "ref.go:57", after := #[{ on := 2, ground := Go.Ground.guard }], guard := some (2, true) }) (v := ?v4u) rfl (by kernel_rfl) (by kernel_rfl) (by kernel_rfl) (fun _ _ _ h => h) (Or.inl ⟨by rfl, ?hy4u⟩) (by assumption) ?rest4u
          case hy4u => intro w hSw; (try dsimp only at hSw); go_simp; try with_reducible rfl
          try simp only [Act.put, List.setIfInBounds_toArray, List.set_cons_zero, List.set_cons_succ]
          refine wpAnyH_take (i := 5) (oi := { dst := some 19, op := Go.Op.indexAddr 22 (Go.Operand.tmp 17) (Go.Operand.tmp 18), type := 0, pos := "ref.go:57", after := #[{ on := 3, ground := Go.Ground.data }, { on := 4, ground := Go.Ground.data }, { on := 2, ground := Go.Ground.guard }], guard := some (2, true) }) (v := ?v5u) rfl (by kernel_rfl) (by kernel_rfl) (by kernel_rfl) (fun _ _ _ h => h) (Or.inl ⟨by rfl, ?hy5u⟩) (by assumption) ?rest5u
          case hy5u => intro w hSw; (try dsimp only at hSw); go_simp; try with_reducible rfl
          try simp only [Act.put, List.setIfInBounds_toArray, List.set_cons_zero, List.set_cons_succ]
          refine wpAnyH_take (i := 6) (oi := { dst := some 20, op := Go.Op.fieldAddr 34 (Go.Operand.tmp 19) 0, type := 0, pos := "ref.go:57", after := #[{ on := 5, ground := Go.Ground.data }, { on := 2, ground := Go.Ground.guard }], guard := some (2, true) }) (v := ?v6u) rfl (by kernel_rfl) (by kernel_rfl) (by kernel_rfl) (fun _ _ _ h => h) (Or.inl ⟨by rfl, ?hy6u⟩) (by assumption) ?rest6u
          case hy6u => intro w hSw; (try dsimp only at hSw); go_simp; try with_reducible rfl
          try simp only [Act.put, List.setIfInBounds_toArray, List.set_cons_zero, List.set_cons_succ]
          refine wpAnyH_take (i := 7) (oi := { dst := some 21, op := Go.Op.load 26 (Go.Operand.tmp 20), type := 26, pos := "ref.go:57", after := #[{ on := 6, ground := Go.Ground.data }, { on := 2, ground := Go.Ground.guard }], guard := some (2, true) }) (v := ?v7u) rfl (by kernel_rfl) (by kernel_rfl) (by kernel_rfl) (fun _ _ _ h => h) (Or.inl ⟨by rfl, ?hy7u⟩) (by assumption) ?rest7u
          case hy7u => intro w hSw; (try dsimp only at hSw); go_simp; try with_reducible rfl
          try simp only [Act.put, List.setIfInBounds_toArray, List.set_cons_zero, List.set_cons_succ]
          refine wpAnyH_take (i := 8) (oi := { dst := some 22, op := Go.Op.fieldAddr 34 (Go.Operand.tmp 3) 0, type := 0, pos := "ref.go:57", after := #[{ on := 2, ground := Go.Ground.guard }], guard := some (2, true) }) (v := ?v8u) rfl (by kernel_rfl) (by kernel_rfl) (by kernel_rfl) (fun _ _ _ h => h) (Or.inl ⟨by rfl, ?hy8u⟩) (by assumption) ?rest8u
          case hy8u => intro w hSw; (try dsimp only at hSw); go_simp; try with_reducible rfl
          try simp only [Act.put, List.setIfInBounds_toArray, List.set_cons_zero, List.set_cons_succ]
          refine wpAnyH_take (i := 9) (oi := { dst := some 23, op := Go.Op.load 26 (Go.Operand.tmp 22), type := 26, pos := "ref.go:57", after := #[{ on := 8, ground := Go.Ground.data }, { on := 2, ground := Go.Ground.guard }], guard := some (2, true) }) (v := ?v9u) rfl (by kernel_rfl) (by kernel_rfl) (by kernel_rfl) (fun _ _ _ h => h) (Or.inl ⟨by rfl, ?hy9u⟩) (by assumption) ?rest9u
          case hy9u => intro w hSw; (try dsimp only at hSw); go_simp; try with_reducible rfl
          try simp only [Act.put, List.setIfInBounds_toArray, List.set_cons_zero, List.set_cons_succ]
          refine wpAnyH_ready (rs := [10]) (by kernel_rfl) (by simp) ?_
          refine AllReadyH.cons (o := { dst := some 24, op := Go.Op.call { callee := Go.Callee.value (Go.Operand.func 42), args := #[Go.Operand.tmp 21, Go.Operand.tmp 23], argTypes := #[26, 26] }, type := 4, pos := "ref.go:57", after := #[{ on := 7, ground := Go.Ground.data }, { on := 9, ground := Go.Ground.data }, { on := 2, ground := Go.Ground.chain }, { on := 2, ground := Go.Ground.guard }], guard := some (2, true) }) rfl (fun K hK => ?_) AllReadyH.nil
          go_simp
          go_at_call 42
          refine (HLE.out _).mono ?_
          rintro e7 w7 ⟨rfl, h7'⟩
          have h7 : Below wr.heap.size wr w7 := (Below.refl wr.heap.size wr).drew.trans h7'
          go_simp
          refine hK.out _ _ (⟨(HF.out _ (HW.out.trans (h7.mono HW.out.size))).1, (HF.out _ (HW.out.trans (h7.mono HW.out.size))).2.1⟩) (fun hHeld => ?_)
          clear hK K h7'
          try simp only [Act.put, List.setIfInBounds_toArray, List.set_cons_zero, List.set_cons_succ]
          refine wpAnyH_take (i := 11) (oi := { dst := some 25, op := Go.Op.unOp Go.UnOp.not 4 (Go.Operand.tmp 24), type := 4, pos := "ref.go:57", after := #[{ on := 10, ground := Go.Ground.data }, { on := 2, ground := Go.Ground.guard }], guard := some (2, true) }) (v := ?v11u) rfl (by kernel_rfl) (by kernel_rfl) (by kernel_rfl) (fun _ _ _ h => h) (Or.inl ⟨by rfl, ?hy11u⟩) (by assumption) ?rest11u
          case hy11u => intro w hSw; (try dsimp only at hSw); go_simp; try with_reducible rfl
          try simp only [Act.put, List.setIfInBounds_toArray, List.set_cons_zero, List.set_cons_succ]
          refine wpAnyH_take (i := 12) (oi := { dst := some 26, op := Go.Op.pick (Go.Operand.tmp 16) (Go.Operand.tmp 25) (Go.Operand.const (Go.Value.bool false)), type := 4, pos := "ref.go:57", after := #[{ on := 2, ground := Go.Ground.data }, { on := 11, ground := Go.Ground.data }], guard := none }) (v := ?v12u) rfl (by kernel_rfl) (by kernel_rfl) (by kernel_rfl) (fun _ _ _ h => h) (Or.inl ⟨by rfl, ?hy12u⟩) (by assumption) ?rest12u
          case hy12u => intro w hSw; (try dsimp only at hSw); go_simp; try with_reducible rfl
          try simp only [Act.put, List.setIfInBounds_toArray, List.set_cons_zero, List.set_cons_succ]
          refine wpAnyH_done (by kernel_rfl) ?_ _
          have HW7 := Lib.hid h7
          clear hHeld HLE h7
          have HE1 : Hid (o ++ ((if preEq s.pre r.pre = true then [] else [s]) ++ putGo r (l.drop (i + 1)) false) = X) := by show _ = _; have h := HQ.out; unfold putGo at h; simpa [hle] using h
          have HOQ : Hid (Own w7 W0.heap.size u5 o) := HO.out.later HW7.out
          clear hle
          have HBQu : Hid (Below W0.heap.size W0 w7) := (HW.out.trans (HW7.out.mono HW.out.size))
          have HDu : Hid (∀ k, Below W0.heap.size W0 (w7.drewN k)) := fun k => ⟨HBQu.out.os, HBQu.out.tape, HBQu.out.output, HBQu.out.size, HBQu.out.block⟩
          have HQQu : Hid (∀ k, Below w7.heap.size w7 (w7.drewN k)) := fun k => ⟨(Below.refl w7.heap.size w7).os, (Below.refl w7.heap.size w7).tape, (Below.refl w7.heap.size w7).output, (Below.refl w7.heap.size w7).size, (Below.refl w7.heap.size w7).block⟩
          have l1 : ∀ k, (preLoad (a'.add (i * 19))).run Try.prog (w7.drewN k) = .ok (.agg (pc s.pre)) (w7.drewN k) := fun k => (HF.out _ (HDu.out k)).1
          have l2 : ∀ k, (preLoad ⟨w.heap.size, 0, none⟩).run Try.prog (w7.drewN k) = .ok (.agg (pc r.pre)) (w7.drewN k) := fun k => (HF.out _ (HDu.out k)).2.1
          have le := run_preNeq s.pre r.pre
          cases heq : preEq s.pre r.pre with
          | true =>
            rw [heq] at le
            have HE2 : Hid (o ++ putGo r (l.drop (i + 1)) false = X) := by show _ = _; have h := HE1.out; rw [heq] at h; simpa using h
            clear heq
            go_wp2
            go_quiet (fail)
            clear l1 l2 le
            go_wp2
            go_roundw
            case rel => exact ⟨i + 1, false, o, by omega, by go_num, rfl, (HOQ.out).later (HQQu.out _), HE2.out, (by have := HLO.out; show _ ≤ _; simp at this ⊢; omega), HDu.out _⟩
            case measure => simp [intOf]; omega
          | false =>
            rw [heq] at le
            have HE2 : Hid ((o ++ [s]) ++ putGo r (l.drop (i + 1)) false = X) := by show _ = _; have h := HE1.out; rw [heq] at h; simpa using h
            clear heq
            go_wp2
            go_quiet (fail)
            clear l1 l2 le
            obtain ⟨wp', hwp⟩ : ∃ wp', w7.drewN nq = wp' := ⟨_, rfl⟩
            have hbp : Below W0.heap.size W0 wp' := by rw [← hwp]; exact HDu.out _
            have hop : Own wp' W0.heap.size u5 o := by rw [← hwp]; exact (HOQ.out).later (HQQu.out _)
            rw [hwp]
            clear hwp
            have ld := (HF.out _ hbp).2.2.1
            have hbd := run_rowBuild s wp'
            have hwb := hbp
            have HQL : Hid (o.length ≤ 60001) := by have h1 := HLO.out; have h2 := HL.out; show _ ≤ _; simp at h1 ⊢; omega
            have halz : Below wp'.heap.size wp' (wp'.alloc (.cells (rc s) 34)) := (Below.refl _ _).alloc (Nat.le_refl _) _
            have hownz := (hop).later halz
            have hnewz := newRoute wp' s
            have hszz : W0.heap.size ≤ wp'.heap.size := (hwb).size
            go_wp2_with (at_builtin; refine wpList_append_own _ rfl _ _ 22 rfl W0.heap.size 34 i0 (.agg (rc zrt)) 19 40 Try.underlying22 H0.out H1.out H2.out H3.out (rc_size _) (by decide) _ o.length (fl o) rfl hownz ⟨wp'.heap.size, 0, none⟩ 1 1 (rl s) rfl (rl_length s) hnewz (rl_one s) (by have := HQL.out; simp only [maxLen]; omega) (by have := HQL.out; omega) (by have := (hwb).size; simp; omega) ?_)
            intro vz wz hown' hg _
            have HBz : Hid (Below W0.heap.size W0 wz) := ((hwb).trans (halz.mono hszz)).grown hg (Nat.le_trans hszz halz.size) (fun k hk => (hownz.lt k hk).1)
            have HOz : Hid (Own wz W0.heap.size vz (o ++ [s])) := by show Own _ _ _ _; unfold Own; rw [List.length_append, fl_append, fl_one]; exact hown'
            clear hown' hg hownz halz hnewz hszz
            clear ld hbd hbp hop hwb
            go_wp2
            go_roundw
            case rel => exact ⟨i + 1, false, o ++ [s], by omega, by go_num, rfl, HOz.out, HE2.out, (by have := HLO.out; show _ ≤ _; simp at this ⊢; omega), HBz.out⟩
            case measure => simp [intOf]; omega
        | false =>
          rw [hle] at HLE
          go_wp2
          refine wp_region_held_drew (S := (fun w' => (preLoad (a'.add (i * 19))).run Try.prog w' = .ok (.agg (pc s.pre)) w' ∧ (preLoad ⟨w.heap.size, 0, none⟩).run Try.prog w' = .ok (.agg (pc r.pre)) w')) (by kernel_rfl) (⟨(HF.out _ (HW.out.trans ((Below.refl wr.heap.size wr).drew.mono HW.out.size))).1, (HF.out _ (HW.out.trans ((Below.refl wr.heap.size wr).drew.mono HW.out.size))).2.1⟩) (fun hHeld => ?_)
          refine wpAnyH_take (i := 0) (oi := { dst := some 14, op := Go.Op.move (Go.Operand.tmp 6), type := 4, pos := "ref.go:57", after := #[], guard := none }) (v := ?v0v) rfl (by kernel_rfl) (by kernel_rfl) (by kernel_rfl) (fun _ _ _ h => h) (Or.inl ⟨by rfl, ?hy0v⟩) (by assumption) ?rest0v
          case hy0v => intro w hSw; (try dsimp only at hSw); go_simp; try with_reducible rfl
          try simp only [Act.put, List.setIfInBounds_toArray, List.set_cons_zero, List.set_cons_succ]
          refine wpAnyH_take (i := 1) (oi := { dst := some 15, op := Go.Op.unOp Go.UnOp.not 4 (Go.Operand.tmp 14), type := 4, pos := "ref.go:57", after := #[{ on := 0, ground := Go.Ground.data }], guard := none }) (v := ?v1v) rfl (by kernel_rfl) (by kernel_rfl) (by kernel_rfl) (fun _ _ _ h => h) (Or.inl ⟨by rfl, ?hy1v⟩) (by assumption) ?rest1v
          case hy1v => intro w hSw; (try dsimp only at hSw); go_simp; try with_reducible rfl
          try simp only [Act.put, List.setIfInBounds_toArray, List.set_cons_zero, List.set_cons_succ]
          refine wpAnyH_take (i := 2) (oi := { dst := some 16, op := Go.Op.move (Go.Operand.tmp 15), type := 4, pos := "ref.go:57", after := #[{ on := 1, ground := Go.Ground.data }], guard := none }) (v := ?v2v) rfl (by kernel_rfl) (by kernel_rfl) (by kernel_rfl) (fun _ _ _ h => h) (Or.inl ⟨by rfl, ?hy2v⟩) (by assumption) ?rest2v
          case hy2v => intro w hSw; (try dsimp only at hSw); go_simp; try with_reducible rfl
          try simp only [Act.put, List.setIfInBounds_toArray, List.set_cons_zero, List.set_cons_succ]
          refine wpAnyH_take (i := 3) (oi := { dst := some 17, op := Go.Op.move (Go.Operand.tmp 0), type := 22, pos := "ref.go:57", after := #[{ on := 2, ground := Go.Ground.guard }], guard := some (2, true) }) (v := ?v3v) rfl (by kernel_rfl) (by kernel_rfl) (by kernel_rfl) (fun _ _ _ h => h) (Or.inl ⟨by rfl, ?hy3v⟩) (by assumption) ?rest3v
          case hy3v => intro w hSw; (try dsimp only at hSw); go_simp; try with_reducible rfl
          try simp only [Act.put, List.setIfInBounds_toArray, List.set_cons_zero, List.set_cons_succ]
          refine wpAnyH_take (i := 4) (oi := { dst := some 18, op := Go.Op.move (Go.Operand.tmp 7), type := 3, pos := "ref.go:57", after := #[{ on := 2, ground := Go.Ground.guard }], guard := some (2, true) }) (v := ?v4v) rfl (by kernel_rfl) (by kernel_rfl) (by kernel_rfl) (fun _ _ _ h => h) (Or.inl ⟨by rfl, ?hy4v⟩) (by assumption) ?rest4v
          case hy4v => intro w hSw; (try dsimp only at hSw); go_simp; try with_reducible rfl
          try simp only [Act.put, List.setIfInBounds_toArray, List.set_cons_zero, List.set_cons_succ]
          refine wpAnyH_take (i := 5) (oi := { dst := some 19, op := Go.Op.indexAddr 22 (Go.Operand.tmp 17) (Go.Operand.tmp 18), type := 0, pos := "ref.go:57", after := #[{ on := 3, ground := Go.Ground.data }, { on := 4, ground := Go.Ground.data }, { on := 2, ground := Go.Ground.guard }], guard := some (2, true) }) (v := ?v5v) rfl (by kernel_rfl) (by kernel_rfl) (by kernel_rfl) (fun _ _ _ h => h) (Or.inl ⟨by rfl, ?hy5v⟩) (by assumption) ?rest5v
          case hy5v => intro w hSw; (try dsimp only at hSw); go_simp; try with_reducible rfl
          try simp only [Act.put, List.setIfInBounds_toArray, List.set_cons_zero, List.set_cons_succ]
          refine wpAnyH_take (i := 6) (oi := { dst := some 20, op := Go.Op.fieldAddr 34 (Go.Operand.tmp 19) 0, type := 0, pos := "ref.go:57", after := #[{ on := 5, ground := Go.Ground.data }, { on := 2, ground := Go.Ground.guard }], guard := some (2, true) }) (v := ?v6v) rfl (by kernel_rfl) (by kernel_rfl) (by kernel_rfl) (fun _ _ _ h => h) (Or.inl ⟨by rfl, ?hy6v⟩) (by assumption) ?rest6v
          case hy6v => intro w hSw; (try dsimp only at hSw); go_simp; try with_reducible rfl
          try simp only [Act.put, List.setIfInBounds_toArray, List.set_cons_zero, List.set_cons_succ]
          refine wpAnyH_take (i := 7) (oi := { dst := some 21, op := Go.Op.load 26 (Go.Operand.tmp 20), type := 26, pos := "ref.go:57", after := #[{ on := 6, ground := Go.Ground.data }, { on := 2, ground := Go.Ground.guard }], guard := some (2, true) }) (v := ?v7v) rfl (by kernel_rfl) (by kernel_rfl) (by kernel_rfl) (fun _ _ _ h => h) (Or.inl ⟨by rfl, ?hy7v⟩) (by assumption) ?rest7v
          case hy7v => intro w hSw; (try dsimp only at hSw); go_simp; try with_reducible rfl
          try simp only [Act.put, List.setIfInBounds_toArray, List.set_cons_zero, List.set_cons_succ]
          refine wpAnyH_take (i := 8) (oi := { dst := some 22, op := Go.Op.fieldAddr 34 (Go.Operand.tmp 3) 0, type := 0, pos := "ref.go:57", after := #[{ on := 2, ground := Go.Ground.guard }], guard := some (2, true) }) (v := ?v8v) rfl (by kernel_rfl) (by kernel_rfl) (by kernel_rfl) (fun _ _ _ h => h) (Or.inl ⟨by rfl, ?hy8v⟩) (by assumption) ?rest8v
          case hy8v => intro w hSw; (try dsimp only at hSw); go_simp; try with_reducible rfl
          try simp only [Act.put, List.setIfInBounds_toArray, List.set_cons_zero, List.set_cons_succ]
          refine wpAnyH_take (i := 9) (oi := { dst := some 23, op := Go.Op.load 26 (Go.Operand.tmp 22), type := 26, pos := "ref.go:57", after := #[{ on := 8, ground := Go.Ground.data }, { on := 2, ground := Go.Ground.guard }], guard := some (2, true) }) (v := ?v9v) rfl (by kernel_rfl) (by kernel_rfl) (by kernel_rfl) (fun _ _ _ h => h) (Or.inl ⟨by rfl, ?hy9v⟩) (by assumption) ?rest9v
          case hy9v => intro w hSw; (try dsimp only at hSw); go_simp; try with_reducible rfl
          try simp only [Act.put, List.setIfInBounds_toArray, List.set_cons_zero, List.set_cons_succ]
          refine wpAnyH_ready (rs := [10]) (by kernel_rfl) (by simp) ?_
          refine AllReadyH.cons (o := { dst := some 24, op := Go.Op.call { callee := Go.Callee.value (Go.Operand.func 42), args := #[Go.Operand.tmp 21, Go.Operand.tmp 23], argTypes := #[26, 26] }, type := 4, pos := "ref.go:57", after := #[{ on := 7, ground := Go.Ground.data }, { on := 9, ground := Go.Ground.data }, { on := 2, ground := Go.Ground.chain }, { on := 2, ground := Go.Ground.guard }], guard := some (2, true) }) rfl (fun K hK => ?_) AllReadyH.nil
          go_simp
          go_at_call 42
          refine (HLE.out _).mono ?_
          rintro e7 w7 ⟨rfl, h7'⟩
          have h7 : Below wr.heap.size wr w7 := (Below.refl wr.heap.size wr).drew.trans h7'
          go_simp
          refine hK.out _ _ (⟨(HF.out _ (HW.out.trans (h7.mono HW.out.size))).1, (HF.out _ (HW.out.trans (h7.mono HW.out.size))).2.1⟩) (fun hHeld => ?_)
          clear hK K h7'
          try simp only [Act.put, List.setIfInBounds_toArray, List.set_cons_zero, List.set_cons_succ]
          refine wpAnyH_take (i := 11) (oi := { dst := some 25, op := Go.Op.unOp Go.UnOp.not 4 (Go.Operand.tmp 24), type := 4, pos := "ref.go:57", after := #[{ on := 10, ground := Go.Ground.data }, { on := 2, ground := Go.Ground.guard }], guard := some (2, true) }) (v := ?v11v) rfl (by kernel_rfl) (by kernel_rfl) (by kernel_rfl) (fun _ _ _ h => h) (Or.inl ⟨by rfl, ?hy11v⟩) (by assumption) ?rest11v
          case hy11v => intro w hSw; (try dsimp only at hSw); go_simp; try with_reducible rfl
          try simp only [Act.put, List.setIfInBounds_toArray, List.set_cons_zero, List.set_cons_succ]
          refine wpAnyH_take (i := 12) (oi := { dst := some 26, op := Go.Op.pick (Go.Operand.tmp 16) (Go.Operand.tmp 25) (Go.Operand.const (Go.Value.bool false)), type := 4, pos := "ref.go:57", after := #[{ on := 2, ground := Go.Ground.data }, { on := 11, ground := Go.Ground.data }], guard := none }) (v := ?v12v) rfl (by kernel_rfl) (by kernel_rfl) (by kernel_rfl) (fun _ _ _ h => h) (Or.inl ⟨by rfl, ?hy12v⟩) (by assumption) ?rest12v
          case hy12v => intro w hSw; (try dsimp only at hSw); go_simp; try with_reducible rfl
          try simp only [Act.put, List.setIfInBounds_toArray, List.set_cons_zero, List.set_cons_succ]
          refine wpAnyH_done (by kernel_rfl) ?_ _
          have HW7 := Lib.hid h7
          clear hHeld HLE
          have HE1 : Hid ((o ++ [r]) ++ ((if preEq s.pre r.pre = true then [] else [s]) ++ putGo r (l.drop (i + 1)) true) = X) := by show _ = _; have h := HQ.out; unfold putGo at h; simpa [hle] using h
          have hop : Own w7 W0.heap.size u5 o := HO.out.later h7
          clear hle
          have ld := (HF.out _ (HW.out.trans (h7.mono HW.out.size))).2.2.2
          have hbd := run_rowBuild r w7
          have hwb := HW.out.trans (h7.mono HW.out.size)
          have HQL : Hid (o.length ≤ 60001) := by have h1 := HLO.out; have h2 := HL.out; show _ ≤ _; simp at h1; omega
          have haly : Below w7.heap.size w7 (w7.alloc (.cells (rc r) 34)) := (Below.refl _ _).alloc (Nat.le_refl _) _
          have howny := (hop).later haly
          have hnewy := newRoute w7 r
          have hszy : W0.heap.size ≤ w7.heap.size := (hwb).size
          go_wp2_with (at_builtin; refine wpList_append_own _ rfl _ _ 22 rfl W0.heap.size 34 i0 (.agg (rc zrt)) 19 40 Try.underlying22 H0.out H1.out H2.out H3.out (rc_size _) (by decide) _ o.length (fl o) rfl howny ⟨w7.heap.size, 0, none⟩ 1 1 (rl r) rfl (rl_length r) hnewy (rl_one r) (by have := HQL.out; simp only [maxLen]; omega) (by have := HQL.out; omega) (by have := (hwb).size; simp; omega) ?_)
          intro vy wy hown' hg _
          have HBy : Hid (Below W0.heap.size W0 wy) := ((hwb).trans (haly.mono hszy)).grown hg (Nat.le_trans hszy haly.size) (fun k hk => (howny.lt k hk).1)
          have HOy : Hid (Own wy W0.heap.size vy (o ++ [r])) := by show Own _ _ _ _; unfold Own; rw [List.length_append, fl_append, fl_one]; exact hown'
          clear hown' hg howny haly hnewy hszy
          clear ld hbd h7 hop hwb HQL
          go_wp2
          have HLY : Hid ((o ++ [r]).length ≤ i + if true = true then 1 else 0) := by have := HLO.out; show _ ≤ _; simp at this ⊢; omega
          obtain ⟨o2, ho2⟩ : ∃ o2, o ++ [r] = o2 := ⟨_, rfl⟩
          rw [ho2] at HE1 HLY HOy
          clear ho2
          have HBQv : Hid (Below W0.heap.size W0 wy) := HBy.out
          have HDv : Hid (∀ k, Below W0.heap.size W0 (wy.drewN k)) := fun k => ⟨HBQv.out.os, HBQv.out.tape, HBQv.out.output, HBQv.out.size, HBQv.out.block⟩
          have HQQv : Hid (∀ k, Below wy.heap.size wy (wy.drewN k)) := fun k => ⟨(Below.refl wy.heap.size wy).os, (Below.refl wy.heap.size wy).tape, (Below.refl wy.heap.size wy).output, (Below.refl wy.heap.size wy).size, (Below.refl wy.heap.size wy).block⟩
          have l1 : ∀ k, (preLoad (a'.add (i * 19))).run Try.prog (wy.drewN k) = .ok (.agg (pc s.pre)) (wy.drewN k) := fun k => (HF.out _ (HDv.out k)).1
          have l2 : ∀ k, (preLoad ⟨w.heap.size, 0, none⟩).run Try.prog (wy.drewN k) = .ok (.agg (pc r.pre)) (wy.drewN k) := fun k => (HF.out _ (HDv.out k)).2.1
          have le := run_preNeq s.pre r.pre
          cases heq : preEq s.pre r.pre with
          | true =>
            rw [heq] at le
            have HE2 : Hid (o2 ++ putGo r (l.drop (i + 1)) true = X) := by show _ = _; have h := HE1.out; rw [heq] at h; simpa using h
            clear heq
            go_wp2
            go_quiet (fail)
            clear l1 l2 le
            go_wp2
            go_roundw
            case rel => exact ⟨i + 1, true, o2, by omega, by go_num, rfl, (HOy.out).later (HQQv.out _), HE2.out, (by have := HLY.out; show _ ≤ _; simp at this ⊢; omega), HDv.out _⟩
            case measure => simp [intOf]; omega
          | false =>
            rw [heq] at le
            have HE2 : Hid ((o2 ++ [s]) ++ putGo r (l.drop (i + 1)) true = X) := by show _ = _; have h := HE1.out; rw [heq] at h; simpa using h
            clear heq
            go_wp2
            go_quiet (fail)
            clear l1 l2 le
            obtain ⟨wp', hwp⟩ : ∃ wp', wy.drewN nq = wp' := ⟨_, rfl⟩
            have hbp : Below W0.heap.size W0 wp' := by rw [← hwp]; exact HDv.out _
            have hop : Own wp' W0.heap.size vy o2 := by rw [← hwp]; exact (HOy.out).later (HQQv.out _)
            rw [hwp]
            clear hwp
            have ld := (HF.out _ hbp).2.2.1
            have hbd := run_rowBuild s wp'
            have hwb := hbp
            have HQL : Hid (o2.length ≤ 60001) := by have h1 := HLY.out; have h2 := HL.out; show _ ≤ _; simp at h1 ⊢; omega
            have halz : Below wp'.heap.size wp' (wp'.alloc (.cells (rc s) 34)) := (Below.refl _ _).alloc (Nat.le_refl _) _
            have hownz := (hop).later halz
            have hnewz := newRoute wp' s
            have hszz : W0.heap.size ≤ wp'.heap.size := (hwb).size
            go_wp2_with (at_builtin; refine wpList_append_own _ rfl _ _ 22 rfl W0.heap.size 34 i0 (.agg (rc zrt)) 19 40 Try.underlying22 H0.out H1.out H2.out H3.out (rc_size _) (by decide) _ o2.length (fl o2) rfl hownz ⟨wp'.heap.size, 0, none⟩ 1 1 (rl s) rfl (rl_length s) hnewz (rl_one s) (by have := HQL.out; simp only [maxLen]; omega) (by have := HQL.out; omega) (by have := (hwb).size; simp; omega) ?_)
            intro vz wz hown' hg _
            have HBz : Hid (Below W0.heap.size W0 wz) := ((hwb).trans (halz.mono hszz)).grown hg (Nat.le_trans hszz halz.size) (fun k hk => (hownz.lt k hk).1)
            have HOz : Hid (Own wz W0.heap.size vz (o2 ++ [s])) := by show Own _ _ _ _; unfold Own; rw [List.length_append, fl_append, fl_one]; exact hown'
            clear hown' hg hownz halz hnewz hszz
            clear ld hbd hbp hop hwb
            go_wp2
            go_roundw
            case rel => exact ⟨i + 1, true, o2 ++ [s], by omega, by go_num, rfl, HOz.out, HE2.out, (by have := HLY.out; show _ ≤ _; simp at this ⊢; omega), HBz.out⟩
            case measure => simp [intOf]; omega
    · obtain rfl : i = n := by omega
      have hdr : l.drop i = [] := List.drop_of_length_le (by rw [← HN.out]; exact Nat.le_refl _)
      rw [hdr] at HEQ
      clear hdr
      cases d with
      | true =>
        have HE2 : Hid (o = X) := by show _ = _; have h := HEQ.out; simpa [putGo] using h
        go_wp2
        go_ret
        exact ⟨_, rfl, by rw [← HE2.out]; exact HO.out.base HZ.out, (HT.out wr HW.out).2.2⟩
      | false =>
        have HE2 : Hid (o ++ [r] = X) := by show _ = _; have h := HEQ.out; simpa [putGo] using h
        have ld := run_routeLoad (HT.out wr HW.out).1
        have hbd := run_rowBuild r wr
        have hwb := HW.out
        have hop := HO.out
        have HQL : Hid (o.length ≤ 60001) := by have h1 := HLO.out; have h2 := HL.out; show _ ≤ _; simp at h1; omega
        have hale : Below wr.heap.size wr (wr.alloc (.cells (rc r) 34)) := (Below.refl _ _).alloc (Nat.le_refl _) _
        have howne := (hop).later hale
        have hnewe := newRoute wr r
        have hsze : W0.heap.size ≤ wr.heap.size := (hwb).size
        go_wp2_with (at_builtin; refine wpList_append_own _ rfl _ _ 22 rfl W0.heap.size 34 i0 (.agg (rc zrt)) 19 40 Try.underlying22 H0.out H1.out H2.out H3.out (rc_size _) (by decide) _ o.length (fl o) rfl howne ⟨wr.heap.size, 0, none⟩ 1 1 (rl r) rfl (rl_length r) hnewe (rl_one r) (by have := HQL.out; simp only [maxLen]; omega) (by have := HQL.out; omega) (by have := (hwb).size; simp; omega) ?_)
        intro ve we hown' hg _
        have HBe : Hid (Below W0.heap.size W0 we) := ((hwb).trans (hale.mono hsze)).grown hg (Nat.le_trans hsze hale.size) (fun k hk => (howne.lt k hk).1)
        have HOe : Hid (Own we W0.heap.size ve (o ++ [r])) := by show Own _ _ _ _; unfold Own; rw [List.length_append, fl_append, fl_one]; exact hown'
        clear hown' hg howne hale hnewe hsze
        go_wp2
        go_ret
        exact ⟨_, rfl, by rw [← HE2.out]; exact HOe.out.base HZ.out, (HT.out we HBe.out).2.2⟩
end Go.Proofs.Ytjppingppdmeoaa
