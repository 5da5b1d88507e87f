/- slices.Max and Min at numbers, wear.Spread: what each hands back. -/
import Derived.Test.YtkpdkpfmljcllaaWearPick
namespace Go.Proofs.Ytkpdkpfmljcllaa.Wear
open Go.RowKit Go.Sort Go.Shelf
attribute [local go_sem ↓] loadVar_wb storeVar_wb loadVar_bl storeVar_bl build_bl

theorem infoI : (Try.prog.info? 3).map (fun i => (i.zero, i.size, i.bytes)) = some (some (.int .i64 0), 1, 8) := by kernel_rfl
/-- Numbers behind numbers of the call's own. -/
theorem run_appendI {w : World} {base : Nat} {v u : Value} {xs ys : List Int} (h : OwnI w base v xs) (hr : RdI w u ys) (hb : base ≤ w.heap.size) (hn : xs.length + ys.length ≤ 1000000) (ty : TypeId) :
    ∃ v' w', (Builtin.append_ #[44, 44] ty #[v, u]).run Try.prog w = .ok v' w' ∧ OwnI w' base v' (xs ++ ys) ∧ w.grownBy w' v.ownBlock := by
  obtain ⟨i0, e0, e1, e2, e3⟩ := info_parts infoI
  obtain ⟨a, cap, h1, h2, h3, h4, h5⟩ := hr
  subst h1
  cases a with
  | none =>
    have hc := h4 rfl
    subst hc
    have hy : ys = [] := List.length_eq_zero_iff.1 (by omega)
    subst hy
    refine ⟨v, w, ?_, by rw [List.append_nil]; exact h, ⟨rfl, rfl, rfl, Nat.le_refl _, fun _ _ _ => rfl⟩⟩
    exact run_append_owned_none (P := Try.prog) (w := w) base 44 ty 3 i0 1 Try.underlying44 e0 v _ _ h
  | some ad =>
    obtain ⟨v', w', r1, r2, r3, -⟩ := run_append_own (P := Try.prog) (w := w) base 44 ty 3 i0 (.int .i64 0) 1 8 Try.underlying44 e0 e1 e2 e3 rfl (by decide) v xs.length (cellsI xs) h ad ys.length cap (cellsI ys)
      (by rw [cellsI_length]; omega) (fun j u hu => h5 ad rfl j u hu) (cellsI_one ys) (by unfold maxLen; omega) (by omega) hb
    refine ⟨v', w', r1, ?_, r3⟩
    unfold OwnI
    rw [List.length_append, show cellsI (xs ++ ys) = cellsI xs ++ cellsI ys by simp [cellsI]]
    exact r2
/-- The operation by itself. -/
theorem wpList_appendI {w : World} {ops : Array Oper} {rest : List Oper} {o : Oper} {a : Act} {Q : Exit → Act → World → Prop} (hgd : o.guard = none) (s x : Operand)
    (ho : o.op = .call { callee := .builtin .append, args := #[s, x], argTypes := #[44, 44] })
    {base : Nat} {v u : Value} {xs ys : List Int} (hs : a.eval s = v) (hx : a.eval x = u) (h : OwnI w base v xs) (hr : RdI w u ys) (hb : base ≤ w.heap.size) (hn : xs.length + ys.length ≤ 1000000)
    (k : ∀ v' w', OwnI w' base v' (xs ++ ys) → w.grownBy w' v.ownBlock → wpList Try.prog ops Q rest (a.put o.dst v') w') : wpList Try.prog ops Q (o :: rest) a w := by
  refine wpList_plain hgd fun K hK => ?_
  obtain ⟨v', w', hrun, h1, h2⟩ := run_appendI h hr hb hn o.type
  unfold Oper.wp
  simp [execOp, ho, resolve, invoke, builtin, hs, hx, hrun, Result.andThen]
  exact hK _ _ (k v' w' h1 h2)
theorem OwnI.below {w w' : World} {base : Nat} {v : Value} {l : List Int} (h : OwnI w base v l) (hg : w.grownBy w' v.ownBlock) (hb : base ≤ w.heap.size) : Below base w w' :=
  (Below.refl base w).grown hg hb fun k hk => (World.ownsRow.lt h k hk).1
theorem OwnI.nil (w : World) (base : Nat) : OwnI w base (.slice none 0 0) [] := World.ownsRow_nil _ _ _ _
theorem rdI_new (w : World) (x : Int) : RdI (w.alloc (.cells #[.int .i64 x] 3)) (.slice (some ⟨w.heap.size, 0, none⟩) 1 1) [x] := rdRow_new w [iV x] 3 (by simp)

set_option maxHeartbeats 1000000 in
set_option maxRecDepth 100000 in
theorem max_any (l : List Int) (v : Value) (w : World) (hR : RdI w v l) (h0 : 0 < l.length) : Calls Try.prog 31 #[v] w fun e w' => e = .returned (.int .i64 (maxOf l)) ∧ w = w' := by
  obtain ⟨x0, hx0⟩ : ∃ x, l[0]? = some x := ⟨l[0], List.getElem?_eq_getElem h0⟩
  obtain ⟨B, o, cap, rfl, hlc, hcm, hcs⟩ := RdRow.form hR h0 (cellsI_at hx0)
  obtain ⟨n, hn⟩ : ∃ n, n = l.length := ⟨_, rfl⟩
  have HN := Lib.hid hn
  rw [← hn] at hlc h0 ⊢
  unfold maxLen at hcm
  have hn63 : (n : Int) ≤ 9223372036854775807 := by omega
  have hn0 : (1 : Int) ≤ n := by omega
  have HC : Hid (∀ (i : Nat) x, l[i]? = some x → w.cell? ⟨B, o + i, none⟩ = some (.int .i64 x)) := fun i x hx => hcs i _ (cellsI_at hx)
  have c0 := HC.out 0 x0 hx0
  rw [Nat.add_zero] at c0
  have d0 : decide ((n : Int) < 1) = false := by simp; omega
  have HE : Hid (x0 = maxOf (l.take 1)) := by
    cases l with
    | nil => simp at hx0
    | cons y ys => simp at hx0; subst hx0; rfl
  clear hR hcs hn hx0
  go_enter Try.func31, Try.ntmps31
  go_wp2
  go_loop [4, 3] (fun t u => ∃ i : Nat, 1 ≤ i ∧ i ≤ n ∧ t = .int .i64 i ∧ u = .int .i64 (maxOf (l.take i))) (fun t _ => n - (intOf t).toNat)
  case atStart => exact ⟨1, Nat.le_refl _, h0, rfl, by rw [HE.out]⟩
  case round =>
    obtain ⟨i, hi1, hi, rfl, rfl⟩ := hrel
    by_cases hlt : i < n
    · have hltI : (i : Int) < n := by omega
      obtain ⟨x, hx⟩ : ∃ x, l[i]? = some x := ⟨l[i]'(by rw [← HN.out]; exact hlt), List.getElem?_eq_getElem _⟩
      have hc := HC.out i x hx
      have HM := Lib.hid (maxOf_next (by omega) hx)
      obtain ⟨m, hm⟩ : ∃ m, maxOf (l.take i) = m := ⟨_, rfl⟩
      rw [hm] at HM ⊢
      clear hx hm c0
      by_cases hmx : m < x
      · go_wp2
        go_round
        case rel => exact ⟨i + 1, by omega, by omega, by go_num, by rw [HM.out, show max m x = x by omega]⟩
        case measure => simp [intOf]; omega
      · go_wp2
        go_round
        case rel => exact ⟨i + 1, by omega, by omega, by go_num, by rw [HM.out, show max m x = m by omega]⟩
        case measure => simp [intOf]; omega
    · obtain rfl : i = n := by omega
      go_wp2
      go_ret
      exact ⟨ret_int (by rw [List.take_of_length_le (by rw [← HN.out]; exact Nat.le_refl _)]), rfl⟩
set_option maxHeartbeats 1000000 in
set_option maxRecDepth 100000 in
theorem min_any (l : List Int) (v : Value) (w : World) (hR : RdI w v l) (h0 : 0 < l.length) : Calls Try.prog 32 #[v] w fun e w' => e = .returned (.int .i64 (minOf l)) ∧ w = w' := by
  obtain ⟨x0, hx0⟩ : ∃ x, l[0]? = some x := ⟨l[0], List.getElem?_eq_getElem h0⟩
  obtain ⟨B, o, cap, rfl, hlc, hcm, hcs⟩ := RdRow.form hR h0 (cellsI_at hx0)
  obtain ⟨n, hn⟩ : ∃ n, n = l.length := ⟨_, rfl⟩
  have HN := Lib.hid hn
  rw [← hn] at hlc h0 ⊢
  unfold maxLen at hcm
  have hn63 : (n : Int) ≤ 9223372036854775807 := by omega
  have hn0 : (1 : Int) ≤ n := by omega
  have HC : Hid (∀ (i : Nat) x, l[i]? = some x → w.cell? ⟨B, o + i, none⟩ = some (.int .i64 x)) := fun i x hx => hcs i _ (cellsI_at hx)
  have c0 := HC.out 0 x0 hx0
  rw [Nat.add_zero] at c0
  have d0 : decide ((n : Int) < 1) = false := by simp; omega
  have HE : Hid (x0 = minOf (l.take 1)) := by
    cases l with
    | nil => simp at hx0
    | cons y ys => simp at hx0; subst hx0; rfl
  clear hR hcs hn hx0
  go_enter Try.func32, Try.ntmps32
  go_wp2
  go_loop [4, 3] (fun t u => ∃ i : Nat, 1 ≤ i ∧ i ≤ n ∧ t = .int .i64 i ∧ u = .int .i64 (minOf (l.take i))) (fun t _ => n - (intOf t).toNat)
  case atStart => exact ⟨1, Nat.le_refl _, h0, rfl, by rw [HE.out]⟩
  case round =>
    obtain ⟨i, hi1, hi, rfl, rfl⟩ := hrel
    by_cases hlt : i < n
    · have hltI : (i : Int) < n := by omega
      obtain ⟨x, hx⟩ : ∃ x, l[i]? = some x := ⟨l[i]'(by rw [← HN.out]; exact hlt), List.getElem?_eq_getElem _⟩
      have hc := HC.out i x hx
      have HM := Lib.hid (minOf_next (by omega) hx)
      obtain ⟨m, hm⟩ : ∃ m, minOf (l.take i) = m := ⟨_, rfl⟩
      rw [hm] at HM ⊢
      clear hx hm c0
      by_cases hmx : x < m
      · go_wp2
        go_round
        case rel => exact ⟨i + 1, by omega, by omega, by go_num, by rw [HM.out, show min m x = x by omega]⟩
        case measure => simp [intOf]; omega
      · go_wp2
        go_round
        case rel => exact ⟨i + 1, by omega, by omega, by go_num, by rw [HM.out, show min m x = m by omega]⟩
        case measure => simp [intOf]; omega
    · obtain rfl : i = n := by omega
      go_wp2
      go_ret
      exact ⟨ret_int (by rw [List.take_of_length_le (by rw [← HN.out]; exact Nat.le_refl _)]), rfl⟩

set_option maxHeartbeats 2000000 in
set_option maxRecDepth 100000 in
theorem spread_any (l : List Wb) (v : Value) (w : World) (hR : RdW w v l) : Calls Try.prog 15 #[v] w fun e w' => e = .returned (.int .i64 (spreadL l)) ∧ Below w.heap.size w w' := by
  have C := right_any l v 16 w hR
  have HS : Hid (spreadL l = spreadL l) := rfl
  unfold spreadL at HS ⊢
  cases hr : rightB l 16 with
  | false =>
    rw [hr] at C
    have HC := Lib.hid C
    clear C hr hR
    go_enter Try.func15, Try.ntmps15
    go_wp2_with fail
    refine HC.out.mono ?_
    rintro e w1 ⟨rfl, hb⟩
    go_wp2
    go_ret
    exact ⟨rfl, hb⟩
  | true =>
    rw [hr] at C
    have HC := Lib.hid C
    obtain ⟨hl1, hl2, -, -, hall⟩ := rightB_iff.1 hr
    obtain ⟨B, o, cap, rfl, hlc, hcm, hcs⟩ := hR.form (by omega)
    have hlB : B < w.heap.size := by
      have h0 : l[0]? = some (l[0]'(by omega)) := List.getElem?_eq_getElem _
      exact World.block_lt_of_cell? _ _ (four_cells hcs h0).1
    obtain ⟨n, hn⟩ : ∃ n, n = l.length := ⟨_, rfl⟩
    have HN := Lib.hid hn
    rw [← hn] at hl1 hl2 hlc HC ⊢
    have HL : Hid (∀ W (i : Nat) x, Below w.heap.size w W → l[i]? = some x → (wbLoad ⟨B, o + i * 4, none⟩).run Try.prog W = .ok (wbV x) W) := fun W i x hb hx =>
      run_wbLoad (fun j u hu => keep_cell (hcs j u hu) hb) hx
    have HA := Lib.hid hall
    have hn63 : (n : Int) ≤ 32 := by omega
    rw [if_pos rfl]
    obtain ⟨S, hS⟩ : ∃ S, S = (if (wornTo l n).length = 0 then 0 else maxOf (wornTo l n) - minOf (wornTo l n)) := ⟨_, rfl⟩
    rw [← hS]
    have HSS := Lib.hid hS
    clear C hr hR hcs hn hlc hcm hall HS hS
    go_enter Try.func15, Try.ntmps15
    go_wp2_with fail
    refine HC.out.mono ?_
    rintro e w1 ⟨rfl, hb⟩
    have HB1 := Lib.hid hb
    clear hb HC
    go_wp2
    go_loopw [11, 3] (fun t u wr => ∃ i : Nat, i ≤ n ∧ t = .int .i64 i ∧ OwnI wr w.heap.size u (wornTo l i) ∧ Below w.heap.size w wr) (fun t _ _ => n - (intOf t).toNat)
    case atStart => exact ⟨0, Nat.zero_le _, rfl, OwnI.nil _ _, HB1.out⟩
    case round =>
      obtain ⟨i, hi, rfl, ho, hB⟩ := hrel
      have HO := Lib.hid (And.intro ho hB)
      clear ho hB
      by_cases hlt : i < n
      · have hltI : (i : Int) < n := by omega
        obtain ⟨x, hx⟩ : ∃ x, l[i]? = some x := ⟨l[i]'(by rw [← HN.out]; exact hlt), List.getElem?_eq_getElem _⟩
        have L1 := HL.out wr i x HO.out.2 hx
        have S1 := wb_new wr x
        have HW := Lib.hid (wornTo_next hx)
        obtain ⟨lv, us, wo, bad⟩ := x
        unfold zw at S1
        dsimp only [wbV, wbA] at L1 S1
        clear hx
        cases bad with
        | true =>
          go_wp2
          go_roundw
          case rel => exact ⟨i + 1, by omega, by go_num, by rw [HW.out]; exact HO.out.1.later (below1 _ _), HO.out.2.trans ((below1 wr _).mono HO.out.2.size)⟩
          case measure => simp [intOf]; omega
        | false =>
          have HI : Hid (OwnI ((wr.alloc (.cells #[.int .i64 lv, .int .i64 us, .int .i64 wo, .bool false] 31)).alloc (.cells #[.int .i64 wo] 3)) w.heap.size u3 (wornTo l i) ∧ RdI ((wr.alloc (.cells #[.int .i64 lv, .int .i64 us, .int .i64 wo, .bool false] 31)).alloc (.cells #[.int .i64 wo] 3)) (.slice (some ⟨wr.heap.size + 1, 0, none⟩) 1 1) [wo] ∧ Below w.heap.size w ((wr.alloc (.cells #[.int .i64 lv, .int .i64 us, .int .i64 wo, .bool false] 31)).alloc (.cells #[.int .i64 wo] 3))) := by
            refine ⟨HO.out.1.later (below2 _ _ _), ?_, HO.out.2.trans ((below2 _ _ _).mono HO.out.2.size)⟩
            have := rdI_new (wr.alloc (.cells #[.int .i64 lv, .int .i64 us, .int .i64 wo, .bool false] 31)) wo
            simpa using this
          have HLE : Hid ((wornTo l i).length + [wo].length ≤ 1000000) := by have := wornTo_length l i; show _ ≤ _; simp; omega
          go_wp2_with (at_builtin; refine wpList_appendI rfl _ _ rfl rfl rfl HI.out.1 HI.out.2.1 HI.out.2.2.size HLE.out ?_; intro v' w' h1 h2)
          have HF := Lib.hid (And.intro h1 (HI.out.2.2.trans (HI.out.1.below h2 HI.out.2.2.size)))
          clear h1 h2
          go_roundw
          case rel => exact ⟨i + 1, by omega, by go_num, by rw [HW.out]; exact HF.out.1, HF.out.2⟩
          case measure => simp [intOf]; omega
      · obtain rfl : i = n := by omega
        have HB := Lib.hid HO.out.2
        by_cases hz : (wornTo l i).length = 0
        · obtain ⟨a, cp, hu, -, -⟩ := HO.out.1.rd.len
          rw [hz] at hu
          subst hu
          have HZ := Lib.hid hz
          clear hz HO
          go_wp2
          go_ret
          exact ⟨ret_int (by rw [HSS.out, if_pos HZ.out]), HB.out⟩
        · obtain ⟨g, cp, hu, hc1, hc2, -, -⟩ := own_form HO.out.1 (by omega)
          have C1 := max_any (wornTo l i) u3 wr HO.out.1.rd (by omega)
          have C2 := min_any (wornTo l i) u3 wr HO.out.1.rd (by omega)
          have b1 := wornTo_bound HA.out (maxOf_spec (l := wornTo l i) (by omega)).1
          have b2 := wornTo_bound HA.out (minOf_spec (l := wornTo l i) (by omega)).1
          obtain ⟨m, hm⟩ : ∃ m, (wornTo l i).length = m := ⟨_, rfl⟩
          have HY : Hid (S = maxOf (wornTo l i) - minOf (wornTo l i)) := HSS.out.trans (if_neg hz)
          rw [hm] at hu hz
          obtain ⟨y1, hy1⟩ : ∃ y, maxOf (wornTo l i) = y := ⟨_, rfl⟩
          obtain ⟨y2, hy2⟩ : ∃ y, minOf (wornTo l i) = y := ⟨_, rfl⟩
          rw [hy1] at C1 b1 HY
          rw [hy2] at C2 b2 HY
          subst hu
          have hw : wrap64 (y1 - y2) = y1 - y2 := by unfold wrap64; omega
          have hmI : ((m : Int) == 0) = false := by simp; omega
          have H1 := Lib.hid C1
          have H2 := Lib.hid C2
          clear hz HO hm hy1 hy2 C1 C2
          go_wp2_with (first | (go_at_call 31; with_reducible refine H1.out.mono ?_; rintro e w' ⟨rfl, rfl⟩) | (go_at_call 32; with_reducible refine H2.out.mono ?_; rintro e w' ⟨rfl, rfl⟩))
          go_ret
          exact ⟨ret_int HY.out.symm, HB.out⟩
end Go.Proofs.Ytkpdkpfmljcllaa.Wear
