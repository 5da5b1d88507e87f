/- slices.Reverse, DeleteFunc over routes (those that may not be). -/
import Derived.Test.YtcpdpcfejpbdpaaTabStable
import Derived.Test.YtcpdpcfejpbdpaaTabDelete
import Derived.Test.YtcpdpcfejpbdpaaTabIndex
namespace Go.Proofs.Ytcpdpcfejpbdpaa
open Go.RowKit Go.Sort Go.Shelf Go.Deep
attribute [local go_sem ↓] loadVar_key loadVar_pre loadVar_route storeVar_pre storeVar_route buildSlice_row

/-- How far a row is turned round. -/
structure RevAt (w0 : World) (g : Nat) (rest : List Value) (L0 : List Rt) (i : Nat) (W : World) : Prop where
  ex : ∃ P M Q : List Rt, P.length = i ∧ Q.length = i ∧ L0 = Q.reverse ++ M ++ P.reverse ∧ SW w0 g rest (P ++ M ++ Q) W

set_option maxHeartbeats 4000000 in
set_option maxRecDepth 100000 in
theorem reverse_any (w0 : World) (g : Nat) (rest : List Value) (L0 : List Rt) (n cap : Nat) (W : World) (h : SW w0 g rest L0 W) (hn : L0.length = n) (h16 : n ≤ 65536) :
    Calls Try.prog 37 #[.slice (some ⟨g, 0, none⟩) n cap] W (SwPost w0 g rest L0.reverse) := by
  have hnI : (n : Int) ≤ 65536 := by omega
  have mixed : Try.prog.follows .mixedOrders = true := by kernel_rfl
  have H0 : Hid (RevAt w0 g rest L0 0 W) := ⟨[], L0, [], rfl, rfl, by simp, by simpa using h⟩
  have HN := Lib.hid hn
  clear h hn
  unfold SwPost
  go_enter Try.func37, Try.ntmps37
  go_wp2
  go_loopw [2, 3] (fun s t wr => ∃ (i : Nat) (z : Int), s = .int .i64 i ∧ t = .int .i64 z ∧ Hid (z = (n : Int) - 1 - i ∧ 2 * i ≤ n) ∧ Hid (RevAt w0 g rest L0 i wr)) (fun s _ _ => n - (intOf s).toNat)
  case atStart => exact ⟨0, _, rfl, rfl, ⟨by omega, by omega⟩, H0⟩
  case round =>
    obtain ⟨i, z, rfl, rfl, HZ, HR⟩ := hrel
    have hz1 := HZ.out.1
    have hz2 := HZ.out.2
    by_cases hlt : 2 * i + 1 < n
    · obtain ⟨q, rfl⟩ : ∃ q : Nat, z = q := ⟨n - 1 - i, by omega⟩
      have hq : q = n - 1 - i := by omega
      have hltI : (i : Int) < q := by omega
      have hqn : (q : Int) < n := by omega
      have hin : (i : Int) < n := by omega
      obtain ⟨P, M, Q, e1, e2, e3, e4⟩ := HR.out.ex
      have hl : P.length + M.length + Q.length = n := by
        rw [← HN.out, e3]; simp only [List.length_append, List.length_reverse]; omega
      obtain ⟨x, M1, rfl⟩ : ∃ x M1, M = x :: M1 := List.exists_cons_of_ne_nil (fun h => by rw [h] at hl; simp at hl; omega)
      rcases List.eq_nil_or_concat M1 with rfl | ⟨M2, y, hM⟩
      · exfalso; simp at hl; omega
      · rw [List.concat_eq_append] at hM
        subst hM
        have hd : SW w0 g rest (P ++ x :: (M2 ++ y :: Q)) wr.drew := by simpa using e4.drew
        have k1 := get_first P (M2 ++ y :: Q) x
        have k2 := get_second P M2 Q x y
        have p2 : P.length + 1 + M2.length = q := by simp only [List.length_cons, List.length_append, List.length_nil] at hl; omega
        have l1 := hd.load k1
        have l2 := hd.load k2
        obtain ⟨X, Y, s1, s2, hsw⟩ := hd.swap (List.getElem?_eq_some_iff.1 k1).1 (List.getElem?_eq_some_iff.1 k2).1 x y
        rw [swap_two] at hsw
        rw [p2] at l2 s2
        rw [e1] at l1 s1
        have H2 : Hid (RevAt w0 g rest L0 (i + 1) ((wr.drew.setRow g X).setRow g Y)) := by
          refine ⟨P ++ [y], M2, x :: Q, by simp [e1], by simp [e2], by rw [e3]; simp, by simpa using hsw⟩
        have HZ2 : Hid ((q : Int) - 1 = (n : Int) - 1 - ((i + 1 : Nat) : Int) ∧ 2 * (i + 1) ≤ n) := ⟨by omega, by omega⟩
        clear hz1 hd hsw k1 k2 p2 e1 e2 e3 e4 hq HZ
        go_wp2_with fail
        go_big_region_o
        all_goals go_wp2
        go_roundw
        case rel => exact ⟨i + 1, _, by go_num, rfl, HZ2, H2⟩
        case measure => simp [intOf]; omega
    · have hltI : ¬ (i : Int) < z := by omega
      obtain ⟨P, M, Q, e1, e2, e3, e4⟩ := HR.out.ex
      have hl : P.length + M.length + Q.length = n := by
        rw [← HN.out, e3]; simp only [List.length_append, List.length_reverse]; omega
      have hM : M.reverse = M := by
        match M, hl with
        | [], _ => rfl
        | [x], _ => rfl
        | x :: y :: t, hl => simp at hl; omega
      have HF : Hid (SW w0 g rest L0.reverse wr) := by
        show SW _ _ _ _ _
        rw [e3]
        simp only [List.reverse_append, List.reverse_reverse, hM]
        simpa using e4
      clear hz1 hM e1 e2 e3 e4 HZ
      go_wp2
      go_end0
      exact ⟨rfl, HF.out⟩

theorem reverse_nil (W : World) : Calls Try.prog 37 #[.slice none 0 0] W fun e w' => e = .returned (.tuple #[]) ∧ W = w' := by
  go_enter Try.func37, Try.ntmps37
  go_wp2
  go_loop [2, 3] (fun s t => s = .int .i64 0 ∧ t = .int .i64 (-1)) (fun _ _ => 0)
  case atStart => exact ⟨rfl, rfl⟩
  case round =>
    obtain ⟨rfl, rfl⟩ := hrel
    go_wp2
    go_end0
    exact ⟨rfl, rfl⟩

set_option maxHeartbeats 1000000 in
set_option maxRecDepth 100000 in
theorem mayNot_any (r : Rt) (w : World) : Calls Try.prog 36 #[.agg (rc r)] w fun e w' => e = .returned (.bool (!mayB r.pre)) ∧ Below w.heap.size w w' := by
  have lp := run_preLoadA (newRoute w r).pre
  have C := may_any r.pre r.hk (w.alloc (.cells (rc r) 34))
  have hb : Below w.heap.size w (w.alloc (.cells (rc r) 34)) := (Below.refl _ _).alloc (Nat.le_refl _) _
  obtain ⟨b, hbm⟩ : ∃ b, b = mayB r.pre := ⟨_, rfl⟩
  rw [← hbm] at C ⊢
  have HC := Lib.hid C
  clear C hbm
  go_enter Try.func36, Try.ntmps36
  go_wp2_with fail
  refine HC.out.mono ?_
  rintro e w1 ⟨rfl, h1⟩
  have HB := Lib.hid (hb.trans (h1.mono hb.size))
  go_wp2
  go_ret
  exact ⟨rfl, HB.out⟩

def mayL (l : List Rt) : List Rt := l.filter fun r => mayB r.pre

/-- How far a list is gone through: who is kept stands ahead. -/
structure DelAt (w0 : World) (g : Nat) (rest : List Value) (l : List Rt) (i j : Nat) (W : World) : Prop where
  ex : ∃ J : List Rt, (mayL (l.take j)).length = i ∧ (mayL (l.take j) ++ J).drop j = l.drop j ∧ (mayL (l.take j) ++ J).length = l.length ∧ SW w0 g rest (mayL (l.take j) ++ J) W

theorem mayL_snoc (l : List Rt) (j : Nat) (r : Rt) (h : l[j]? = some r) : mayL (l.take (j + 1)) = mayL (l.take j) ++ (if mayB r.pre = true then [r] else []) := by
  unfold mayL
  rw [List.take_add_one, h, List.filter_append]
  congr 1
  by_cases hm : mayB r.pre = true <;> simp [hm]
theorem mayL_le (l : List Rt) (j : Nat) : (mayL (l.take j)).length ≤ j := Nat.le_trans (List.length_filter_le _ _) (by rw [List.length_take]; omega)
theorem mayL_id {l : List Rt} (h : ∀ r ∈ l, mayB r.pre = true) : mayL l = l := List.filter_eq_self.2 h

set_option maxHeartbeats 8000000 in
set_option maxRecDepth 100000 in
theorem deleteFunc_any (l : List Rt) (v : Value) (base : Nat) (w : World) (ho : Own w base v l) (h16 : l.length ≤ 65536) :
    Calls Try.prog 35 #[v, .func (.func 36) #[] #[]] w (MutPost w base v (mayL l)) := by
  have eg := enters_of Try.func36 (by kernel_rfl) rfl
  have C := index_any l v 36 #[] (fun i => match l[i]? with | some r => !mayB r.pre | none => false) (fun _ W => Below w.heap.size w W) w (fun i W h => ho.rd.later h) eg (fun i r W hr hb => by
    refine (mayNot_any r W).mono ?_
    rintro e w' ⟨rfl, h1⟩
    exact ⟨by simp [hr], hb.trans (h1.mono hb.size)⟩) (Below.refl _ _)
  have HC := Lib.hid C
  have HO := Lib.hid ho
  clear C
  unfold MutPost
  rcases ho.at' with ⟨rfl, rfl⟩ | ⟨g, cap, rest, rfl, hat⟩
  · clear ho
    go_enter Try.func35, Try.ntmps35
    go_wp2_with fail
    refine HC.out.mono ?_
    rintro e w1 (⟨rfl, -, hb⟩ | ⟨i, hi, -⟩)
    · go_wp2
      go_ret
      exact ⟨_, rfl, own_nil _ _, grown_below hb _⟩
    · exact absurd hi (Nat.not_lt_zero _)
  · obtain ⟨n, hn⟩ : ∃ n, n = l.length := ⟨_, rfl⟩
    have HA := Lib.hid hat
    rw [← hn] at HC h16 HO ⊢
    have HN := Lib.hid hn
    have hnI : (n : Int) ≤ 65536 := by omega
    have hnc : n ≤ cap := by rw [hn]; exact hat.le
    have hcm := hat.max
    unfold maxLen at hcm
    have hcI : (cap : Int) ≤ 9223372036854775807 := by omega
    clear hn hat ho
    go_enter Try.func35, Try.ntmps35
    go_wp2_with fail
    refine HC.out.mono ?_
    rintro e w1 (⟨rfl, hf, hb⟩ | ⟨i, hi, rfl, hf, hp, hb⟩)
    · have HF : Hid (mayL l = l) := mayL_id (fun r hr => by
        obtain ⟨k, hk⟩ := List.mem_iff_getElem?.1 hr
        have := hf.no k (by rw [HN.out]; exact (List.getElem?_eq_some_iff.1 hk).1)
        rw [hk] at this
        simpa using this)
      have HB := Lib.hid hb
      clear hf hb
      go_wp2
      go_ret
      exact ⟨_, rfl, by rw [HF.out]; exact HO.out.later HB.out, grown_below HB.out _⟩
    · obtain ⟨ri, hri⟩ : ∃ r, l[i]? = some r := ⟨l[i]'(by rw [← HN.out]; exact hi), List.getElem?_eq_getElem _⟩
      have hmi : mayB ri.pre = false := by simp only [hri] at hp; simpa using hp
      have htk : mayL (l.take i) = l.take i := mayL_id (fun r hr => by
        obtain ⟨k, hk⟩ := List.mem_iff_getElem?.1 hr
        rw [List.getElem?_take] at hk
        split at hk
        · have := hf.no k ‹_›
          rw [hk] at this
          simpa using this
        · cases hk)
      have htk1 : mayL (l.take (i + 1)) = l.take i := by rw [mayL_snoc l i ri hri, hmi, htk]; simp
      have H0 : Hid (DelAt w g rest l i (i + 1) w1) := by
        refine ⟨l.drop i, by rw [htk1, List.length_take, ← HN.out]; omega, by rw [htk1, List.take_append_drop], by rw [htk1, List.take_append_drop], ?_⟩
        rw [htk1, List.take_append_drop]
        exact ⟨grown_below hb _, HA.out.row.later hb⟩
      have hneI : ((i : Int) == (-1 : Int)) = false := by rw [beq_eq_false_iff_ne]; omega
      have hiI : (i : Int) ≤ 65536 := by omega
      clear hri hmi htk htk1 hf hp hb
      go_wp2
      go_loopw [5, 6, 7] (fun s t _ wr => ∃ i j : Nat, i < j ∧ j ≤ n ∧ s = .int .i64 i ∧ t = .int .i64 j ∧ Hid (DelAt w g rest l i j wr)) (fun _ t _ _ => n - (intOf t).toNat)
      case atStart => exact ⟨i, i + 1, by omega, hi, rfl, by go_num, H0⟩
      case round =>
        obtain ⟨i, j, hij, hjn, rfl, rfl, HD⟩ := hrel
        have hijI : (i : Int) < j := by omega
        have hjI : (j : Int) ≤ 65536 := by omega
        by_cases hlt : j < n
        · have hltI : (j : Int) < n := by omega
          obtain ⟨r, hr⟩ : ∃ r, l[j]? = some r := ⟨l[j]'(by rw [← HN.out]; exact hlt), List.getElem?_eq_getElem _⟩
          obtain ⟨J, d1, d2, d3, d4⟩ := HD.out.ex
          have hg : (mayL (l.take j) ++ J)[j]? = some r := by
            have h1 : ((mayL (l.take j) ++ J).drop j)[0]? = (l.drop j)[0]? := by rw [d2]
            rw [List.getElem?_drop, List.getElem?_drop, Nat.add_zero] at h1
            rw [h1]; exact hr
          have ld := d4.load hg
          have hst := run_routeStore_new r
          have hal : Below wr.heap.size wr (wr.alloc (.cells (rc r) 34)) := (Below.refl _ _).alloc (Nat.le_refl _) _
          have ld2 := run_routeLoad (newRoute wr r)
          have C2 := mayNot_any r (wr.alloc (.cells (rc r) 34))
          have T2 : ∀ w2, Below (wr.alloc (.cells (rc r) 34)).heap.size (wr.alloc (.cells (rc r) 34)) w2 → (routeLoad ⟨wr.heap.size, 0, none⟩).run Try.prog w2 = .ok (.agg (rc r)) w2 ∧ SW w g rest (mayL (l.take j) ++ J) w2 := fun w2 h2 =>
            ⟨run_routeLoad ((newRoute wr r).later h2), d4.later (hal.trans (h2.mono hal.size))⟩
          have HT2 := Lib.hid T2
          have hsn := mayL_snoc l j r hr
          have hij2 : i < (mayL (l.take j) ++ J).length := by rw [d3, ← HN.out]; omega
          have hdj : ∀ K : List Rt, K.drop j = l.drop j → K.drop (j + 1) = l.drop (j + 1) := fun K hK => by
            rw [← List.drop_drop, hK, List.drop_drop]
          clear T2 hr hg d4
          cases hm : mayB r.pre with
          | true =>
            rw [hm] at C2 hsn
            rw [if_pos rfl] at hsn
            have HC2 := Lib.hid C2
            obtain ⟨y, J', rfl⟩ : ∃ y J', J = y :: J' := List.exists_cons_of_ne_nil (fun h => by rw [h] at hij2; simp at hij2; omega)
            have hset : (mayL (l.take j) ++ y :: J').set i r = mayL (l.take (j + 1)) ++ J' := by
              rw [hsn, ← d1, List.set_append_right _ _ (Nat.le_refl _), Nat.sub_self, List.set_cons_zero, List.append_assoc]; rfl
            have T3 : ∀ w2, SW w g rest (mayL (l.take j) ++ y :: J') w2 → (routeStore ⟨g, i * 19, none⟩ (.agg (rc r))).run Try.prog w2 = .ok () (w2.setRow g (fl (mayL (l.take (j + 1)) ++ J') ++ rest).toArray) ∧ Hid (DelAt w g rest l (i + 1) (j + 1) (w2.setRow g (fl (mayL (l.take (j + 1)) ++ J') ++ rest).toArray)) := fun w2 h2 => by
              obtain ⟨s1, s2⟩ := h2.set hij2 r
              rw [hset] at s1 s2
              refine ⟨s1, J', by rw [hsn, List.length_append, d1]; rfl, ?_, by rw [← hset, List.length_set]; exact d3, s2⟩
              rw [← hset]
              rw [List.drop_set]
              rw [if_pos (by omega)]
              exact hdj _ d2
            have HT3 := Lib.hid T3
            obtain ⟨cs, hcs⟩ : ∃ cs, cs = fl (mayL (l.take (j + 1)) ++ J') ++ rest := ⟨_, rfl⟩
            rw [← hcs] at HT3
            have hinI : (i : Int) < n := by omega
            clear C2 T3 hm hsn hset hdj d1 d2 d3 hcs hij2
            go_wp2_with fail
            refine HC2.out.mono ?_
            rintro e w2 ⟨rfl, h2⟩
            obtain ⟨ld3, hsw⟩ := HT2.out w2 h2
            obtain ⟨st, HD2⟩ := HT3.out w2 hsw
            clear hsw
            go_wp2
            go_roundw
            case rel => exact ⟨i + 1, j + 1, by omega, by omega, by go_num, by go_num, HD2⟩
            case measure => simp [intOf]; omega
          | false =>
            rw [hm] at C2 hsn
            rw [if_neg Bool.false_ne_true, List.append_nil] at hsn
            have HC2 := Lib.hid C2
            have T3 : ∀ w2, SW w g rest (mayL (l.take j) ++ J) w2 → Hid (DelAt w g rest l i (j + 1) w2) := fun w2 h2 =>
              ⟨J, by rw [hsn]; exact d1, by rw [hsn]; exact hdj _ d2, by rw [hsn]; exact d3, by rw [hsn]; exact h2⟩
            have HT3 := Lib.hid T3
            clear C2 T3 hm hsn hdj d1 d2 d3 hij2
            go_wp2_with fail
            refine HC2.out.mono ?_
            rintro e w2 ⟨rfl, h2⟩
            obtain ⟨-, hsw⟩ := HT2.out w2 h2
            have HD2 := HT3.out w2 hsw
            clear hsw
            go_wp2
            go_roundw
            case rel => exact ⟨i, j + 1, by omega, by omega, rfl, by go_num, HD2⟩
            case measure => simp [intOf]; omega
        · obtain rfl : j = n := by omega
          obtain ⟨J, d1, d2, d3, d4⟩ := HD.out.ex
          rw [List.take_of_length_le (by rw [HN.out]; exact Nat.le_refl _)] at d1 d3 d4
          have hrow : Row wr g (fl (mayL l) ++ (fl J ++ rest)) := by have := d4.row; rw [fl_append, List.append_assoc] at this; exact this
          have hJl : (fl J).length = (j - i) * 19 := by rw [fl_length]; congr 1; rw [List.length_append, d1, ← HN.out] at d3; omega
          have hKl : (fl (mayL l)).length = i * 19 := by rw [fl_length, d1]
          have hrs := HA.out.size
          rw [← HN.out] at hrs
          obtain ⟨zs, z1, z2, hcl⟩ := run_clearR hrow (i * 19) (j - i) (cap - i) (by rw [List.length_append, List.length_append, hJl, hKl]; omega)
          rw [List.take_append_of_le_length (by omega), List.take_of_length_le (by omega), ← hKl, List.drop_append, List.drop_of_length_le (by omega), List.nil_append, Nat.add_sub_cancel_left, ← hJl, List.drop_append, List.drop_of_length_le (by omega), List.nil_append, Nat.sub_self, List.drop_zero, hKl, List.append_assoc] at hcl
          have HF : Hid (Own (wr.setRow g (fl (mayL l) ++ (zs ++ rest)).toArray) base (.slice (some ⟨g, 0, none⟩) i cap) (mayL l)) := by
            have h1 : OwnAt (wr.setRow g (fl (mayL l) ++ (zs ++ rest)).toArray) base g cap (mayL l) (zs ++ rest) := ⟨HA.out.base, hrow.set _, by rw [List.length_append, z1, d1, hrs]; omega, by rw [d1]; omega, HA.out.max⟩
            have h2 := h1.own
            rw [d1] at h2
            exact h2
          have HG : Hid (w.grownBy (wr.setRow g (fl (mayL l) ++ (zs ++ rest)).toArray) (some g)) := grown_trans d4.grown (grown_setRow _ _ _)
          obtain ⟨cs, hcs⟩ : ∃ cs, cs = fl (mayL l) ++ (zs ++ rest) := ⟨_, rfl⟩
          rw [← hcs] at hcl HF HG
          have hci : ¬ cap = i := by omega
          have hinI : (i : Int) ≤ j := by omega
          clear hcs hrs z1 z2 hJl hKl hrow d1 d2 d3 d4
          go_wp2
          go_ret
          exact ⟨_, rfl, HF.out, HG.out⟩
end Go.Proofs.Ytcpdpcfejpbdpaa
