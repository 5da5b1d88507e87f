/- slices.Reverse, DeleteFunc over routes (those that may not be). slices.CompactFunc over routes: of those of one prefix, one behind the other, the first. -/
import Derived.Test.YtggjcjijoihilaaTabStable
import Derived.Test.YtggjcjijoihilaaTabMem
import Derived.Test.YtggjcjijoihilaaTabBase
namespace Go.Proofs.Ytggjcjijoihilaa
open Go.RowKit Go.Sort Go.Shelf Go.Deep
attribute [local go_sem ↓] loadVar_key loadVar_pre loadVar_route storeVar_pre storeVar_route buildSlice_row

/-- How far a row is turned round. -/
structure RevAt (w0 : World) (g : Nat) (rest : List Value) (L0 : List Rt) (i : Nat) (W : World) : Prop where
  ex : ∃ P M Q : List Rt, P.length = i ∧ Q.length = i ∧ L0 = Q.reverse ++ M ++ P.reverse ∧ SW w0 g rest (P ++ M ++ Q) W

set_option maxHeartbeats 4000000 in
set_option maxRecDepth 100000 in
theorem reverse_any (w0 : World) (g : Nat) (rest : List Value) (L0 : List Rt) (n cap : Nat) (W : World) (h : SW w0 g rest L0 W) (hn : L0.length = n) (h16 : n ≤ 65536) :
    Calls Try.prog 47 #[.slice (some ⟨g, 0, none⟩) n cap] W (SwPost w0 g rest L0.reverse) := by
  have hnI : (n : Int) ≤ 65536 := by omega
  have mixed : Try.prog.follows .mixedOrders = true := by kernel_rfl
  have H0 : Hid (RevAt w0 g rest L0 0 W) := ⟨[], L0, [], rfl, rfl, by simp, by simpa using h⟩
  have HN := Lib.hid hn
  clear h hn
  unfold SwPost
  go_enter Try.func47, Try.ntmps47
  go_wp2
  go_loopw [2, 3] (fun s t wr => ∃ (i : Nat) (z : Int), s = .int .i64 i ∧ t = .int .i64 z ∧ Hid (z = (n : Int) - 1 - i ∧ 2 * i ≤ n) ∧ Hid (RevAt w0 g rest L0 i wr)) (fun s _ _ => n - (intOf s).toNat)
  case atStart => exact ⟨0, _, rfl, rfl, ⟨by omega, by omega⟩, H0⟩
  case round =>
    obtain ⟨i, z, rfl, rfl, HZ, HR⟩ := hrel
    have hz1 := HZ.out.1
    have hz2 := HZ.out.2
    by_cases hlt : 2 * i + 1 < n
    · obtain ⟨q, rfl⟩ : ∃ q : Nat, z = q := ⟨n - 1 - i, by omega⟩
      have hq : q = n - 1 - i := by omega
      have hltI : (i : Int) < q := by omega
      have hqn : (q : Int) < n := by omega
      have hin : (i : Int) < n := by omega
      obtain ⟨P, M, Q, e1, e2, e3, e4⟩ := HR.out.ex
      have hl : P.length + M.length + Q.length = n := by
        rw [← HN.out, e3]; simp only [List.length_append, List.length_reverse]; omega
      obtain ⟨x, M1, rfl⟩ : ∃ x M1, M = x :: M1 := List.exists_cons_of_ne_nil (fun h => by rw [h] at hl; simp at hl; omega)
      rcases List.eq_nil_or_concat M1 with rfl | ⟨M2, y, hM⟩
      · exfalso; simp at hl; omega
      · rw [List.concat_eq_append] at hM
        subst hM
        have hd : SW w0 g rest (P ++ x :: (M2 ++ y :: Q)) wr.drew := by simpa using e4.drew
        have k1 := get_first P (M2 ++ y :: Q) x
        have k2 := get_second P M2 Q x y
        have p2 : P.length + 1 + M2.length = q := by simp only [List.length_cons, List.length_append, List.length_nil] at hl; omega
        have l1 := hd.load k1
        have l2 := hd.load k2
        obtain ⟨X, Y, s1, s2, hsw⟩ := hd.swap (List.getElem?_eq_some_iff.1 k1).1 (List.getElem?_eq_some_iff.1 k2).1 x y
        rw [swap_two] at hsw
        rw [p2] at l2 s2
        rw [e1] at l1 s1
        have H2 : Hid (RevAt w0 g rest L0 (i + 1) ((wr.drew.setRow g X).setRow g Y)) := by
          refine ⟨P ++ [y], M2, x :: Q, by simp [e1], by simp [e2], by rw [e3]; simp, by simpa using hsw⟩
        have HZ2 : Hid ((q : Int) - 1 = (n : Int) - 1 - ((i + 1 : Nat) : Int) ∧ 2 * (i + 1) ≤ n) := ⟨by omega, by omega⟩
        clear hz1 hd hsw k1 k2 p2 e1 e2 e3 e4 hq HZ
        go_wp2_with fail
        go_big_region_o
        all_goals go_wp2
        go_roundw
        case rel => exact ⟨i + 1, _, by go_num, rfl, HZ2, H2⟩
        case measure => simp [intOf]; omega
    · have hltI : ¬ (i : Int) < z := by omega
      obtain ⟨P, M, Q, e1, e2, e3, e4⟩ := HR.out.ex
      have hl : P.length + M.length + Q.length = n := by
        rw [← HN.out, e3]; simp only [List.length_append, List.length_reverse]; omega
      have hM : M.reverse = M := by
        match M, hl with
        | [], _ => rfl
        | [x], _ => rfl
        | x :: y :: t, hl => simp at hl; omega
      have HF : Hid (SW w0 g rest L0.reverse wr) := by
        show SW _ _ _ _ _
        rw [e3]
        simp only [List.reverse_append, List.reverse_reverse, hM]
        simpa using e4
      clear hz1 hM e1 e2 e3 e4 HZ
      go_wp2
      go_end0
      exact ⟨rfl, HF.out⟩

theorem reverse_nil (W : World) : Calls Try.prog 47 #[.slice none 0 0] W fun e w' => e = .returned (.tuple #[]) ∧ W = w' := by
  go_enter Try.func47, Try.ntmps47
  go_wp2
  go_loop [2, 3] (fun s t => s = .int .i64 0 ∧ t = .int .i64 (-1)) (fun _ _ => 0)
  case atStart => exact ⟨rfl, rfl⟩
  case round =>
    obtain ⟨rfl, rfl⟩ := hrel
    go_wp2
    go_end0
    exact ⟨rfl, rfl⟩

set_option maxHeartbeats 1000000 in
set_option maxRecDepth 100000 in
theorem mayNot_any (r : Rt) (w : World) : Calls Try.prog 46 #[.agg (rc r)] w fun e w' => e = .returned (.bool (!mayB r.pre)) ∧ Below w.heap.size w w' := by
  have lp := run_preLoadA (newRoute w r).pre
  have C := may_any r.pre r.hk (w.alloc (.cells (rc r) 34))
  have hb : Below w.heap.size w (w.alloc (.cells (rc r) 34)) := (Below.refl _ _).alloc (Nat.le_refl _) _
  obtain ⟨b, hbm⟩ : ∃ b, b = mayB r.pre := ⟨_, rfl⟩
  rw [← hbm] at C ⊢
  have HC := Lib.hid C
  clear C hbm
  go_enter Try.func46, Try.ntmps46
  go_wp2_with fail
  refine HC.out.mono ?_
  rintro e w1 ⟨rfl, h1⟩
  have HB := Lib.hid (hb.trans (h1.mono hb.size))
  go_wp2
  go_ret
  exact ⟨rfl, HB.out⟩

def mayL (l : List Rt) : List Rt := l.filter fun r => mayB r.pre

/-- How far a list is gone through: who is kept stands ahead. -/
structure DelAt (w0 : World) (g : Nat) (rest : List Value) (l : List Rt) (i j : Nat) (W : World) : Prop where
  ex : ∃ J : List Rt, (mayL (l.take j)).length = i ∧ (mayL (l.take j) ++ J).drop j = l.drop j ∧ (mayL (l.take j) ++ J).length = l.length ∧ SW w0 g rest (mayL (l.take j) ++ J) W

theorem mayL_snoc (l : List Rt) (j : Nat) (r : Rt) (h : l[j]? = some r) : mayL (l.take (j + 1)) = mayL (l.take j) ++ (if mayB r.pre = true then [r] else []) := by
  unfold mayL
  rw [List.take_add_one, h, List.filter_append]
  congr 1
  by_cases hm : mayB r.pre = true <;> simp [hm]
theorem mayL_le (l : List Rt) (j : Nat) : (mayL (l.take j)).length ≤ j := Nat.le_trans (List.length_filter_le _ _) (by rw [List.length_take]; omega)
theorem mayL_id {l : List Rt} (h : ∀ r ∈ l, mayB r.pre = true) : mayL l = l := List.filter_eq_self.2 h

set_option maxHeartbeats 8000000 in
set_option maxRecDepth 100000 in
theorem deleteFunc_any (l : List Rt) (v : Value) (base : Nat) (w : World) (ho : Own w base v l) (h16 : l.length ≤ 65536) :
    Calls Try.prog 45 #[v, .func (.func 46) #[] #[]] w (MutPost w base v (mayL l)) := by
  have eg := enters_of Try.func46 (by kernel_rfl) rfl
  have C := index_any l v 46 #[] (fun i => match l[i]? with | some r => !mayB r.pre | none => false) (fun _ W => Below w.heap.size w W) w (fun i W h => ho.rd.later h) eg (fun i r W hr hb => by
    refine (mayNot_any r W).mono ?_
    rintro e w' ⟨rfl, h1⟩
    exact ⟨by simp [hr], hb.trans (h1.mono hb.size)⟩) (Below.refl _ _)
  have HC := Lib.hid C
  have HO := Lib.hid ho
  clear C
  unfold MutPost
  rcases ho.at' with ⟨rfl, rfl⟩ | ⟨g, cap, rest, rfl, hat⟩
  · clear ho
    go_enter Try.func45, Try.ntmps45
    go_wp2_with fail
    refine HC.out.mono ?_
    rintro e w1 (⟨rfl, -, hb⟩ | ⟨i, hi, -⟩)
    · go_wp2
      go_ret
      exact ⟨_, rfl, own_nil _ _, grown_below hb _⟩
    · exact absurd hi (Nat.not_lt_zero _)
  · obtain ⟨n, hn⟩ : ∃ n, n = l.length := ⟨_, rfl⟩
    have HA := Lib.hid hat
    rw [← hn] at HC h16 HO ⊢
    have HN := Lib.hid hn
    have hnI : (n : Int) ≤ 65536 := by omega
    have hnc : n ≤ cap := by rw [hn]; exact hat.le
    have hcm := hat.max
    unfold maxLen at hcm
    have hcI : (cap : Int) ≤ 9223372036854775807 := by omega
    clear hn hat ho
    go_enter Try.func45, Try.ntmps45
    go_wp2_with fail
    refine HC.out.mono ?_
    rintro e w1 (⟨rfl, hf, hb⟩ | ⟨i, hi, rfl, hf, hp, hb⟩)
    · have HF : Hid (mayL l = l) := mayL_id (fun r hr => by
        obtain ⟨k, hk⟩ := List.mem_iff_getElem?.1 hr
        have := hf.no k (by rw [HN.out]; exact (List.getElem?_eq_some_iff.1 hk).1)
        rw [hk] at this
        simpa using this)
      have HB := Lib.hid hb
      clear hf hb
      go_wp2
      go_ret
      exact ⟨_, rfl, by rw [HF.out]; exact HO.out.later HB.out, grown_below HB.out _⟩
    · obtain ⟨ri, hri⟩ : ∃ r, l[i]? = some r := ⟨l[i]'(by rw [← HN.out]; exact hi), List.getElem?_eq_getElem _⟩
      have hmi : mayB ri.pre = false := by simp only [hri] at hp; simpa using hp
      have htk : mayL (l.take i) = l.take i := mayL_id (fun r hr => by
        obtain ⟨k, hk⟩ := List.mem_iff_getElem?.1 hr
        rw [List.getElem?_take] at hk
        split at hk
        · have := hf.no k ‹_›
          rw [hk] at this
          simpa using this
        · cases hk)
      have htk1 : mayL (l.take (i + 1)) = l.take i := by rw [mayL_snoc l i ri hri, hmi, htk]; simp
      have H0 : Hid (DelAt w g rest l i (i + 1) w1) := by
        refine ⟨l.drop i, by rw [htk1, List.length_take, ← HN.out]; omega, by rw [htk1, List.take_append_drop], by rw [htk1, List.take_append_drop], ?_⟩
        rw [htk1, List.take_append_drop]
        exact ⟨grown_below hb _, HA.out.row.later hb⟩
      have hneI : ((i : Int) == (-1 : Int)) = false := by rw [beq_eq_false_iff_ne]; omega
      have hiI : (i : Int) ≤ 65536 := by omega
      clear hri hmi htk htk1 hf hp hb
      go_wp2
      go_loopw [5, 6, 7] (fun s t _ wr => ∃ i j : Nat, i < j ∧ j ≤ n ∧ s = .int .i64 i ∧ t = .int .i64 j ∧ Hid (DelAt w g rest l i j wr)) (fun _ t _ _ => n - (intOf t).toNat)
      case atStart => exact ⟨i, i + 1, by omega, hi, rfl, by go_num, H0⟩
      case round =>
        obtain ⟨i, j, hij, hjn, rfl, rfl, HD⟩ := hrel
        have hijI : (i : Int) < j := by omega
        have hjI : (j : Int) ≤ 65536 := by omega
        by_cases hlt : j < n
        · have hltI : (j : Int) < n := by omega
          obtain ⟨r, hr⟩ : ∃ r, l[j]? = some r := ⟨l[j]'(by rw [← HN.out]; exact hlt), List.getElem?_eq_getElem _⟩
          obtain ⟨J, d1, d2, d3, d4⟩ := HD.out.ex
          have hg : (mayL (l.take j) ++ J)[j]? = some r := by
            have h1 : ((mayL (l.take j) ++ J).drop j)[0]? = (l.drop j)[0]? := by rw [d2]
            rw [List.getElem?_drop, List.getElem?_drop, Nat.add_zero] at h1
            rw [h1]; exact hr
          have ld := d4.load hg
          have hst := run_routeStore_new r
          have hal : Below wr.heap.size wr (wr.alloc (.cells (rc r) 34)) := (Below.refl _ _).alloc (Nat.le_refl _) _
          have ld2 := run_routeLoad (newRoute wr r)
          have C2 := mayNot_any r (wr.alloc (.cells (rc r) 34))
          have T2 : ∀ w2, Below (wr.alloc (.cells (rc r) 34)).heap.size (wr.alloc (.cells (rc r) 34)) w2 → (routeLoad ⟨wr.heap.size, 0, none⟩).run Try.prog w2 = .ok (.agg (rc r)) w2 ∧ SW w g rest (mayL (l.take j) ++ J) w2 := fun w2 h2 =>
            ⟨run_routeLoad ((newRoute wr r).later h2), d4.later (hal.trans (h2.mono hal.size))⟩
          have HT2 := Lib.hid T2
          have hsn := mayL_snoc l j r hr
          have hij2 : i < (mayL (l.take j) ++ J).length := by rw [d3, ← HN.out]; omega
          have hdj : ∀ K : List Rt, K.drop j = l.drop j → K.drop (j + 1) = l.drop (j + 1) := fun K hK => by
            rw [← List.drop_drop, hK, List.drop_drop]
          clear T2 hr hg d4
          cases hm : mayB r.pre with
          | true =>
            rw [hm] at C2 hsn
            rw [if_pos rfl] at hsn
            have HC2 := Lib.hid C2
            obtain ⟨y, J', rfl⟩ : ∃ y J', J = y :: J' := List.exists_cons_of_ne_nil (fun h => by rw [h] at hij2; simp at hij2; omega)
            have hset : (mayL (l.take j) ++ y :: J').set i r = mayL (l.take (j + 1)) ++ J' := by
              rw [hsn, ← d1, List.set_append_right _ _ (Nat.le_refl _), Nat.sub_self, List.set_cons_zero, List.append_assoc]; rfl
            have T3 : ∀ w2, SW w g rest (mayL (l.take j) ++ y :: J') w2 → (routeStore ⟨g, i * 19, none⟩ (.agg (rc r))).run Try.prog w2 = .ok () (w2.setRow g (fl (mayL (l.take (j + 1)) ++ J') ++ rest).toArray) ∧ Hid (DelAt w g rest l (i + 1) (j + 1) (w2.setRow g (fl (mayL (l.take (j + 1)) ++ J') ++ rest).toArray)) := fun w2 h2 => by
              obtain ⟨s1, s2⟩ := h2.set hij2 r
              rw [hset] at s1 s2
              refine ⟨s1, J', by rw [hsn, List.length_append, d1]; rfl, ?_, by rw [← hset, List.length_set]; exact d3, s2⟩
              rw [← hset]
              rw [List.drop_set]
              rw [if_pos (by omega)]
              exact hdj _ d2
            have HT3 := Lib.hid T3
            obtain ⟨cs, hcs⟩ : ∃ cs, cs = fl (mayL (l.take (j + 1)) ++ J') ++ rest := ⟨_, rfl⟩
            rw [← hcs] at HT3
            have hinI : (i : Int) < n := by omega
            clear C2 T3 hm hsn hset hdj d1 d2 d3 hcs hij2
            go_wp2_with fail
            refine HC2.out.mono ?_
            rintro e w2 ⟨rfl, h2⟩
            obtain ⟨ld3, hsw⟩ := HT2.out w2 h2
            obtain ⟨st, HD2⟩ := HT3.out w2 hsw
            clear hsw
            go_wp2
            go_roundw
            case rel => exact ⟨i + 1, j + 1, by omega, by omega, by go_num, by go_num, HD2⟩
            case measure => simp [intOf]; omega
          | false =>
            rw [hm] at C2 hsn
            rw [if_neg Bool.false_ne_true, List.append_nil] at hsn
            have HC2 := Lib.hid C2
            have T3 : ∀ w2, SW w g rest (mayL (l.take j) ++ J) w2 → Hid (DelAt w g rest l i (j + 1) w2) := fun w2 h2 =>
              ⟨J, by rw [hsn]; exact d1, by rw [hsn]; exact hdj _ d2, by rw [hsn]; exact d3, by rw [hsn]; exact h2⟩
            have HT3 := Lib.hid T3
            clear C2 T3 hm hsn hdj d1 d2 d3 hij2
            go_wp2_with fail
            refine HC2.out.mono ?_
            rintro e w2 ⟨rfl, h2⟩
            obtain ⟨-, hsw⟩ := HT2.out w2 h2
            have HD2 := HT3.out w2 hsw
            clear hsw
            go_wp2
            go_roundw
            case rel => exact ⟨i, j + 1, by omega, by omega, rfl, by go_num, HD2⟩
            case measure => simp [intOf]; omega
        · obtain rfl : j = n := by omega
          obtain ⟨J, d1, d2, d3, d4⟩ := HD.out.ex
          rw [List.take_of_length_le (by rw [HN.out]; exact Nat.le_refl _)] at d1 d3 d4
          have hrow : Row wr g (fl (mayL l) ++ (fl J ++ rest)) := by have := d4.row; rw [fl_append, List.append_assoc] at this; exact this
          have hJl : (fl J).length = (j - i) * 19 := by rw [fl_length]; congr 1; rw [List.length_append, d1, ← HN.out] at d3; omega
          have hKl : (fl (mayL l)).length = i * 19 := by rw [fl_length, d1]
          have hrs := HA.out.size
          rw [← HN.out] at hrs
          obtain ⟨zs, z1, z2, hcl⟩ := run_clearR hrow (i * 19) (j - i) (cap - i) (by rw [List.length_append, List.length_append, hJl, hKl]; omega)
          rw [List.take_append_of_le_length (by omega), List.take_of_length_le (by omega), ← hKl, List.drop_append, List.drop_of_length_le (by omega), List.nil_append, Nat.add_sub_cancel_left, ← hJl, List.drop_append, List.drop_of_length_le (by omega), List.nil_append, Nat.sub_self, List.drop_zero, hKl, List.append_assoc] at hcl
          have HF : Hid (Own (wr.setRow g (fl (mayL l) ++ (zs ++ rest)).toArray) base (.slice (some ⟨g, 0, none⟩) i cap) (mayL l)) := by
            have h1 : OwnAt (wr.setRow g (fl (mayL l) ++ (zs ++ rest)).toArray) base g cap (mayL l) (zs ++ rest) := ⟨HA.out.base, hrow.set _, by rw [List.length_append, z1, d1, hrs]; omega, by rw [d1]; omega, HA.out.max⟩
            have h2 := h1.own
            rw [d1] at h2
            exact h2
          have HG : Hid (w.grownBy (wr.setRow g (fl (mayL l) ++ (zs ++ rest)).toArray) (some g)) := grown_trans d4.grown (grown_setRow _ _ _)
          obtain ⟨cs, hcs⟩ : ∃ cs, cs = fl (mayL l) ++ (zs ++ rest) := ⟨_, rfl⟩
          rw [← hcs] at hcl HF HG
          have hci : ¬ cap = i := by omega
          have hinI : (i : Int) ≤ j := by omega
          clear hcs hrs z1 z2 hJl hKl hrow d1 d2 d3 d4
          go_wp2
          go_ret
          exact ⟨_, rfl, HF.out, HG.out⟩
end Go.Proofs.Ytggjcjijoihilaa
namespace Go.Proofs.Ytggjcjijoihilaa
open Go.RowKit Go.Sort Go.Shelf Go.Deep
attribute [local go_sem ↓] loadVar_key loadVar_pre loadVar_route storeVar_pre storeVar_route buildSlice_row binOp_preEql

set_option maxHeartbeats 1000000 in
set_option maxRecDepth 100000 in
theorem sameP_any (r s : Rt) (w : World) : Calls Try.prog 51 #[.agg (rc r), .agg (rc s)] w fun e w' => e = .returned (.bool (preEq r.pre s.pre)) ∧ Below w.heap.size w w' := by
  obtain ⟨cr, cs, hb, hz⟩ := rows_two' w r s
  have l1 := run_preLoadA cr.pre
  have l2 := run_preLoadA cs.pre
  have E := fun W => run_preEql r.pre s.pre W
  clear cr cs hz
  go_enter Try.func51, Try.ntmps51
  go_wp2
  go_ret
  exact ⟨rfl, hb⟩

def keepAt (l : List Rt) : Nat → Bool
  | 0 => true
  | j + 1 => match l[j + 1]?, l[j]? with
    | some r, some s => !preEq r.pre s.pre
    | _, _ => true
def kept (l : List Rt) : Nat → List Rt
  | 0 => []
  | j + 1 => kept l j ++ (match l[j]? with
    | some r => if keepAt l j = true then [r] else []
    | none => [])
def keptL (l : List Rt) : List Rt := kept l l.length

theorem kept_succ (l : List Rt) (j : Nat) : kept l (j + 1) = kept l j ++ (match l[j]? with
    | some r => if keepAt l j = true then [r] else []
    | none => []) := rfl
theorem kept_le (l : List Rt) : ∀ j, (kept l j).length ≤ j
  | 0 => Nat.le_refl _
  | j + 1 => by
    have := kept_le l j
    rw [kept_succ, List.length_append]
    split
    · split <;> simp <;> omega
    · simp; omega
theorem kept_yes {l : List Rt} {j : Nat} {r : Rt} (h : l[j]? = some r) (hk : keepAt l j = true) : kept l (j + 1) = kept l j ++ [r] := by
  rw [kept_succ, h]; simp [hk]
theorem kept_no {l : List Rt} {j : Nat} {r : Rt} (h : l[j]? = some r) (hk : keepAt l j = false) : kept l (j + 1) = kept l j := by
  rw [kept_succ, h]; simp [hk]
theorem kept_all {l : List Rt} {k : Nat} (hl : k ≤ l.length) (h : ∀ j, j < k → keepAt l j = true) : kept l k = l.take k := by
  induction k with
  | zero => simp [kept]
  | succ k ih =>
    have hk : l[k]? = some (l[k]'(by omega)) := List.getElem?_eq_getElem _
    rw [kept_yes hk (h k (by omega)), ih (by omega) (fun j hj => h j (by omega)), List.take_add_one, hk]; rfl
theorem keep_at {l : List Rt} {j : Nat} {r s : Rt} (hr : l[j + 1]? = some r) (hs : l[j]? = some s) : keepAt l (j + 1) = !preEq r.pre s.pre := by
  show (match l[j + 1]?, l[j]? with
    | some r, some s => !preEq r.pre s.pre
    | _, _ => true) = _
  rw [hr, hs]

/-- How far a list is gone through: who is kept stands ahead, and the last one that was looked at is as it was. -/
structure ComAt (w0 : World) (g : Nat) (rest : List Value) (l : List Rt) (i j : Nat) (W : World) : Prop where
  ex : ∃ J : List Rt, (kept l j).length = i ∧ i + 1 ≤ j ∧ (kept l j ++ J).drop (j - 1) = l.drop (j - 1) ∧ (kept l j ++ J).length = l.length ∧ SW w0 g rest (kept l j ++ J) W

set_option maxHeartbeats 8000000 in
set_option maxRecDepth 100000 in
theorem compact_any (l : List Rt) (v : Value) (base : Nat) (w : World) (ho : Own w base v l) (h16 : l.length ≤ 65536) :
    Calls Try.prog 50 #[v, .func (.func 51) #[] #[]] w (MutPost w base v (keptL l)) := by
  have eg := enters_of Try.func51 (by kernel_rfl) rfl
  have HO := Lib.hid ho
  unfold MutPost
  rcases ho.at' with ⟨rfl, rfl⟩ | ⟨g, cap, rest, rfl, hat⟩
  · clear ho
    go_enter Try.func50, Try.ntmps50
    go_wp2
    go_ret
    exact ⟨_, rfl, own_nil _ _, grown_refl _ _⟩
  · obtain ⟨n, hn⟩ : ∃ n, n = l.length := ⟨_, rfl⟩
    have HA := Lib.hid hat
    rw [← hn] at h16 HO ⊢
    have HN := Lib.hid hn
    have hnI : (n : Int) ≤ 65536 := by omega
    have hnc : n ≤ cap := by rw [hn]; exact hat.le
    have hcm := hat.max
    unfold maxLen at hcm
    have hcI : (cap : Int) ≤ 9223372036854775807 := by omega
    have mixed : Try.prog.follows .mixedOrders = true := by kernel_rfl
    clear hn hat ho
    by_cases h2 : n < 2
    · have h2I : (n : Int) < 2 := by omega
      have HK : Hid (keptL l = l) := by
        show _ = _
        unfold keptL
        rw [kept_all (Nat.le_refl _), List.take_of_length_le (Nat.le_refl _)]
        intro j hj
        have : j = 0 := by have := HN.out; omega
        subst this; rfl
      go_enter Try.func50, Try.ntmps50
      go_wp2
      go_ret
      exact ⟨_, rfl, by rw [HK.out]; exact HO.out, grown_refl _ _⟩
    · have h2I : ¬ (n : Int) < 2 := by omega
      have H0 : Hid (SW w g rest l w) := ⟨grown_refl _ _, HA.out.row⟩
      go_enter Try.func50, Try.ntmps50
      go_wp2
      go_loopw [5] (fun t wr => ∃ k : Nat, 0 < k ∧ k ≤ n ∧ t = .int .i64 k ∧ Hid (∀ j, j < k → keepAt l j = true) ∧ Hid (Below w.heap.size w wr)) (fun t _ => n - (intOf t).toNat)
      case atStart => exact ⟨1, by decide, by omega, rfl, fun j hj => by obtain rfl : j = 0 := by omega
                                                                         rfl, Below.refl _ _⟩
      case round =>
        obtain ⟨k, hk0, hkn, rfl, HK, HB⟩ := hrel
        obtain ⟨kp, rfl⟩ : ∃ kp, k = kp + 1 := ⟨k - 1, by omega⟩
        have hkI : (kp : Int) + 1 ≤ 65536 := by omega
        by_cases hlt : kp + 1 < n
        · have hltI : (kp : Int) + 1 < n := by omega
          have hlt2 : (kp : Int) < n := by omega
          have p0 : (0 : Int) ≤ (kp : Int) + 1 := by omega
          have e0 : ((kp : Int) + 1).toNat = kp + 1 := by omega
          have w0 : IntKind.i64.wrap (kp : Int) = (kp : Int) := by rw [IntKind.wrap_i64]; omega
          obtain ⟨r, hr⟩ : ∃ r, l[kp + 1]? = some r := ⟨l[kp + 1]'(by rw [← HN.out]; exact hlt), List.getElem?_eq_getElem _⟩
          obtain ⟨s, hs⟩ : ∃ s, l[kp]? = some s := ⟨l[kp]'(by rw [← HN.out]; omega), List.getElem?_eq_getElem _⟩
          have hsw : SW w g rest l wr := (H0.out).later HB.out
          have L1 := fun d os => (hsw.later (below_regrown wr d os)).load hr
          have L2 := fun d os => (hsw.later (below_regrown wr d os)).load hs
          have C1 := fun d os => Calls.regrown_of (sameP_any r s (grow (redrawn wr d) os))
          have hka := keep_at hr hs
          have HR := Lib.hid hr
          have HS := Lib.hid hs
          clear hr hs hsw
          cases hp : preEq r.pre s.pre with
          | false =>
            rw [hp] at C1 hka
            have HK2 : Hid (∀ j, j < kp + 1 + 1 → keepAt l j = true) := fun j hj => by
              by_cases e : j = kp + 1
              · rw [e]; exact hka
              · exact HK.out j (by omega)
            clear hp hka
            go_wp2_with fail
            refine wp_region_quiet_below (by kernel_rfl) (by kernel_rfl) ?_
            repeat (go_big_quiet_step (exact C1 _ _))
            refine wpQuiet_nil fun w3 hw3 => ?_
            have hb3 : Below wr.heap.size wr w3 := by
              obtain ⟨p, rfl⟩ := hw3
              exact below_regrown wr p.d p.os
            have HB3 := Lib.hid (HB.out.trans (hb3.mono HB.out.size))
            clear hw3 L1 L2 C1 hb3
            go_wp2
            go_roundw
            case rel => exact ⟨kp + 1 + 1, by omega, by omega, by go_num, HK2, HB3⟩
            case measure => simp [intOf]; omega
          | true =>
            rw [hp] at C1 hka
            have hkk : kept l (kp + 1 + 1) = l.take (kp + 1) := by
              rw [kept_no HR.out hka, kept_all (by rw [← HN.out]; omega) HK.out]
            have HC0 : Hid (∀ w3, Below w.heap.size w w3 → ComAt w g rest l (kp + 1) (kp + 1 + 1) w3) := fun w3 hb => by
              refine ⟨l.drop (kp + 1), by rw [hkk, List.length_take, ← HN.out]; omega, Nat.le_refl _, by rw [hkk, List.take_append_drop], by rw [hkk, List.take_append_drop], ?_⟩
              rw [hkk, List.take_append_drop]
              exact H0.out.later hb
            have hck : ¬ cap = kp + 1 := by omega
            clear hp hka hkk
            go_wp2_with fail
            refine wp_region_quiet_below (by kernel_rfl) (by kernel_rfl) ?_
            repeat (go_big_quiet_step (exact C1 _ _))
            refine wpQuiet_nil fun w3 hw3 => ?_
            have hb3 : Below wr.heap.size wr w3 := by
              obtain ⟨p, rfl⟩ := hw3
              exact below_regrown wr p.d p.os
            have HC1 := Lib.hid (HC0.out w3 (HB.out.trans (hb3.mono HB.out.size)))
            clear hw3 L1 L2 C1 hb3
            go_wp2
            go_loopw [5, 7] (fun s t wr => ∃ i q : Nat, kp + 1 + q + 1 ≤ n ∧ i ≤ kp + 1 + q ∧ s = .int .i64 i ∧ t = .int .i64 ((q : Int) + 1) ∧ Hid (ComAt w g rest l i (kp + 1 + q + 1) wr)) (fun _ t _ => n - (intOf t).toNat)
            case atStart => exact ⟨kp + 1, 0, by omega, by omega, by first | rfl | go_num, by first | rfl | go_num, HC1⟩
            case round =>
              obtain ⟨i, q, hqn, hiq, rfl, rfl, HC⟩ := hrel
              have hqI : (q : Int) ≤ 65536 := by omega
              have hiI : (i : Int) ≤ 65536 := by omega
              by_cases hlt3 : kp + 1 + q + 1 < n
              · have hltI3 : (q : Int) + 1 < ((n - (kp + 1) : Nat) : Int) := by omega
                have hltI4 : (q : Int) < ((n - (kp + 1) : Nat) : Int) := by omega
                have p1 : (0 : Int) ≤ (q : Int) + 1 := by omega
                have e1 : ((q : Int) + 1).toNat = q + 1 := by omega
                have w1 : IntKind.i64.wrap (q : Int) = (q : Int) := by rw [IntKind.wrap_i64]; omega
                obtain ⟨r1, hr1⟩ : ∃ r, l[kp + 1 + q + 1]? = some r := ⟨l[kp + 1 + q + 1]'(by rw [← HN.out]; exact hlt3), List.getElem?_eq_getElem _⟩
                obtain ⟨s1, hs1⟩ : ∃ s, l[kp + 1 + q]? = some s := ⟨l[kp + 1 + q]'(by rw [← HN.out]; omega), List.getElem?_eq_getElem _⟩
                obtain ⟨J, d1, d0, d2, d3, d4⟩ := HC.out.ex
                rw [Nat.add_sub_cancel] at d2
                have hdr : ∀ t, (kept l (kp + 1 + q + 1) ++ J)[kp + 1 + q + t]? = l[kp + 1 + q + t]? := fun t => by
                  have h1 : ((kept l (kp + 1 + q + 1) ++ J).drop (kp + 1 + q))[t]? = (l.drop (kp + 1 + q))[t]? := by rw [d2]
                  rwa [List.getElem?_drop, List.getElem?_drop] at h1
                have g1 : (kept l (kp + 1 + q + 1) ++ J)[kp + 1 + q + 1]? = some r1 := by rw [hdr 1]; exact hr1
                have g2 : (kept l (kp + 1 + q + 1) ++ J)[kp + 1 + q]? = some s1 := (hdr 0).trans hs1
                have L1 := fun d os => (d4.later (below_regrown wr d os)).load g1
                have L2 := fun d os => (d4.later (below_regrown wr d os)).load g2
                have C1 := fun d os => Calls.regrown_of (sameP_any r1 s1 (grow (redrawn wr d) os))
                simp only [show ∀ t, (kp + 1 + t) * 19 = (kp + 1) * 19 + t * 19 from fun t => Nat.add_mul _ _ _, show kp + 1 + q + 1 = kp + 1 + (q + 1) from Nat.add_assoc _ _ _] at L1 L2
                have hka := keep_at hr1 hs1
                have hi2 : i < (kept l (kp + 1 + q + 1) ++ J).length := by rw [d3, ← HN.out]; omega
                have hinI : (i : Int) < n := by omega
                cases hp : preEq r1.pre s1.pre with
                | true =>
                  rw [hp] at C1 hka
                  have hkk : kept l (kp + 1 + (q + 1) + 1) = kept l (kp + 1 + q + 1) := kept_no hr1 hka
                  have HC2 : Hid (∀ w3, Below wr.heap.size wr w3 → ComAt w g rest l i (kp + 1 + (q + 1) + 1) w3) := fun w3 hb => by
                    refine ⟨J, by rw [hkk]; exact d1, by omega, ?_, by rw [hkk]; exact d3, by rw [hkk]; exact d4.later hb⟩
                    rw [hkk, Nat.add_sub_cancel, show kp + 1 + (q + 1) = kp + 1 + q + 1 by omega, ← List.drop_drop, d2, List.drop_drop]
                  clear hp hka hkk d1 d0 d2 d3 d4 g1 g2 hdr hr1 hs1 hi2
                  go_wp2_with fail
                  refine wp_region_quiet_below (by kernel_rfl) (by kernel_rfl) ?_
                  repeat (go_big_quiet_step (exact C1 _ _))
                  refine wpQuiet_nil fun w3 hw3 => ?_
                  have hb3 : Below wr.heap.size wr w3 := by
                    obtain ⟨p, rfl⟩ := hw3
                    exact below_regrown wr p.d p.os
                  have HC3 := Lib.hid (HC2.out w3 hb3)
                  clear hw3 L1 L2 C1 hb3
                  go_wp2
                  go_roundw
                  case rel => exact ⟨i, q + 1, by omega, by omega, rfl, by go_num, HC3⟩
                  case measure => simp [intOf]; omega
                | false =>
                  rw [hp] at C1 hka
                  have hkk : kept l (kp + 1 + (q + 1) + 1) = kept l (kp + 1 + q + 1) ++ [r1] := kept_yes hr1 hka
                  obtain ⟨y, J', rfl⟩ : ∃ y J', J = y :: J' := List.exists_cons_of_ne_nil (fun h => by rw [h] at hi2; simp at hi2; omega)
                  have hset : (kept l (kp + 1 + q + 1) ++ y :: J').set i r1 = kept l (kp + 1 + (q + 1) + 1) ++ J' := by
                    rw [hkk, ← d1, List.set_append_right _ _ (Nat.le_refl _), Nat.sub_self, List.set_cons_zero, List.append_assoc]; rfl
                  have T3 : ∀ w2, Below wr.heap.size wr w2 → ((routeLoad ⟨g, (kp + 1) * 19 + (q + 1) * 19, none⟩).run Try.prog w2 = .ok (.agg (rc r1)) w2 ∧ (routeStore ⟨g, i * 19, none⟩ (.agg (rc r1))).run Try.prog w2 = .ok () (w2.setRow g (fl (kept l (kp + 1 + (q + 1) + 1) ++ J') ++ rest).toArray)) ∧ Hid (ComAt w g rest l (i + 1) (kp + 1 + (q + 1) + 1) (w2.setRow g (fl (kept l (kp + 1 + (q + 1) + 1) ++ J') ++ rest).toArray)) := fun w2 hb => by
                    have h2 := d4.later hb
                    obtain ⟨s1', s2'⟩ := h2.set hi2 r1
                    have l1' := h2.load g1
                    rw [show kp + 1 + q + 1 = kp + 1 + (q + 1) from Nat.add_assoc _ _ _, Nat.add_mul] at l1'
                    rw [hset] at s1' s2'
                    refine ⟨⟨l1', s1'⟩, J', by rw [hkk, List.length_append, d1]; rfl, by omega, ?_, by rw [← hset, List.length_set]; exact d3, s2'⟩
                    rw [← hset, List.drop_set, if_pos (by omega), Nat.add_sub_cancel, show kp + 1 + (q + 1) = kp + 1 + q + 1 by omega, ← List.drop_drop, d2, List.drop_drop]
                  have HT3 := Lib.hid T3
                  obtain ⟨cs, hcs⟩ : ∃ cs, cs = fl (kept l (kp + 1 + (q + 1) + 1) ++ J') ++ rest := ⟨_, rfl⟩
                  rw [← hcs] at HT3
                  clear hp hka hkk d1 d0 d2 d3 d4 g1 g2 hdr hr1 hs1 hi2 hset T3 hcs
                  go_wp2_with fail
                  refine wp_region_quiet_below (by kernel_rfl) (by kernel_rfl) ?_
                  repeat (go_big_quiet_step (exact C1 _ _))
                  refine wpQuiet_nil fun w3 hw3 => ?_
                  have hb3 : Below wr.heap.size wr w3 := by
                    obtain ⟨p, rfl⟩ := hw3
                    exact below_regrown wr p.d p.os
                  obtain ⟨⟨ld, st⟩, HC3⟩ := HT3.out w3 hb3
                  clear hw3 L1 L2 C1 hb3
                  go_wp2
                  go_roundw
                  case rel => exact ⟨i + 1, q + 1, by omega, by omega, by go_num, by go_num, HC3⟩
                  case measure => simp [intOf]; omega
              · have hltI3 : ¬ (q : Int) + 1 < ((n - (kp + 1) : Nat) : Int) := by omega
                have hqe : kp + 1 + q + 1 = n := by omega
                obtain ⟨J, d1, d0, d2, d3, d4⟩ := HC.out.ex
                rw [hqe] at d1 d3 d4
                have hkl : kept l n = keptL l := by unfold keptL; rw [← HN.out]
                rw [hkl] at d1 d3 d4
                have hrow : Row wr g (fl (keptL l) ++ (fl J ++ rest)) := by have := d4.row; rw [fl_append, List.append_assoc] at this; exact this
                have hJl : (fl J).length = (n - i) * 19 := by rw [fl_length]; congr 1; rw [List.length_append, d1, ← HN.out] at d3; omega
                have hKl : (fl (keptL l)).length = i * 19 := by rw [fl_length, d1]
                have hrs := HA.out.size
                rw [← HN.out] at hrs
                obtain ⟨zs, z1, z2, hcl⟩ := run_clearR hrow (i * 19) (n - i) (cap - i) (by rw [List.length_append, List.length_append, hJl, hKl]; omega)
                rw [List.take_append_of_le_length (by omega), List.take_of_length_le (by omega), ← hKl, List.drop_append, List.drop_of_length_le (by omega), List.nil_append, Nat.add_sub_cancel_left, ← hJl, List.drop_append, List.drop_of_length_le (by omega), List.nil_append, Nat.sub_self, List.drop_zero, hKl, List.append_assoc] at hcl
                have HF : Hid (Own (wr.setRow g (fl (keptL l) ++ (zs ++ rest)).toArray) base (.slice (some ⟨g, 0, none⟩) i cap) (keptL l)) := by
                  have h1 : OwnAt (wr.setRow g (fl (keptL l) ++ (zs ++ rest)).toArray) base g cap (keptL l) (zs ++ rest) := ⟨HA.out.base, hrow.set _, by rw [List.length_append, z1, d1, hrs]; omega, by rw [d1]; omega, HA.out.max⟩
                  have h2 := h1.own
                  rw [d1] at h2
                  exact h2
                have HG : Hid (w.grownBy (wr.setRow g (fl (keptL l) ++ (zs ++ rest)).toArray) (some g)) := grown_trans d4.grown (grown_setRow _ _ _)
                obtain ⟨cs, hcs⟩ : ∃ cs, cs = fl (keptL l) ++ (zs ++ rest) := ⟨_, rfl⟩
                rw [← hcs] at hcl HF HG
                have hci : ¬ cap = i := by omega
                have hinI : (i : Int) ≤ n := by omega
                clear hcs hrs z1 z2 hJl hKl hrow d0 d1 d2 d3 d4 hkl hqe
                go_wp2
                go_ret
                exact ⟨_, rfl, HF.out, HG.out⟩
        · have hltI : ¬ (kp : Int) + 1 < n := by omega
          have HK3 : Hid (keptL l = l) := by
            show _ = _
            unfold keptL
            rw [kept_all (Nat.le_refl _) (fun j hj => HK.out j (by have := HN.out; omega)), List.take_of_length_le (Nat.le_refl _)]
          go_wp2
          go_ret
          exact ⟨_, rfl, by rw [HK3.out]; exact HO.out.later HB.out, grown_below HB.out _⟩
end Go.Proofs.Ytggjcjijoihilaa
