/- slices.CompactFunc over routes: of those of one prefix, one behind the other, the first. -/
import Derived.Test.YtcpdpcfejpbdpaaTabRev
namespace Go.Proofs.Ytcpdpcfejpbdpaa
open Go.RowKit Go.Sort Go.Shelf Go.Deep
attribute [local go_sem ↓] loadVar_key loadVar_pre loadVar_route storeVar_pre storeVar_route buildSlice_row binOp_preEql

set_option maxHeartbeats 1000000 in
set_option maxRecDepth 100000 in
theorem sameP_any (r s : Rt) (w : World) : Calls Try.prog 41 #[.agg (rc r), .agg (rc s)] w fun e w' => e = .returned (.bool (preEq r.pre s.pre)) ∧ Below w.heap.size w w' := by
  obtain ⟨cr, cs, hb, hz⟩ := rows_two' w r s
  have l1 := run_preLoadA cr.pre
  have l2 := run_preLoadA cs.pre
  have E := fun W => run_preEql r.pre s.pre W
  clear cr cs hz
  go_enter Try.func41, Try.ntmps41
  go_wp2
  go_ret
  exact ⟨rfl, hb⟩

def keepAt (l : List Rt) : Nat → Bool
  | 0 => true
  | j + 1 => match l[j + 1]?, l[j]? with
    | some r, some s => !preEq r.pre s.pre
    | _, _ => true
def kept (l : List Rt) : Nat → List Rt
  | 0 => []
  | j + 1 => kept l j ++ (match l[j]? with
    | some r => if keepAt l j = true then [r] else []
    | none => [])
def keptL (l : List Rt) : List Rt := kept l l.length

theorem kept_succ (l : List Rt) (j : Nat) : kept l (j + 1) = kept l j ++ (match l[j]? with
    | some r => if keepAt l j = true then [r] else []
    | none => []) := rfl
theorem kept_le (l : List Rt) : ∀ j, (kept l j).length ≤ j
  | 0 => Nat.le_refl _
  | j + 1 => by
    have := kept_le l j
    rw [kept_succ, List.length_append]
    split
    · split <;> simp <;> omega
    · simp; omega
theorem kept_yes {l : List Rt} {j : Nat} {r : Rt} (h : l[j]? = some r) (hk : keepAt l j = true) : kept l (j + 1) = kept l j ++ [r] := by
  rw [kept_succ, h]; simp [hk]
theorem kept_no {l : List Rt} {j : Nat} {r : Rt} (h : l[j]? = some r) (hk : keepAt l j = false) : kept l (j + 1) = kept l j := by
  rw [kept_succ, h]; simp [hk]
theorem kept_all {l : List Rt} {k : Nat} (hl : k ≤ l.length) (h : ∀ j, j < k → keepAt l j = true) : kept l k = l.take k := by
  induction k with
  | zero => simp [kept]
  | succ k ih =>
    have hk : l[k]? = some (l[k]'(by omega)) := List.getElem?_eq_getElem _
    rw [kept_yes hk (h k (by omega)), ih (by omega) (fun j hj => h j (by omega)), List.take_add_one, hk]; rfl
theorem keep_at {l : List Rt} {j : Nat} {r s : Rt} (hr : l[j + 1]? = some r) (hs : l[j]? = some s) : keepAt l (j + 1) = !preEq r.pre s.pre := by
  show (match l[j + 1]?, l[j]? with
    | some r, some s => !preEq r.pre s.pre
    | _, _ => true) = _
  rw [hr, hs]

/-- How far a list is gone through: who is kept stands ahead, and the last one that was looked at is as it was. -/
structure ComAt (w0 : World) (g : Nat) (rest : List Value) (l : List Rt) (i j : Nat) (W : World) : Prop where
  ex : ∃ J : List Rt, (kept l j).length = i ∧ i + 1 ≤ j ∧ (kept l j ++ J).drop (j - 1) = l.drop (j - 1) ∧ (kept l j ++ J).length = l.length ∧ SW w0 g rest (kept l j ++ J) W

set_option maxHeartbeats 8000000 in
set_option maxRecDepth 100000 in
theorem compact_any (l : List Rt) (v : Value) (base : Nat) (w : World) (ho : Own w base v l) (h16 : l.length ≤ 65536) :
    Calls Try.prog 40 #[v, .func (.func 41) #[] #[]] w (MutPost w base v (keptL l)) := by
  have eg := enters_of Try.func41 (by kernel_rfl) rfl
  have HO := Lib.hid ho
  unfold MutPost
  rcases ho.at' with ⟨rfl, rfl⟩ | ⟨g, cap, rest, rfl, hat⟩
  · clear ho
    go_enter Try.func40, Try.ntmps40
    go_wp2
    go_ret
    exact ⟨_, rfl, own_nil _ _, grown_refl _ _⟩
  · obtain ⟨n, hn⟩ : ∃ n, n = l.length := ⟨_, rfl⟩
    have HA := Lib.hid hat
    rw [← hn] at h16 HO ⊢
    have HN := Lib.hid hn
    have hnI : (n : Int) ≤ 65536 := by omega
    have hnc : n ≤ cap := by rw [hn]; exact hat.le
    have hcm := hat.max
    unfold maxLen at hcm
    have hcI : (cap : Int) ≤ 9223372036854775807 := by omega
    have mixed : Try.prog.follows .mixedOrders = true := by kernel_rfl
    clear hn hat ho
    by_cases h2 : n < 2
    · have h2I : (n : Int) < 2 := by omega
      have HK : Hid (keptL l = l) := by
        show _ = _
        unfold keptL
        rw [kept_all (Nat.le_refl _), List.take_of_length_le (Nat.le_refl _)]
        intro j hj
        have : j = 0 := by have := HN.out; omega
        subst this; rfl
      go_enter Try.func40, Try.ntmps40
      go_wp2
      go_ret
      exact ⟨_, rfl, by rw [HK.out]; exact HO.out, grown_refl _ _⟩
    · have h2I : ¬ (n : Int) < 2 := by omega
      have H0 : Hid (SW w g rest l w) := ⟨grown_refl _ _, HA.out.row⟩
      go_enter Try.func40, Try.ntmps40
      go_wp2
      go_loopw [5] (fun t wr => ∃ k : Nat, 0 < k ∧ k ≤ n ∧ t = .int .i64 k ∧ Hid (∀ j, j < k → keepAt l j = true) ∧ Hid (Below w.heap.size w wr)) (fun t _ => n - (intOf t).toNat)
      case atStart => exact ⟨1, by decide, by omega, rfl, fun j hj => by obtain rfl : j = 0 := by omega
                                                                         rfl, Below.refl _ _⟩
      case round =>
        obtain ⟨k, hk0, hkn, rfl, HK, HB⟩ := hrel
        obtain ⟨kp, rfl⟩ : ∃ kp, k = kp + 1 := ⟨k - 1, by omega⟩
        have hkI : (kp : Int) + 1 ≤ 65536 := by omega
        by_cases hlt : kp + 1 < n
        · have hltI : (kp : Int) + 1 < n := by omega
          have hlt2 : (kp : Int) < n := by omega
          have p0 : (0 : Int) ≤ (kp : Int) + 1 := by omega
          have e0 : ((kp : Int) + 1).toNat = kp + 1 := by omega
          have w0 : IntKind.i64.wrap (kp : Int) = (kp : Int) := by rw [IntKind.wrap_i64]; omega
          obtain ⟨r, hr⟩ : ∃ r, l[kp + 1]? = some r := ⟨l[kp + 1]'(by rw [← HN.out]; exact hlt), List.getElem?_eq_getElem _⟩
          obtain ⟨s, hs⟩ : ∃ s, l[kp]? = some s := ⟨l[kp]'(by rw [← HN.out]; omega), List.getElem?_eq_getElem _⟩
          have hsw : SW w g rest l wr := (H0.out).later HB.out
          have L1 := fun d os => (hsw.later (below_regrown wr d os)).load hr
          have L2 := fun d os => (hsw.later (below_regrown wr d os)).load hs
          have C1 := fun d os => Calls.regrown_of (sameP_any r s (grow (redrawn wr d) os))
          have hka := keep_at hr hs
          have HR := Lib.hid hr
          have HS := Lib.hid hs
          clear hr hs hsw
          cases hp : preEq r.pre s.pre with
          | false =>
            rw [hp] at C1 hka
            have HK2 : Hid (∀ j, j < kp + 1 + 1 → keepAt l j = true) := fun j hj => by
              by_cases e : j = kp + 1
              · rw [e]; exact hka
              · exact HK.out j (by omega)
            clear hp hka
            go_wp2_with fail
            refine wp_region_quiet_below (by kernel_rfl) (by kernel_rfl) ?_
            repeat (go_big_quiet_step (exact C1 _ _))
            refine wpQuiet_nil fun w3 hw3 => ?_
            have hb3 : Below wr.heap.size wr w3 := by
              obtain ⟨p, rfl⟩ := hw3
              exact below_regrown wr p.d p.os
            have HB3 := Lib.hid (HB.out.trans (hb3.mono HB.out.size))
            clear hw3 L1 L2 C1 hb3
            go_wp2
            go_roundw
            case rel => exact ⟨kp + 1 + 1, by omega, by omega, by go_num, HK2, HB3⟩
            case measure => simp [intOf]; omega
          | true =>
            rw [hp] at C1 hka
            have hkk : kept l (kp + 1 + 1) = l.take (kp + 1) := by
              rw [kept_no HR.out hka, kept_all (by rw [← HN.out]; omega) HK.out]
            have HC0 : Hid (∀ w3, Below w.heap.size w w3 → ComAt w g rest l (kp + 1) (kp + 1 + 1) w3) := fun w3 hb => by
              refine ⟨l.drop (kp + 1), by rw [hkk, List.length_take, ← HN.out]; omega, Nat.le_refl _, by rw [hkk, List.take_append_drop], by rw [hkk, List.take_append_drop], ?_⟩
              rw [hkk, List.take_append_drop]
              exact H0.out.later hb
            have hck : ¬ cap = kp + 1 := by omega
            clear hp hka hkk
            go_wp2_with fail
            refine wp_region_quiet_below (by kernel_rfl) (by kernel_rfl) ?_
            repeat (go_big_quiet_step (exact C1 _ _))
            refine wpQuiet_nil fun w3 hw3 => ?_
            have hb3 : Below wr.heap.size wr w3 := by
              obtain ⟨p, rfl⟩ := hw3
              exact below_regrown wr p.d p.os
            have HC1 := Lib.hid (HC0.out w3 (HB.out.trans (hb3.mono HB.out.size)))
            clear hw3 L1 L2 C1 hb3
            go_wp2
            go_loopw [5, 7] (fun s t wr => ∃ i q : Nat, kp + 1 + q + 1 ≤ n ∧ i ≤ kp + 1 + q ∧ s = .int .i64 i ∧ t = .int .i64 ((q : Int) + 1) ∧ Hid (ComAt w g rest l i (kp + 1 + q + 1) wr)) (fun _ t _ => n - (intOf t).toNat)
            case atStart => exact ⟨kp + 1, 0, by omega, by omega, by first | rfl | go_num, by first | rfl | go_num, HC1⟩
            case round =>
              obtain ⟨i, q, hqn, hiq, rfl, rfl, HC⟩ := hrel
              have hqI : (q : Int) ≤ 65536 := by omega
              have hiI : (i : Int) ≤ 65536 := by omega
              by_cases hlt3 : kp + 1 + q + 1 < n
              · have hltI3 : (q : Int) + 1 < ((n - (kp + 1) : Nat) : Int) := by omega
                have hltI4 : (q : Int) < ((n - (kp + 1) : Nat) : Int) := by omega
                have p1 : (0 : Int) ≤ (q : Int) + 1 := by omega
                have e1 : ((q : Int) + 1).toNat = q + 1 := by omega
                have w1 : IntKind.i64.wrap (q : Int) = (q : Int) := by rw [IntKind.wrap_i64]; omega
                obtain ⟨r1, hr1⟩ : ∃ r, l[kp + 1 + q + 1]? = some r := ⟨l[kp + 1 + q + 1]'(by rw [← HN.out]; exact hlt3), List.getElem?_eq_getElem _⟩
                obtain ⟨s1, hs1⟩ : ∃ s, l[kp + 1 + q]? = some s := ⟨l[kp + 1 + q]'(by rw [← HN.out]; omega), List.getElem?_eq_getElem _⟩
                obtain ⟨J, d1, d0, d2, d3, d4⟩ := HC.out.ex
                rw [Nat.add_sub_cancel] at d2
                have hdr : ∀ t, (kept l (kp + 1 + q + 1) ++ J)[kp + 1 + q + t]? = l[kp + 1 + q + t]? := fun t => by
                  have h1 : ((kept l (kp + 1 + q + 1) ++ J).drop (kp + 1 + q))[t]? = (l.drop (kp + 1 + q))[t]? := by rw [d2]
                  rwa [List.getElem?_drop, List.getElem?_drop] at h1
                have g1 : (kept l (kp + 1 + q + 1) ++ J)[kp + 1 + q + 1]? = some r1 := by rw [hdr 1]; exact hr1
                have g2 : (kept l (kp + 1 + q + 1) ++ J)[kp + 1 + q]? = some s1 := (hdr 0).trans hs1
                have L1 := fun d os => (d4.later (below_regrown wr d os)).load g1
                have L2 := fun d os => (d4.later (below_regrown wr d os)).load g2
                have C1 := fun d os => Calls.regrown_of (sameP_any r1 s1 (grow (redrawn wr d) os))
                simp only [show ∀ t, (kp + 1 + t) * 19 = (kp + 1) * 19 + t * 19 from fun t => Nat.add_mul _ _ _, show kp + 1 + q + 1 = kp + 1 + (q + 1) from Nat.add_assoc _ _ _] at L1 L2
                have hka := keep_at hr1 hs1
                have hi2 : i < (kept l (kp + 1 + q + 1) ++ J).length := by rw [d3, ← HN.out]; omega
                have hinI : (i : Int) < n := by omega
                cases hp : preEq r1.pre s1.pre with
                | true =>
                  rw [hp] at C1 hka
                  have hkk : kept l (kp + 1 + (q + 1) + 1) = kept l (kp + 1 + q + 1) := kept_no hr1 hka
                  have HC2 : Hid (∀ w3, Below wr.heap.size wr w3 → ComAt w g rest l i (kp + 1 + (q + 1) + 1) w3) := fun w3 hb => by
                    refine ⟨J, by rw [hkk]; exact d1, by omega, ?_, by rw [hkk]; exact d3, by rw [hkk]; exact d4.later hb⟩
                    rw [hkk, Nat.add_sub_cancel, show kp + 1 + (q + 1) = kp + 1 + q + 1 by omega, ← List.drop_drop, d2, List.drop_drop]
                  clear hp hka hkk d1 d0 d2 d3 d4 g1 g2 hdr hr1 hs1 hi2
                  go_wp2_with fail
                  refine wp_region_quiet_below (by kernel_rfl) (by kernel_rfl) ?_
                  repeat (go_big_quiet_step (exact C1 _ _))
                  refine wpQuiet_nil fun w3 hw3 => ?_
                  have hb3 : Below wr.heap.size wr w3 := by
                    obtain ⟨p, rfl⟩ := hw3
                    exact below_regrown wr p.d p.os
                  have HC3 := Lib.hid (HC2.out w3 hb3)
                  clear hw3 L1 L2 C1 hb3
                  go_wp2
                  go_roundw
                  case rel => exact ⟨i, q + 1, by omega, by omega, rfl, by go_num, HC3⟩
                  case measure => simp [intOf]; omega
                | false =>
                  rw [hp] at C1 hka
                  have hkk : kept l (kp + 1 + (q + 1) + 1) = kept l (kp + 1 + q + 1) ++ [r1] := kept_yes hr1 hka
                  obtain ⟨y, J', rfl⟩ : ∃ y J', J = y :: J' := List.exists_cons_of_ne_nil (fun h => by rw [h] at hi2; simp at hi2; omega)
                  have hset : (kept l (kp + 1 + q + 1) ++ y :: J').set i r1 = kept l (kp + 1 + (q + 1) + 1) ++ J' := by
                    rw [hkk, ← d1, List.set_append_right _ _ (Nat.le_refl _), Nat.sub_self, List.set_cons_zero, List.append_assoc]; rfl
                  have T3 : ∀ w2, Below wr.heap.size wr w2 → ((routeLoad ⟨g, (kp + 1) * 19 + (q + 1) * 19, none⟩).run Try.prog w2 = .ok (.agg (rc r1)) w2 ∧ (routeStore ⟨g, i * 19, none⟩ (.agg (rc r1))).run Try.prog w2 = .ok () (w2.setRow g (fl (kept l (kp + 1 + (q + 1) + 1) ++ J') ++ rest).toArray)) ∧ Hid (ComAt w g rest l (i + 1) (kp + 1 + (q + 1) + 1) (w2.setRow g (fl (kept l (kp + 1 + (q + 1) + 1) ++ J') ++ rest).toArray)) := fun w2 hb => by
                    have h2 := d4.later hb
                    obtain ⟨s1', s2'⟩ := h2.set hi2 r1
                    have l1' := h2.load g1
                    rw [show kp + 1 + q + 1 = kp + 1 + (q + 1) from Nat.add_assoc _ _ _, Nat.add_mul] at l1'
                    rw [hset] at s1' s2'
                    refine ⟨⟨l1', s1'⟩, J', by rw [hkk, List.length_append, d1]; rfl, by omega, ?_, by rw [← hset, List.length_set]; exact d3, s2'⟩
                    rw [← hset, List.drop_set, if_pos (by omega), Nat.add_sub_cancel, show kp + 1 + (q + 1) = kp + 1 + q + 1 by omega, ← List.drop_drop, d2, List.drop_drop]
                  have HT3 := Lib.hid T3
                  obtain ⟨cs, hcs⟩ : ∃ cs, cs = fl (kept l (kp + 1 + (q + 1) + 1) ++ J') ++ rest := ⟨_, rfl⟩
                  rw [← hcs] at HT3
                  clear hp hka hkk d1 d0 d2 d3 d4 g1 g2 hdr hr1 hs1 hi2 hset T3 hcs
                  go_wp2_with fail
                  refine wp_region_quiet_below (by kernel_rfl) (by kernel_rfl) ?_
                  repeat (go_big_quiet_step (exact C1 _ _))
                  refine wpQuiet_nil fun w3 hw3 => ?_
                  have hb3 : Below wr.heap.size wr w3 := by
                    obtain ⟨p, rfl⟩ := hw3
                    exact below_regrown wr p.d p.os
                  obtain ⟨⟨ld, st⟩, HC3⟩ := HT3.out w3 hb3
                  clear hw3 L1 L2 C1 hb3
                  go_wp2
                  go_roundw
                  case rel => exact ⟨i + 1, q + 1, by omega, by omega, by go_num, by go_num, HC3⟩
                  case measure => simp [intOf]; omega
              · have hltI3 : ¬ (q : Int) + 1 < ((n - (kp + 1) : Nat) : Int) := by omega
                have hqe : kp + 1 + q + 1 = n := by omega
                obtain ⟨J, d1, d0, d2, d3, d4⟩ := HC.out.ex
                rw [hqe] at d1 d3 d4
                have hkl : kept l n = keptL l := by unfold keptL; rw [← HN.out]
                rw [hkl] at d1 d3 d4
                have hrow : Row wr g (fl (keptL l) ++ (fl J ++ rest)) := by have := d4.row; rw [fl_append, List.append_assoc] at this; exact this
                have hJl : (fl J).length = (n - i) * 19 := by rw [fl_length]; congr 1; rw [List.length_append, d1, ← HN.out] at d3; omega
                have hKl : (fl (keptL l)).length = i * 19 := by rw [fl_length, d1]
                have hrs := HA.out.size
                rw [← HN.out] at hrs
                obtain ⟨zs, z1, z2, hcl⟩ := run_clearR hrow (i * 19) (n - i) (cap - i) (by rw [List.length_append, List.length_append, hJl, hKl]; omega)
                rw [List.take_append_of_le_length (by omega), List.take_of_length_le (by omega), ← hKl, List.drop_append, List.drop_of_length_le (by omega), List.nil_append, Nat.add_sub_cancel_left, ← hJl, List.drop_append, List.drop_of_length_le (by omega), List.nil_append, Nat.sub_self, List.drop_zero, hKl, List.append_assoc] at hcl
                have HF : Hid (Own (wr.setRow g (fl (keptL l) ++ (zs ++ rest)).toArray) base (.slice (some ⟨g, 0, none⟩) i cap) (keptL l)) := by
                  have h1 : OwnAt (wr.setRow g (fl (keptL l) ++ (zs ++ rest)).toArray) base g cap (keptL l) (zs ++ rest) := ⟨HA.out.base, hrow.set _, by rw [List.length_append, z1, d1, hrs]; omega, by rw [d1]; omega, HA.out.max⟩
                  have h2 := h1.own
                  rw [d1] at h2
                  exact h2
                have HG : Hid (w.grownBy (wr.setRow g (fl (keptL l) ++ (zs ++ rest)).toArray) (some g)) := grown_trans d4.grown (grown_setRow _ _ _)
                obtain ⟨cs, hcs⟩ : ∃ cs, cs = fl (keptL l) ++ (zs ++ rest) := ⟨_, rfl⟩
                rw [← hcs] at hcl HF HG
                have hci : ¬ cap = i := by omega
                have hinI : (i : Int) ≤ n := by omega
                clear hcs hrs z1 z2 hJl hKl hrow d0 d1 d2 d3 d4 hkl hqe
                go_wp2
                go_ret
                exact ⟨_, rfl, HF.out, HG.out⟩
        · have hltI : ¬ (kp : Int) + 1 < n := by omega
          have HK3 : Hid (keptL l = l) := by
            show _ = _
            unfold keptL
            rw [kept_all (Nat.le_refl _) (fun j hj => HK.out j (by have := HN.out; omega)), List.take_of_length_le (Nat.le_refl _)]
          go_wp2
          go_ret
          exact ⟨_, rfl, by rw [HK3.out]; exact HO.out.later HB.out, grown_below HB.out _⟩
end Go.Proofs.Ytcpdpcfejpbdpaa
