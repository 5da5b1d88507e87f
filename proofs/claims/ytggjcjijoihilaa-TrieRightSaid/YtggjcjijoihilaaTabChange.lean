/- table.change: one change made in a list of the caller's own. table.Apply: the table behind all changes, or as it is, and the first change that can't be made. -/
import Derived.Test.YtggjcjijoihilaaTabMem
import Derived.Test.YtggjcjijoihilaaTabPlace
namespace Go.Proofs.Ytggjcjijoihilaa
open Go.RowKit Go.Sort Go.Shelf
attribute [local go_sem ↓] loadVar_key loadVar_pre loadVar_route storeVar_pre storeVar_route buildSlice_row

/-- A change: a route, and whether it goes. -/
structure Ch where
  rt : Rt
  gone : Bool

def cl (c : Ch) : List Value := rl c.rt ++ [.bool c.gone]
def cc (c : Ch) : Array Value := (cl c).toArray
theorem cl_length (c : Ch) : (cl c).length = 20 := by simp [cl, rl_length]
theorem cc_size (c : Ch) : (cc c).size = 20 := by simp [cc, cl_length]

def changeL (l : List Rt) (c : Ch) : List Rt × Int :=
  if mayB c.rt.pre = true then
    (if c.gone = true then (if thereB l c.rt.pre (idxL l c.rt.pre) = true then (l.eraseIdx (idxL l c.rt.pre), 0) else ([], 6))
     else if thereB l c.rt.pre (idxL l c.rt.pre) = true then (l.set (idxL l c.rt.pre) c.rt, 0)
     else if l.length = 256 then ([], 5) else (insL l (idxL l c.rt.pre) c.rt, 0))
  else ([], 1)

def ChangePost (w : World) (base : Nat) (v : Value) (x : List Rt × Int) (e : Ending) (w' : World) : Prop :=
  ∃ v', e = .returned (.tuple #[v', .int .i64 x.2]) ∧ Own w' base v' x.1 ∧ w.grownBy w' v.ownBlock

/-- What is known of a world in which a change lies. -/
structure OneCh (w : World) (B : Nat) (c : Ch) : Prop where
  lp : (preLoad ⟨B, 0, none⟩).run Try.prog w = .ok (.agg (pc c.rt.pre)) w
  lr : (routeLoad ⟨B, 0, none⟩).run Try.prog w = .ok (.agg (rc c.rt)) w
  lg : w.cell? ⟨B, 19, none⟩ = some (.bool c.gone)

theorem oneCh_of {w : World} {B : Nat} {c : Ch} (h : CellsAt w ⟨B, 0, none⟩ (cl c)) : OneCh w B c := by
  have hr : CellsAt w ⟨B, 0, none⟩ (rl c.rt) := fun j u hu => h j u (by
    unfold cl; rw [List.getElem?_append_left (List.getElem?_eq_some_iff.1 hu).1]; exact hu)
  refine ⟨run_preLoadA hr.pre, run_routeLoad hr, ?_⟩
  have := h 19 (.bool c.gone) (by unfold cl; rw [List.getElem?_append_right (by rw [rl_length]; decide), rl_length]; rfl)
  rw [add_here, Nat.zero_add] at this
  exact this
theorem newCh (W : World) (c : Ch) : CellsAt (W.alloc (.cells (cc c) 71)) ⟨W.heap.size, 0, none⟩ (cl c) := fun j u hu => by
  rw [add_here, Nat.zero_add, World.cell?_alloc_at _ _ _ _ rfl]; simpa [cc] using hu

theorem own_set {w : World} {base g cap : Nat} {l : List Rt} {rest : List Value} (h : OwnAt w base g cap l rest) {i : Nat} (hi : i < l.length) (r : Rt) :
    (routeStore ⟨g, i * 19, none⟩ (.agg (rc r))).run Try.prog w = .ok () (w.setRow g (fl (l.set i r) ++ rest).toArray) ∧ Own (w.setRow g (fl (l.set i r) ++ rest).toArray) base (.slice (some ⟨g, 0, none⟩) l.length cap) (l.set i r) := by
  refine ⟨run_routeStore_at h.row hi r, ?_⟩
  have : OwnAt (w.setRow g (fl (l.set i r) ++ rest).toArray) base g cap (l.set i r) rest := ⟨h.base, h.row.set _, by rw [List.length_set]; exact h.size, by rw [List.length_set]; exact h.le, h.max⟩
  have := this.own
  rw [List.length_set] at this
  exact this

set_option maxHeartbeats 2000000 in
set_option maxRecDepth 100000 in
theorem change_any (l : List Rt) (c : Ch) (v : Value) (base : Nat) (w : World) (ho : Own w base v l) (hg : Good l) (hl : l.length ≤ 256) (hbase : base ≤ w.heap.size) :
    Calls Try.prog 40 #[v, .agg (cc c)] w (ChangePost w base v (changeL l c)) := by
  have hb0 : Below w.heap.size w (w.alloc (.cells (cc c) 71)) := (Below.refl _ _).alloc (Nat.le_refl _) _
  have hz0 : (w.alloc (.cells (cc c) 71)).heap.size = w.heap.size + 1 := by simp
  have T : ∀ w1, Below (w.alloc (.cells (cc c) 71)).heap.size (w.alloc (.cells (cc c) 71)) w1 → OneCh w1 w.heap.size c ∧ Own w1 base v l ∧ Below w.heap.size w w1 := fun w1 h => by
    have hb : Below w.heap.size w w1 := hb0.trans (h.mono (by rw [hz0]; omega))
    exact ⟨oneCh_of ((newCh w c).below h (by rw [hz0]; simp)), ho.later hb, hb⟩
  have HT := Lib.hid T
  have C1 := may_any c.rt.pre c.rt.hk (w.alloc (.cells (cc c) 71))
  obtain ⟨⟨lp0, -, -⟩, -, -⟩ := T _ (Below.refl _ _)
  have HF : Hid (changeL l c = changeL l c) := rfl
  have HO := Lib.hid ho
  clear T hb0 hz0
  unfold changeL at HF ⊢
  cases hm : mayB c.rt.pre with
  | false =>
    rw [hm] at C1
    have HC := Lib.hid C1
    clear C1 hm HF ho
    unfold ChangePost
    go_enter Try.func40, Try.ntmps40
    go_wp2_with fail
    refine HC.out.mono ?_
    rintro e w1 ⟨rfl, h1⟩
    obtain ⟨⟨lp, lr, lg⟩, -, hb⟩ := HT.out w1 h1
    go_wp2
    go_ret2
    exact ⟨_, rfl, own_nil _ _, grown_below hb _⟩
  | true =>
    rw [hm] at C1
    have HC := Lib.hid C1
    clear C1 hm HF
    have hat := idx_le l c.rt.pre
    have hpl := place_good hg c.rt.pre
    have C2 := fun w1 h => place_any l c.rt.pre c.rt.hk (idxL l c.rt.pre) hpl (by omega) v w1 h
    obtain ⟨x, hx⟩ : ∃ x, x = idxL l c.rt.pre := ⟨_, rfl⟩
    rw [← hx] at C2 hat hpl ⊢
    rw [if_pos rfl]
    have hat' : thereB l c.rt.pre x = true → x < l.length := fun ht => by
      unfold thereB at ht
      by_cases h : x < l.length
      · exact h
      · rw [List.getElem?_eq_none (by omega)] at ht; cases ht
    have HX := Lib.hid hx
    clear hx hpl hg
    cases ht : thereB l c.rt.pre x with
    | false =>
      rw [ht] at C2
      have HD := Lib.hid C2
      clear C2 ht hat'
      cases hgn : c.gone with
      | true =>
        rw [if_pos rfl, if_neg Bool.false_ne_true]
        have HG := Lib.hid hgn
        clear hgn ho
        unfold ChangePost
        go_enter Try.func40, Try.ntmps40
        go_wp2_with fail
        refine HC.out.mono ?_
        rintro e w1 ⟨rfl, h1⟩
        obtain ⟨⟨lp, lr, lg⟩, ho1, hb⟩ := HT.out w1 h1
        go_wp2_with fail
        refine (HD.out w1 ho1.rd).mono ?_
        rintro e w2 ⟨rfl, h2⟩
        obtain ⟨⟨lp, lr, lg⟩, ho2, hb2⟩ := HT.out w2 (h1.trans (h2.mono h1.size))
        rw [HG.out] at lg
        go_wp2
        go_ret2
        exact ⟨_, rfl, own_nil _ _, grown_below hb2 _⟩
      | false =>
        rw [if_neg Bool.false_ne_true, if_neg Bool.false_ne_true]
        have HG := Lib.hid hgn
        clear hgn
        obtain ⟨a, cap, hv, -⟩ := rd_len ho.rd
        obtain ⟨n, hn⟩ : ∃ n, n = l.length := ⟨_, rfl⟩
        rw [← hn] at hv hl hat ⊢
        have HN := Lib.hid hn
        clear hn ho
        by_cases h256 : n = 256
        · rw [if_pos h256]
          subst h256
          subst hv
          unfold ChangePost
          go_enter Try.func40, Try.ntmps40
          go_wp2_with fail
          refine HC.out.mono ?_
          rintro e w1 ⟨rfl, h1⟩
          obtain ⟨⟨lp, lr, lg⟩, ho1, hb⟩ := HT.out w1 h1
          go_wp2_with fail
          refine (HD.out w1 ho1.rd).mono ?_
          rintro e w2 ⟨rfl, h2⟩
          obtain ⟨⟨lp, lr, lg⟩, ho2, hb2⟩ := HT.out w2 (h1.trans (h2.mono h1.size))
          rw [HG.out] at lg
          go_wp2
          go_ret2
          exact ⟨_, rfl, own_nil _ _, grown_below hb2 _⟩
        · rw [if_neg h256]
          have hnI : ((n : Int) == 256) = false := by rw [beq_eq_false_iff_ne]; omega
          have HV := Lib.hid hv
          subst hv
          have hbd := fun W => run_rowBuild c.rt W
          clear h256
          unfold ChangePost
          go_enter Try.func40, Try.ntmps40
          go_wp2_with fail
          refine HC.out.mono ?_
          rintro e w1 ⟨rfl, h1⟩
          obtain ⟨⟨lp, lr, lg⟩, ho1, hb⟩ := HT.out w1 h1
          go_wp2_with fail
          refine (HD.out w1 ho1.rd).mono ?_
          rintro e w2 ⟨rfl, h2⟩
          obtain ⟨⟨lp, lr, lg⟩, ho2, hb2⟩ := HT.out w2 (h1.trans (h2.mono h1.size))
          rw [HG.out] at lg
          have HO2 := Lib.hid ho2
          clear ho1 ho2
          go_wp2_with fail
          have hal : Below w2.heap.size w2 (w2.alloc (.cells (rc c.rt) 34)) := (Below.refl _ _).alloc (Nat.le_refl _) _
          have C3 := insert_any l _ base w2.heap.size x c.rt (w2.alloc (.cells (rc c.rt) 34)) (HO2.out.later hal) (by rw [← HN.out]; exact hat) (by rw [← HN.out]; omega) (Nat.le_trans (Nat.le_trans hbase hb2.size) hal.size) (Go.heap_alloc_new _ _) (fun e => by
            have := (HO2.out.lt _ e).2; omega)
          refine C3.mono ?_
          rintro e w3 ⟨v', rfl, ho3, hg3⟩
          have HO3 := Lib.hid ho3
          have HG3 := Lib.hid hg3
          clear ho3 hg3 C3
          go_wp2
          go_ret2
          exact ⟨_, rfl, HO3.out, grown_trans (grown_below (hb2.trans (hal.mono hb2.size)) _) HG3.out⟩
    | true =>
      rw [ht] at C2
      have HD := Lib.hid C2
      have hlt := hat' ht
      clear C2 ht hat'
      rcases ho.at' with ⟨_, hnil⟩ | ⟨g, cap, rest, rfl, hoat⟩
      · exfalso; rw [hnil] at hlt; exact absurd hlt (Nat.not_lt_zero _)
      · have HA := Lib.hid hoat
        cases hgn : c.gone with
        | true =>
          rw [if_pos rfl, if_pos rfl]
          have HG := Lib.hid hgn
          obtain ⟨n, hn⟩ : ∃ n, n = l.length := ⟨_, rfl⟩
          rw [← hn] at hl hat hlt HT HD HO ⊢
          have HN := Lib.hid hn
          have hxI : (x : Int) < n := by omega
          have hnI : (n : Int) ≤ 256 := by omega
          clear hgn ho hn hoat
          unfold ChangePost
          go_enter Try.func40, Try.ntmps40
          go_wp2_with fail
          refine HC.out.mono ?_
          rintro e w1 ⟨rfl, h1⟩
          obtain ⟨⟨lp, lr, lg⟩, ho1, hb⟩ := HT.out w1 h1
          go_wp2_with fail
          refine (HD.out w1 ho1.rd).mono ?_
          rintro e w2 ⟨rfl, h2⟩
          obtain ⟨⟨lp, lr, lg⟩, ho2, hb2⟩ := HT.out w2 (h1.trans (h2.mono h1.size))
          rw [HG.out] at lg
          have HO2 := Lib.hid ho2
          clear ho1 ho2
          go_wp2_with fail
          have C3 := delete_any l _ base x w2 HO2.out (by rw [← HN.out]; exact hlt) (by rw [← HN.out]; omega)
          refine C3.mono ?_
          rintro e w3 ⟨v', rfl, ho3, hg3⟩
          have HO3 := Lib.hid ho3
          have HG3 := Lib.hid hg3
          clear ho3 hg3 C3
          go_wp2
          go_ret2
          exact ⟨_, rfl, HO3.out, grown_trans (grown_below hb2 _) HG3.out⟩
        | false =>
          rw [if_neg Bool.false_ne_true, if_pos rfl]
          have HG := Lib.hid hgn
          have T3 : ∀ w2, Below w.heap.size w w2 → (routeStore ⟨g, x * 19, none⟩ (.agg (rc c.rt))).run Try.prog w2 = .ok () (w2.setRow g (fl (l.set x c.rt) ++ rest).toArray) ∧ Own (w2.setRow g (fl (l.set x c.rt) ++ rest).toArray) base (.slice (some ⟨g, 0, none⟩) l.length cap) (l.set x c.rt) := fun w2 hb =>
            own_set ⟨HA.out.base, HA.out.row.later hb, HA.out.size, HA.out.le, HA.out.max⟩ hlt c.rt
          obtain ⟨n, hn⟩ : ∃ n, n = l.length := ⟨_, rfl⟩
          rw [← hn] at hl hat hlt HT HD HO T3 ⊢
          have HT3 := Lib.hid T3
          obtain ⟨cs, hcs⟩ : ∃ cs, cs = fl (l.set x c.rt) ++ rest := ⟨_, rfl⟩
          rw [← hcs] at HT3
          have HN := Lib.hid hn
          have hxI : (x : Int) < n := by omega
          have hnI : (n : Int) ≤ 256 := by omega
          clear hgn ho hn hoat T3 hcs
          unfold ChangePost
          go_enter Try.func40, Try.ntmps40
          go_wp2_with fail
          refine HC.out.mono ?_
          rintro e w1 ⟨rfl, h1⟩
          obtain ⟨⟨lp, lr, lg⟩, ho1, hb⟩ := HT.out w1 h1
          go_wp2_with fail
          refine (HD.out w1 ho1.rd).mono ?_
          rintro e w2 ⟨rfl, h2⟩
          obtain ⟨⟨lp, lr, lg⟩, ho2, hb2⟩ := HT.out w2 (h1.trans (h2.mono h1.size))
          rw [HG.out] at lg
          obtain ⟨st, so⟩ := HT3.out w2 hb2
          have HSO := Lib.hid so
          clear ho1 ho2 so
          go_wp2
          go_ret2
          exact ⟨_, rfl, HSO.out, grown_trans (grown_below hb2 _) (grown_setRow _ _ _)⟩
end Go.Proofs.Ytggjcjijoihilaa
namespace Go.Proofs.Ytggjcjijoihilaa
open Go.RowKit Go.Sort Go.Shelf
attribute [local go_sem ↓] loadVar_key loadVar_pre loadVar_route storeVar_pre storeVar_route buildSlice_row

/-! ### Plain: a change keeps the order -/
theorem good_of_map {l l' : List Rt} (h : Good l) (e : l'.map (·.pre) = l.map (·.pre)) : Good l' := by
  refine ⟨fun r hr => ?_, ?_⟩
  · have : r.pre ∈ l'.map (·.pre) := List.mem_map_of_mem hr
    rw [e] at this
    obtain ⟨s, hs, h1⟩ := List.mem_map.1 this
    rw [← h1]; exact h.may s hs
  · have h1 : (l.map (·.pre)).Pairwise (fun a b => lessB a b = true) := List.pairwise_map.2 h.ord
    rw [← e] at h1
    exact List.pairwise_map.1 h1

theorem less_total {r s : Rt} (mr : mayB r.pre = true) (ms : mayB s.pre = true) (h1 : lessB r.pre s.pre = false) (h2 : preEq r.pre s.pre = false) : lessB s.pre r.pre = true := by
  have := (order_eq r.hk s.hk mr ms).1
  rw [h2, h1] at this
  cases h : lessB s.pre r.pre with
  | true => rfl
  | false => rw [h] at this; simp at this

theorem good_ins {l : List Rt} (h : Good l) {r : Rt} (mr : mayB r.pre = true) (ht : thereB l r.pre (idxL l r.pre) = false) : Good (insL l (idxL l r.pre) r) := by
  have hm := idx_mono h r.pre
  obtain ⟨x, hx⟩ : ∃ x, x = idxL l r.pre := ⟨_, rfl⟩
  rw [← hx] at hm ht ⊢
  have h1 : ∀ a ∈ l.take x, lessB a.pre r.pre = true := fun a ha => by
    obtain ⟨i, hi⟩ := List.mem_iff_getElem?.1 ha
    rw [List.getElem?_take] at hi
    split at hi
    · rename_i hlt; rw [hm i a hi]; simpa using hlt
    · cases hi
  have h2 : ∀ b ∈ l.drop x, lessB r.pre b.pre = true := fun b hb => by
    obtain ⟨i, hi⟩ := List.mem_iff_getElem?.1 hb
    rw [List.getElem?_drop] at hi
    have hs : x < l.length := by have := (List.getElem?_eq_some_iff.1 hi).1; omega
    have hsx : l[x]? = some l[x] := List.getElem?_eq_getElem hs
    have ha : lessB r.pre l[x].pre = true := by
      refine less_total (h.may _ (List.getElem_mem hs)) mr ?_ ?_
      · rw [hm x _ hsx]; simp
      · unfold thereB at ht; rw [hsx] at ht; exact ht
    by_cases hi0 : i = 0
    · subst hi0; rw [Nat.add_zero, hsx] at hi; simp only [Option.some.injEq] at hi; rw [← hi]; exact ha
    · have hib : x + i < l.length := (List.getElem?_eq_some_iff.1 hi).1
      have := List.pairwise_iff_getElem.1 h.ord x (x + i) hs hib (by omega)
      have e : l[x + i] = b := by rw [List.getElem?_eq_getElem hib] at hi; simpa using hi
      rw [e] at this
      exact less_trans ha this
  unfold insL
  refine ⟨fun s hs => ?_, ?_⟩
  · rcases List.mem_append.1 hs with hs | hs
    · exact h.may s (List.mem_of_mem_take hs)
    · rcases List.mem_cons.1 hs with rfl | hs
      · exact mr
      · exact h.may s (List.mem_of_mem_drop hs)
  · rw [List.pairwise_append]
    refine ⟨h.ord.sublist (List.take_sublist _ _), List.pairwise_cons.2 ⟨h2, h.ord.sublist (List.drop_sublist _ _)⟩, fun a ha b hb => ?_⟩
    rcases List.mem_cons.1 hb with rfl | hb
    · exact h1 a ha
    · exact less_trans (h1 a ha) (h2 b hb)

theorem good_set {l : List Rt} (h : Good l) {r : Rt} {x : Nat} (ht : thereB l r.pre x = true) : Good (l.set x r) := by
  refine good_of_map h ?_
  unfold thereB at ht
  cases hs : l[x]? with
  | none => rw [hs] at ht; cases ht
  | some s =>
    rw [hs] at ht
    have e : s.pre = r.pre := rt_pre_ext ht
    rw [List.map_set, ← e]
    apply List.ext_getElem?
    intro i
    rw [List.getElem?_set]
    by_cases hi : x = i
    · subst hi
      have hlt := (List.getElem?_eq_some_iff.1 hs).1
      rw [if_pos rfl, if_pos (by simpa using hlt), List.getElem?_map, hs]; rfl
    · rw [if_neg hi]

theorem change_good {l : List Rt} (h : Good l) (hl : l.length ≤ 256) (c : Ch) (h0 : (changeL l c).2 = 0) : Good (changeL l c).1 ∧ (changeL l c).1.length ≤ 256 := by
  unfold changeL at h0 ⊢
  cases hm : mayB c.rt.pre with
  | false => simp [hm] at h0
  | true =>
    simp only [hm, if_true] at h0 ⊢
    cases hg : c.gone with
    | true =>
      simp only [hg, if_true] at h0 ⊢
      cases ht : thereB l c.rt.pre (idxL l c.rt.pre) with
      | false => simp [ht] at h0
      | true =>
        simp only [if_true]
        exact ⟨h.sub (List.eraseIdx_sublist _ _), Nat.le_trans (List.length_eraseIdx_le _ _) hl⟩
    | false =>
      simp only [hg, Bool.false_eq_true, if_false] at h0 ⊢
      cases ht : thereB l c.rt.pre (idxL l c.rt.pre) with
      | true =>
        simp only [if_true]
        exact ⟨good_set h ht, by rw [List.length_set]; exact hl⟩
      | false =>
        simp only [ht, Bool.false_eq_true, if_false] at h0 ⊢
        by_cases h6 : l.length = 256
        · simp [h6] at h0
        · simp only [h6, if_false]
          exact ⟨good_ins h hm ht, by rw [insL_length]; omega⟩

/-! ### The calls -/
def foldL : List Rt → List Ch → List Rt × Int
  | m, [] => (m, 0)
  | m, c :: cs => if (changeL m c).2 = 0 then foldL (changeL m c).1 cs else ([], (changeL m c).2)
def applyL (t : List Rt) (cs : List Ch) : List Rt × Int :=
  if rightB t = true then (if (foldL t cs).2 = 0 then ((foldL t cs).1, 0) else (t, (foldL t cs).2)) else (t, 1)

def fc (l : List Ch) : List Value := l.flatMap cl
theorem fc_cons (r : Ch) (l : List Ch) : fc (r :: l) = cl r ++ fc l := by simp [fc]
theorem fc_at {l : List Ch} {i : Nat} {r : Ch} (h : l[i]? = some r) {j : Nat} (hj : j < 20) : (fc l)[i * 20 + j]? = (cl r)[j]? := by
  induction l generalizing i with
  | nil => simp at h
  | cons s l ih =>
    rw [fc_cons]
    cases i with
    | zero =>
      simp at h; subst h
      rw [Nat.zero_mul, Nat.zero_add, List.getElem?_append_left (by rw [cl_length]; exact hj)]
    | succ i =>
      simp at h
      rw [List.getElem?_append_right (by rw [cl_length]; omega), cl_length, show (i + 1) * 20 + j - 20 = i * 20 + j by omega]
      exact ih h

/-- A list of changes, as a slice of it reads in a world. -/
def RdC (w : World) (v : Value) (l : List Ch) : Prop :=
  (v = .slice none 0 0 ∧ l = []) ∨ ∃ a cap, v = .slice (some a) l.length cap ∧ l.length ≤ cap ∧ cap ≤ maxLen ∧ CellsAt w a (fc l)
theorem RdC.later {w w' : World} {v : Value} {l : List Ch} (h : RdC w v l) (hb : Below w.heap.size w w') : RdC w' v l := by
  rcases h with h | ⟨a, cap, h1, h2, h3, h4⟩
  · exact .inl h
  · exact .inr ⟨a, cap, h1, h2, h3, h4.later hb⟩
theorem rdC_len {w : World} {v : Value} {l : List Ch} (h : RdC w v l) : ∃ a cap, v = .slice a l.length cap ∧ l.length ≤ maxLen := by
  rcases h with ⟨rfl, rfl⟩ | ⟨a, cap, rfl, h1, h2, _⟩
  · exact ⟨none, 0, rfl, by simp [maxLen]⟩
  · exact ⟨some a, cap, rfl, by omega⟩
theorem CellsAt.change {w : World} {a : Addr} {l : List Ch} (h : CellsAt w a (fc l)) {i : Nat} {r : Ch} (hr : l[i]? = some r) : CellsAt w (a.add (i * 20)) (cl r) :=
  h.part fun j u hu => by
    have hj : j < 20 := by rw [← cl_length r]; exact (List.getElem?_eq_some_iff.1 hu).1
    rw [fc_at hr hj]; exact hu
theorem cl_one (c : Ch) : ∀ v ∈ cl c, v.oneCell' = true := fun v hv => by
  rcases List.mem_append.1 hv with h | h
  · exact rl_one _ v h
  · simp at h; subst h; rfl

def changeLoad (a : Addr) : Sem Value := loadVar 71 a
theorem loadVar_change (a : Addr) : loadVar 71 a = changeLoad a := rfl
def changeStore (a : Addr) (v : Value) : Sem Unit := storeVar 71 a v
theorem storeVar_change (a : Addr) (v : Value) : storeVar 71 a v = changeStore a v := rfl
theorem infoChange : (Try.prog.info? 71).map (·.size) = some 20 := by kernel_rfl
theorem run_changeLoad {w : World} {a : Addr} {r : Ch} (h : CellsAt w a (cl r)) : (changeLoad a).run Try.prog w = .ok (.agg (cc r)) w :=
  run_load_at Try.underlying71 rfl (by rw [cl_length]; exact infoChange) h
theorem run_changeStore_new (r : Ch) (W : World) (Z : Array Value) (hZ : Z.size = 20) : (changeStore ⟨W.heap.size, 0, none⟩ (.agg (cc r))).run Try.prog (W.alloc (.cells Z 71)) = .ok () (W.alloc (.cells (cc r) 71)) := by
  have h := run_storeVar_row (P := Try.prog) (W.alloc (.cells Z 71)) W.heap.size 71 71 Z (cc r) (Go.heap_alloc_new W _) (by rw [cc_size]; exact infoChange) (by rw [hZ, cc_size]) (by
    rw [Array.all_eq_true_iff_forall_mem]; intro v hv; exact cl_one r v (by simpa [cc] using hv))
  rw [World.setRow_alloc_new] at h
  exact h
attribute [local go_sem ↓] loadVar_change storeVar_change

def ApplyPost (w : World) (x : List Rt × Int) (e : Ending) (w' : World) : Prop := ∃ v', e = .returned (.tuple #[v', .int .i64 x.2]) ∧ Own w' w.heap.size v' x.1 ∧ Below w.heap.size w w'

theorem Own.base {w : World} {b b' : Nat} {v : Value} {l : List Rt} (h : Own w b v l) (hb : b' ≤ b) : Own w b' v l :=
  ⟨h.1, h.2.imp id (fun ⟨g, c, cur, h1, h2, h3⟩ => ⟨g, c, cur, h1, Nat.le_trans hb h2, h3⟩)⟩

set_option maxHeartbeats 2000000 in
set_option maxRecDepth 100000 in
theorem apply_any (t : List Rt) (cs : List Ch) (v u : Value) (w : World) (hR : Rd w v t) (hC : RdC w u cs) (h16 : t.length ≤ 65536) (hc16 : cs.length ≤ 65536) :
    Calls Try.prog 12 #[v, u] w (ApplyPost w (applyL t cs)) := by
  have C1 := right_any t v w hR
  have C2 := fun w1 h => clone_any t h16 v w1 h
  have HR := Lib.hid hR
  have HC2 := Lib.hid C2
  obtain ⟨X, hX⟩ : ∃ X, X = applyL t cs := ⟨_, rfl⟩
  rw [← hX]
  unfold applyL at hX
  cases hr : rightB t with
  | false =>
    rw [hr] at C1
    have HC1 := Lib.hid C1
    rw [hr, if_neg Bool.false_ne_true] at hX
    subst hX
    clear C1 C2 hr hR hC
    unfold ApplyPost
    go_enter Try.func12, Try.ntmps12
    go_wp2_with fail
    refine HC1.out.mono ?_
    rintro e w1 ⟨rfl, h1⟩
    go_wp2_with fail
    refine (HC2.out w1 (HR.out.later h1)).mono ?_
    rintro e w2 ⟨v', rfl, ho, h2⟩
    have HO := Lib.hid (ho.base h1.size)
    clear ho
    go_wp2
    go_ret2
    exact ⟨_, rfl, HO.out, h1.trans (h2.mono h1.size)⟩
  | true =>
    rw [hr] at C1
    have HC1 := Lib.hid C1
    have hgood := (right_iff t).1 hr
    have HGT := Lib.hid hgood
    obtain ⟨a, cap, hv, -⟩ := rdC_len hC
    have HRC := Lib.hid hC
    obtain ⟨n, hn⟩ : ∃ n, n = cs.length := ⟨_, rfl⟩
    rw [← hn] at hv hc16
    have HN := Lib.hid hn
    have hnI : (n : Int) ≤ 65536 := by omega
    subst hv
    rw [hr, if_pos rfl] at hX
    have HX := Lib.hid hX
    clear C1 C2 hr hR hC hgood hn hX
    unfold ApplyPost
    go_enter Try.func12, Try.ntmps12
    go_wp2_with fail
    refine HC1.out.mono ?_
    rintro e w1 ⟨rfl, h1⟩
    go_wp2_with fail
    refine (HC2.out w1 (HR.out.later h1)).mono ?_
    rintro e w2 ⟨v', rfl, ho, h2⟩
    have HO := Lib.hid ho
    have HB1 := Lib.hid h1
    have HB2 := Lib.hid h2
    clear ho h1 h2
    go_wp2
    go_loopw [6, 8, 9, 10, 20] (fun s _ _ _ i' wr => ∃ (i : Nat) (m : List Rt), i ≤ n ∧ i' = .int .i64 i ∧ Hid (Own wr w1.heap.size s m) ∧ Hid (Good m ∧ m.length ≤ 256) ∧ Hid (foldL m (cs.drop i) = foldL t cs) ∧ Hid (Below w1.heap.size w1 wr)) (fun _ _ _ _ i' _ => n - (intOf i').toNat)
    case atStart => exact ⟨0, t, Nat.zero_le _, rfl, HO, ⟨HGT.out.2, HGT.out.1⟩, rfl, HB2⟩
    case round =>
      obtain ⟨i, m, hi, rfl, HM, HGM, HFM, HBW⟩ := hrel
      by_cases hlt : i < n
      · have hltI : (i : Int) < n := by omega
        obtain ⟨c, hcc⟩ : ∃ c, cs[i]? = some c := ⟨cs[i]'(by rw [← HN.out]; exact hlt), List.getElem?_eq_getElem _⟩
        have hwr : Below w.heap.size w wr := HB1.out.trans (HBW.out.mono HB1.out.size)
        obtain ⟨a', rfl, ld⟩ : ∃ a', a = some a' ∧ (changeLoad (a'.add (i * 20))).run Try.prog wr = .ok (.agg (cc c)) wr := by
          rcases HRC.out.later hwr with ⟨h, hnil⟩ | ⟨a', cap', h, _, _, hc⟩
          · exfalso; rw [hnil] at hcc; cases hcc
          · simp only [Value.slice.injEq] at h
            exact ⟨a', h.1, run_changeLoad (hc.change hcc)⟩
        have hst := run_changeStore_new c
        have hal : Below wr.heap.size wr (wr.alloc (.cells (cc c) 71)) := (Below.refl _ _).alloc (Nat.le_refl _) _
        have ld2 := run_changeLoad (newCh wr c)
        have hdrop : cs.drop i = c :: cs.drop (i + 1) := by
          have hlt2 : i < cs.length := by rw [← HN.out]; exact hlt
          rw [List.drop_eq_getElem_cons hlt2]
          rw [List.getElem?_eq_getElem hlt2] at hcc
          simp only [Option.some.injEq] at hcc
          rw [hcc]
        have hfold : foldL t cs = if (changeL m c).2 = 0 then foldL (changeL m c).1 (cs.drop (i + 1)) else ([], (changeL m c).2) := by
          rw [← HFM.out, hdrop]; rfl
        have hgm := fun h0 => change_good HGM.out.1 HGM.out.2 c h0
        have C3 := change_any m c u6 w1.heap.size (wr.alloc (.cells (cc c) 71)) (HM.out.later hal) HGM.out.1 HGM.out.2 (Nat.le_trans HBW.out.size hal.size)
        obtain ⟨x, hx⟩ : ∃ x, x = changeL m c := ⟨_, rfl⟩
        rw [← hx] at C3 hfold hgm
        have HC3 := Lib.hid C3
        have HFO := Lib.hid hfold
        have HGX := Lib.hid hgm
        have HAL := Lib.hid hal
        clear hcc hdrop hx C3 hfold hgm hal hwr
        by_cases h0 : x.2 = 0
        · have hx0 : ((x.2 : Int) != 0) = false := by rw [bne_eq_false_iff_eq]; exact h0
          have H0 := Lib.hid h0
          clear h0
          go_wp2_with fail
          refine HC3.out.mono ?_
          rintro e w3 ⟨s', rfl, ho3, hg3⟩
          have HO3 := Lib.hid ho3
          have HG3 : Hid (Below w1.heap.size w1 w3) := (HBW.out.trans (HAL.out.mono HBW.out.size)).grown hg3 (Nat.le_trans HBW.out.size HAL.out.size) (fun k hk => (HM.out.lt k hk).1)
          clear ho3 hg3
          go_wp2
          go_roundw
          case rel => exact ⟨i + 1, x.1, by omega, by go_num, HO3, HGX.out H0.out, by have := HFO.out; rw [if_pos H0.out] at this; exact this.symm, HG3⟩
          case measure => simp [intOf]; omega
        · have hx0 : ((x.2 : Int) != 0) = true := by rw [bne_iff_ne]; exact h0
          have H0 := Lib.hid h0
          have HFF : Hid (X = (t, x.2)) := by
            show _ = _
            have := HFO.out
            rw [if_neg h0] at this
            rw [HX.out, this]
            simp only
            rw [if_neg h0]
          clear h0
          go_wp2_with fail
          refine HC3.out.mono ?_
          rintro e w3 ⟨s', rfl, ho3, hg3⟩
          have HG3 : Hid (Below w1.heap.size w1 w3) := (HBW.out.trans (HAL.out.mono HBW.out.size)).grown hg3 (Nat.le_trans HBW.out.size HAL.out.size) (fun k hk => (HM.out.lt k hk).1)
          clear ho3 hg3
          go_wp2_with fail
          have hb3 : Below w.heap.size w w3 := HB1.out.trans (HG3.out.mono HB1.out.size)
          refine (HC2.out w3 (HR.out.later hb3)).mono ?_
          rintro e w4 ⟨v4, rfl, ho4, h4⟩
          have HO4 := Lib.hid (ho4.base hb3.size)
          have HB4 := Lib.hid (hb3.trans (h4.mono hb3.size))
          clear ho4 h4 hb3
          go_wp2
          go_ret2
          refine ⟨v4, ?_, ?_, HB4.out⟩
          · rw [HFF.out]; rfl
          · rw [HFF.out]; exact HO4.out
      · obtain rfl : i = n := by omega
        have hd : cs.drop i = [] := List.drop_of_length_le (by rw [← HN.out]; exact Nat.le_refl _)
        have HFF : Hid (X = (m, 0)) := by
          show _ = _
          have := HFM.out
          rw [hd] at this
          rw [HX.out, ← this]
          rfl
        clear hd
        go_wp2
        go_ret2
        refine ⟨u6, ?_, ?_, HB1.out.trans (HBW.out.mono HB1.out.size)⟩
        · rw [HFF.out]; rfl
        · rw [HFF.out]; exact HM.out.base HB1.out.size
end Go.Proofs.Ytggjcjijoihilaa
