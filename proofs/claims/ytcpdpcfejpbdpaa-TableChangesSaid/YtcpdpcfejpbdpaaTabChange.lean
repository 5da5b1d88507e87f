/- table.change: one change made in a list of the caller's own. -/
import Derived.Test.YtcpdpcfejpbdpaaTabInsert
import Derived.Test.YtcpdpcfejpbdpaaTabGet
namespace Go.Proofs.Ytcpdpcfejpbdpaa
open Go.RowKit Go.Sort Go.Shelf
attribute [local go_sem ↓] loadVar_key loadVar_pre loadVar_route storeVar_pre storeVar_route buildSlice_row

/-- A change: a route, and whether it goes. -/
structure Ch where
  rt : Rt
  gone : Bool

def cl (c : Ch) : List Value := rl c.rt ++ [.bool c.gone]
def cc (c : Ch) : Array Value := (cl c).toArray
theorem cl_length (c : Ch) : (cl c).length = 20 := by simp [cl, rl_length]
theorem cc_size (c : Ch) : (cc c).size = 20 := by simp [cc, cl_length]

def changeL (l : List Rt) (c : Ch) : List Rt × Int :=
  if mayB c.rt.pre = true then
    (if c.gone = true then (if thereB l c.rt.pre (idxL l c.rt.pre) = true then (l.eraseIdx (idxL l c.rt.pre), 0) else ([], 6))
     else if thereB l c.rt.pre (idxL l c.rt.pre) = true then (l.set (idxL l c.rt.pre) c.rt, 0)
     else if l.length = 256 then ([], 5) else (insL l (idxL l c.rt.pre) c.rt, 0))
  else ([], 1)

def ChangePost (w : World) (base : Nat) (v : Value) (x : List Rt × Int) (e : Ending) (w' : World) : Prop :=
  ∃ v', e = .returned (.tuple #[v', .int .i64 x.2]) ∧ Own w' base v' x.1 ∧ w.grownBy w' v.ownBlock

/-- What is known of a world in which a change lies. -/
structure OneCh (w : World) (B : Nat) (c : Ch) : Prop where
  lp : (preLoad ⟨B, 0, none⟩).run Try.prog w = .ok (.agg (pc c.rt.pre)) w
  lr : (routeLoad ⟨B, 0, none⟩).run Try.prog w = .ok (.agg (rc c.rt)) w
  lg : w.cell? ⟨B, 19, none⟩ = some (.bool c.gone)

theorem oneCh_of {w : World} {B : Nat} {c : Ch} (h : CellsAt w ⟨B, 0, none⟩ (cl c)) : OneCh w B c := by
  have hr : CellsAt w ⟨B, 0, none⟩ (rl c.rt) := fun j u hu => h j u (by
    unfold cl; rw [List.getElem?_append_left (List.getElem?_eq_some_iff.1 hu).1]; exact hu)
  refine ⟨run_preLoadA hr.pre, run_routeLoad hr, ?_⟩
  have := h 19 (.bool c.gone) (by unfold cl; rw [List.getElem?_append_right (by rw [rl_length]; decide), rl_length]; rfl)
  rw [add_here, Nat.zero_add] at this
  exact this
theorem newCh (W : World) (c : Ch) : CellsAt (W.alloc (.cells (cc c) 52)) ⟨W.heap.size, 0, none⟩ (cl c) := fun j u hu => by
  rw [add_here, Nat.zero_add, World.cell?_alloc_at _ _ _ _ rfl]; simpa [cc] using hu

theorem own_set {w : World} {base g cap : Nat} {l : List Rt} {rest : List Value} (h : OwnAt w base g cap l rest) {i : Nat} (hi : i < l.length) (r : Rt) :
    (routeStore ⟨g, i * 19, none⟩ (.agg (rc r))).run Try.prog w = .ok () (w.setRow g (fl (l.set i r) ++ rest).toArray) ∧ Own (w.setRow g (fl (l.set i r) ++ rest).toArray) base (.slice (some ⟨g, 0, none⟩) l.length cap) (l.set i r) := by
  refine ⟨run_routeStore_at h.row hi r, ?_⟩
  have : OwnAt (w.setRow g (fl (l.set i r) ++ rest).toArray) base g cap (l.set i r) rest := ⟨h.base, h.row.set _, by rw [List.length_set]; exact h.size, by rw [List.length_set]; exact h.le, h.max⟩
  have := this.own
  rw [List.length_set] at this
  exact this

set_option maxHeartbeats 2000000 in
set_option maxRecDepth 100000 in
theorem change_any (l : List Rt) (c : Ch) (v : Value) (base : Nat) (w : World) (ho : Own w base v l) (hg : Good l) (hl : l.length ≤ 256) (hbase : base ≤ w.heap.size) :
    Calls Try.prog 30 #[v, .agg (cc c)] w (ChangePost w base v (changeL l c)) := by
  have hb0 : Below w.heap.size w (w.alloc (.cells (cc c) 52)) := (Below.refl _ _).alloc (Nat.le_refl _) _
  have hz0 : (w.alloc (.cells (cc c) 52)).heap.size = w.heap.size + 1 := by simp
  have T : ∀ w1, Below (w.alloc (.cells (cc c) 52)).heap.size (w.alloc (.cells (cc c) 52)) w1 → OneCh w1 w.heap.size c ∧ Own w1 base v l ∧ Below w.heap.size w w1 := fun w1 h => by
    have hb : Below w.heap.size w w1 := hb0.trans (h.mono (by rw [hz0]; omega))
    exact ⟨oneCh_of ((newCh w c).below h (by rw [hz0]; simp)), ho.later hb, hb⟩
  have HT := Lib.hid T
  have C1 := may_any c.rt.pre c.rt.hk (w.alloc (.cells (cc c) 52))
  obtain ⟨⟨lp0, -, -⟩, -, -⟩ := T _ (Below.refl _ _)
  have HF : Hid (changeL l c = changeL l c) := rfl
  have HO := Lib.hid ho
  clear T hb0 hz0
  unfold changeL at HF ⊢
  cases hm : mayB c.rt.pre with
  | false =>
    rw [hm] at C1
    have HC := Lib.hid C1
    clear C1 hm HF ho
    unfold ChangePost
    go_enter Try.func30, Try.ntmps30
    go_wp2_with fail
    refine HC.out.mono ?_
    rintro e w1 ⟨rfl, h1⟩
    obtain ⟨⟨lp, lr, lg⟩, -, hb⟩ := HT.out w1 h1
    go_wp2
    go_ret2
    exact ⟨_, rfl, own_nil _ _, grown_below hb _⟩
  | true =>
    rw [hm] at C1
    have HC := Lib.hid C1
    clear C1 hm HF
    have hat := idx_le l c.rt.pre
    have hpl := place_good hg c.rt.pre
    have C2 := fun w1 h => place_any l c.rt.pre c.rt.hk (idxL l c.rt.pre) hpl (by omega) v w1 h
    obtain ⟨x, hx⟩ : ∃ x, x = idxL l c.rt.pre := ⟨_, rfl⟩
    rw [← hx] at C2 hat hpl ⊢
    rw [if_pos rfl]
    have hat' : thereB l c.rt.pre x = true → x < l.length := fun ht => by
      unfold thereB at ht
      by_cases h : x < l.length
      · exact h
      · rw [List.getElem?_eq_none (by omega)] at ht; cases ht
    have HX := Lib.hid hx
    clear hx hpl hg
    cases ht : thereB l c.rt.pre x with
    | false =>
      rw [ht] at C2
      have HD := Lib.hid C2
      clear C2 ht hat'
      cases hgn : c.gone with
      | true =>
        rw [if_pos rfl, if_neg Bool.false_ne_true]
        have HG := Lib.hid hgn
        clear hgn ho
        unfold ChangePost
        go_enter Try.func30, Try.ntmps30
        go_wp2_with fail
        refine HC.out.mono ?_
        rintro e w1 ⟨rfl, h1⟩
        obtain ⟨⟨lp, lr, lg⟩, ho1, hb⟩ := HT.out w1 h1
        go_wp2_with fail
        refine (HD.out w1 ho1.rd).mono ?_
        rintro e w2 ⟨rfl, h2⟩
        obtain ⟨⟨lp, lr, lg⟩, ho2, hb2⟩ := HT.out w2 (h1.trans (h2.mono h1.size))
        rw [HG.out] at lg
        go_wp2
        go_ret2
        exact ⟨_, rfl, own_nil _ _, grown_below hb2 _⟩
      | false =>
        rw [if_neg Bool.false_ne_true, if_neg Bool.false_ne_true]
        have HG := Lib.hid hgn
        clear hgn
        obtain ⟨a, cap, hv, -⟩ := rd_len ho.rd
        obtain ⟨n, hn⟩ : ∃ n, n = l.length := ⟨_, rfl⟩
        rw [← hn] at hv hl hat ⊢
        have HN := Lib.hid hn
        clear hn ho
        by_cases h256 : n = 256
        · rw [if_pos h256]
          subst h256
          subst hv
          unfold ChangePost
          go_enter Try.func30, Try.ntmps30
          go_wp2_with fail
          refine HC.out.mono ?_
          rintro e w1 ⟨rfl, h1⟩
          obtain ⟨⟨lp, lr, lg⟩, ho1, hb⟩ := HT.out w1 h1
          go_wp2_with fail
          refine (HD.out w1 ho1.rd).mono ?_
          rintro e w2 ⟨rfl, h2⟩
          obtain ⟨⟨lp, lr, lg⟩, ho2, hb2⟩ := HT.out w2 (h1.trans (h2.mono h1.size))
          rw [HG.out] at lg
          go_wp2
          go_ret2
          exact ⟨_, rfl, own_nil _ _, grown_below hb2 _⟩
        · rw [if_neg h256]
          have hnI : ((n : Int) == 256) = false := by rw [beq_eq_false_iff_ne]; omega
          have HV := Lib.hid hv
          subst hv
          have hbd := fun W => run_rowBuild c.rt W
          clear h256
          unfold ChangePost
          go_enter Try.func30, Try.ntmps30
          go_wp2_with fail
          refine HC.out.mono ?_
          rintro e w1 ⟨rfl, h1⟩
          obtain ⟨⟨lp, lr, lg⟩, ho1, hb⟩ := HT.out w1 h1
          go_wp2_with fail
          refine (HD.out w1 ho1.rd).mono ?_
          rintro e w2 ⟨rfl, h2⟩
          obtain ⟨⟨lp, lr, lg⟩, ho2, hb2⟩ := HT.out w2 (h1.trans (h2.mono h1.size))
          rw [HG.out] at lg
          have HO2 := Lib.hid ho2
          clear ho1 ho2
          go_wp2_with fail
          have hal : Below w2.heap.size w2 (w2.alloc (.cells (rc c.rt) 34)) := (Below.refl _ _).alloc (Nat.le_refl _) _
          have C3 := insert_any l _ base w2.heap.size x c.rt (w2.alloc (.cells (rc c.rt) 34)) (HO2.out.later hal) (by rw [← HN.out]; exact hat) (by rw [← HN.out]; omega) (Nat.le_trans (Nat.le_trans hbase hb2.size) hal.size) (Go.heap_alloc_new _ _) (fun e => by
            have := (HO2.out.lt _ e).2; omega)
          refine C3.mono ?_
          rintro e w3 ⟨v', rfl, ho3, hg3⟩
          have HO3 := Lib.hid ho3
          have HG3 := Lib.hid hg3
          clear ho3 hg3 C3
          go_wp2
          go_ret2
          exact ⟨_, rfl, HO3.out, grown_trans (grown_below (hb2.trans (hal.mono hb2.size)) _) HG3.out⟩
    | true =>
      rw [ht] at C2
      have HD := Lib.hid C2
      have hlt := hat' ht
      clear C2 ht hat'
      rcases ho.at' with ⟨_, hnil⟩ | ⟨g, cap, rest, rfl, hoat⟩
      · exfalso; rw [hnil] at hlt; exact absurd hlt (Nat.not_lt_zero _)
      · have HA := Lib.hid hoat
        cases hgn : c.gone with
        | true =>
          rw [if_pos rfl, if_pos rfl]
          have HG := Lib.hid hgn
          obtain ⟨n, hn⟩ : ∃ n, n = l.length := ⟨_, rfl⟩
          rw [← hn] at hl hat hlt HT HD HO ⊢
          have HN := Lib.hid hn
          have hxI : (x : Int) < n := by omega
          have hnI : (n : Int) ≤ 256 := by omega
          clear hgn ho hn hoat
          unfold ChangePost
          go_enter Try.func30, Try.ntmps30
          go_wp2_with fail
          refine HC.out.mono ?_
          rintro e w1 ⟨rfl, h1⟩
          obtain ⟨⟨lp, lr, lg⟩, ho1, hb⟩ := HT.out w1 h1
          go_wp2_with fail
          refine (HD.out w1 ho1.rd).mono ?_
          rintro e w2 ⟨rfl, h2⟩
          obtain ⟨⟨lp, lr, lg⟩, ho2, hb2⟩ := HT.out w2 (h1.trans (h2.mono h1.size))
          rw [HG.out] at lg
          have HO2 := Lib.hid ho2
          clear ho1 ho2
          go_wp2_with fail
          have C3 := delete_any l _ base x w2 HO2.out (by rw [← HN.out]; exact hlt) (by rw [← HN.out]; omega)
          refine C3.mono ?_
          rintro e w3 ⟨v', rfl, ho3, hg3⟩
          have HO3 := Lib.hid ho3
          have HG3 := Lib.hid hg3
          clear ho3 hg3 C3
          go_wp2
          go_ret2
          exact ⟨_, rfl, HO3.out, grown_trans (grown_below hb2 _) HG3.out⟩
        | false =>
          rw [if_neg Bool.false_ne_true, if_pos rfl]
          have HG := Lib.hid hgn
          have T3 : ∀ w2, Below w.heap.size w w2 → (routeStore ⟨g, x * 19, none⟩ (.agg (rc c.rt))).run Try.prog w2 = .ok () (w2.setRow g (fl (l.set x c.rt) ++ rest).toArray) ∧ Own (w2.setRow g (fl (l.set x c.rt) ++ rest).toArray) base (.slice (some ⟨g, 0, none⟩) l.length cap) (l.set x c.rt) := fun w2 hb =>
            own_set ⟨HA.out.base, HA.out.row.later hb, HA.out.size, HA.out.le, HA.out.max⟩ hlt c.rt
          obtain ⟨n, hn⟩ : ∃ n, n = l.length := ⟨_, rfl⟩
          rw [← hn] at hl hat hlt HT HD HO T3 ⊢
          have HT3 := Lib.hid T3
          obtain ⟨cs, hcs⟩ : ∃ cs, cs = fl (l.set x c.rt) ++ rest := ⟨_, rfl⟩
          rw [← hcs] at HT3
          have HN := Lib.hid hn
          have hxI : (x : Int) < n := by omega
          have hnI : (n : Int) ≤ 256 := by omega
          clear hgn ho hn hoat T3 hcs
          unfold ChangePost
          go_enter Try.func30, Try.ntmps30
          go_wp2_with fail
          refine HC.out.mono ?_
          rintro e w1 ⟨rfl, h1⟩
          obtain ⟨⟨lp, lr, lg⟩, ho1, hb⟩ := HT.out w1 h1
          go_wp2_with fail
          refine (HD.out w1 ho1.rd).mono ?_
          rintro e w2 ⟨rfl, h2⟩
          obtain ⟨⟨lp, lr, lg⟩, ho2, hb2⟩ := HT.out w2 (h1.trans (h2.mono h1.size))
          rw [HG.out] at lg
          obtain ⟨st, so⟩ := HT3.out w2 hb2
          have HSO := Lib.hid so
          clear ho1 ho2 so
          go_wp2
          go_ret2
          exact ⟨_, rfl, HSO.out, grown_trans (grown_below hb2 _) (grown_setRow _ _ _)⟩
end Go.Proofs.Ytcpdpcfejpbdpaa
