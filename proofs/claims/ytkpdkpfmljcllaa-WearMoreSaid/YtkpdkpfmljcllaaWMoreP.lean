/- One of the blocks is turned: what that does to what is right, to the room, and to who is dead. -/
import Derived.Test.YtkpdkpfmljcllaaWLeastP
namespace Go.Proofs.Ytkpdkpfmljcllaa.Wear
open Go.RowKit Go.Sort Go.Shelf

theorem mem_set {l : List Wb} {k : Nat} {x' b : Wb} (h : b ∈ l.set k x') : b ∈ l ∨ b = x' := by
  obtain ⟨i, hi⟩ := List.mem_iff_getElem?.1 h
  rw [List.getElem?_set] at hi
  split at hi
  · split at hi
    · exact .inr (Option.some.inj hi).symm
    · cases hi
  · exact .inl (List.mem_of_getElem? hi)
theorem right_set {l : List Wb} {p : Int} (hr : rightB l p = true) (k : Nat) {x' : Wb} (h : rightE p x' = true) : rightB (l.set k x') p = true := by
  obtain ⟨h1, h2, h3, h4, h5⟩ := rightB_iff.1 hr
  exact rightB_iff.2 ⟨by rw [List.length_set]; exact h1, by rw [List.length_set]; exact h2, h3, h4, fun b hb => by
    rcases mem_set hb with hb | rfl
    · exact h5 b hb
    · exact h⟩
theorem roomTo_set {l : List Wb} {p : Int} {k : Nat} {x x' : Wb} (hx : l[k]? = some x) : ∀ n, n ≤ l.length → roomTo p (l.set k x') n = roomTo p l n + (if k < n then roomE p x' - roomE p x else 0)
  | 0, _ => by simp [roomTo]
  | n + 1, hn => by
    have hy : l[n]? = some (l[n]'(by omega)) := List.getElem?_eq_getElem _
    obtain ⟨y, hye⟩ : ∃ y, l[n]'(by omega) = y := ⟨_, rfl⟩
    rw [hye] at hy
    have ih := roomTo_set (p := p) (x' := x') hx n (by omega)
    rw [roomTo_next hy]
    by_cases e : k = n
    · subst e
      have hz : (l.set k x')[k]? = some x' := by rw [List.getElem?_set, if_pos rfl, if_pos (by omega)]
      rw [hx] at hy
      obtain rfl := Option.some.inj hy
      rw [roomTo_next hz, ih, if_neg (Nat.lt_irrefl _), if_pos (Nat.lt_succ_self _)]
      omega
    · have hz : (l.set k x')[n]? = some y := by rw [List.getElem?_set, if_neg e]; exact hy
      rw [roomTo_next hz, ih]
      by_cases e2 : k < n
      · rw [if_pos e2, if_pos (by omega)]; omega
      · rw [if_neg e2, if_neg (by omega)]; omega
theorem room_of_bad {p : Int} {b : Wb} (h : b.bad = true) : roomE p b = 0 := by unfold roomE; rw [if_pos h]
theorem room_of_free {p : Int} {b : Wb} (hr : rightE p b = true) (h : b.bad = false) (hl : b.live = 0) : roomE p b = p := by
  have := rightE_iff.1 hr
  unfold roomE deadB
  rw [h, hl]
  simp
  omega
theorem room_of_part {p : Int} {b : Wb} (h : b.bad = false) (hl : ¬ b.live = 0) : roomE p b = p - b.used := by
  unfold roomE deadB
  rw [h, decide_eq_false hl]
  simp
/-- Marked as bad, it has no room any more. -/
theorem room_bad {l : List Wb} {p : Int} (hr : rightB l p = true) {k : Nat} {x : Wb} (hx : l[k]? = some x) : roomL (l.set k ⟨x.live, x.used, x.worn, true⟩) p = roomL l p - roomE p x := by
  obtain ⟨h1, h2, h3, h4, h5⟩ := rightB_iff.1 hr
  have hk := (List.getElem?_eq_some_iff.1 hx).1
  have hx' : rightE p ⟨x.live, x.used, x.worn, true⟩ = true := rightE_iff.2 (rightE_iff.1 (h5 x (List.mem_of_getElem? hx)))
  unfold roomL
  rw [if_pos (right_set hr k hx'), if_pos hr, List.length_set, roomTo_set hx _ (Nat.le_refl _), if_pos hk]
  show roomTo p l l.length + (0 - roomE p x) = _
  omega
/-- Worn more, it is no sooner dead. -/
theorem dead_more {l : List Wb} {p : Int} (hr : rightB l p = true) {k : Nat} {x : Wb} (hx : l[k]? = some x) {z : Int} (hz : x.worn ≤ z) (hz2 : z ≤ 1099511627776) :
    (deadL (l.set k ⟨x.live, x.used, z, x.bad⟩) p).isSome = (deadL l p).isSome ∧ ∀ d, deadL l p = some d → k ≠ d → deadL (l.set k ⟨x.live, x.used, z, x.bad⟩) p = some d := by
  obtain ⟨h1, h2, h3, h4, h5⟩ := rightB_iff.1 hr
  have hk := (List.getElem?_eq_some_iff.1 hx).1
  have hrx := rightE_iff.1 (h5 x (List.mem_of_getElem? hx))
  obtain ⟨x', hx'⟩ : ∃ x' : Wb, x' = ⟨x.live, x.used, z, x.bad⟩ := ⟨_, rfl⟩
  have hr' : rightB (l.set k x') p = true := right_set hr k (rightE_iff.2 (by rw [hx']; dsimp only; omega))
  have hd : deadB x' = deadB x := by rw [hx']; rfl
  have hkk : (l.set k x')[k]? = some x' := by rw [List.getElem?_set, if_pos rfl, if_pos hk]
  have hko : ∀ j, j ≠ k → (l.set k x')[j]? = l[j]? := fun j hj => by rw [List.getElem?_set, if_neg (fun e => hj e.symm)]
  rw [← hx']
  refine ⟨?_, fun d hdd hne => ?_⟩
  · cases hq : deadL l p with
    | none =>
      cases hq' : deadL (l.set k x') p with
      | none => rfl
      | some j =>
        obtain ⟨y, hy⟩ := first_some keyed_dead hq'
        have hn := first_none keyed_dead hr hq
        have hfit := hy.fits
        rcases mem_set (List.mem_of_getElem? hy.at') with hm | rfl
        · rw [hn y hm] at hfit; cases hfit
        · rw [hd, hn x (List.mem_of_getElem? hx)] at hfit; cases hfit
    | some j =>
      cases hq' : deadL (l.set k x') p with
      | some _ => rfl
      | none =>
        obtain ⟨y, hy⟩ := first_some keyed_dead hq
        have hn := first_none keyed_dead hr' hq'
        have hfit := hy.fits
        by_cases e : j = k
        · subst e
          have hyx := hy.at'
          rw [hx] at hyx
          obtain rfl := Option.some.inj hyx
          rw [← hd, hn x' (List.mem_of_getElem? hkk)] at hfit
          cases hfit
        · have := hn y (List.mem_of_getElem? (by rw [hko j e]; exact hy.at'))
          rw [this] at hfit; cases hfit
  · obtain ⟨y, hy⟩ := first_some keyed_dead hdd
    have hc : ∀ a b : Wb, cmpL [lessWorn] a b = cmpI a.worn b.worn := fun a b => by
      show (if cmpI a.worn b.worn = 0 then (0 : Int) else cmpI a.worn b.worn) = _
      split
      · rename_i h; exact h.symm
      · rfl
    have hw : x'.worn = z := by rw [hx']
    refine first_unique keyed_dead hr' (y := y) ⟨by rw [hko d (fun e => hne e.symm)]; exact hy.at', by rw [List.length_set]; exact hy.lt, hy.fits, fun j b hj hb hdb => ?_, fun j b hj hb hdb => ?_⟩
    · rw [hc]
      by_cases e : j = k
      · subst e
        rw [hkk] at hb
        obtain rfl := Option.some.inj hb
        have := hy.least j x hk hx (by rw [← hd]; exact hdb)
        rw [hc] at this
        rcases cmpI_cases x.worn y.worn with ⟨a1, a2⟩ | ⟨a1, a2⟩ | ⟨a1, a2⟩ <;> rcases cmpI_cases x'.worn y.worn with ⟨b1, b2⟩ | ⟨b1, b2⟩ | ⟨b1, b2⟩ <;> omega
      · have := hy.least j b (by rw [List.length_set] at hj; exact hj) (by rw [← hko j e]; exact hb) hdb
        rwa [hc] at this
    · rw [hc]
      by_cases e : j = k
      · subst e
        rw [hkk] at hb
        obtain rfl := Option.some.inj hb
        have := hy.ahead j x hj hx (by rw [← hd]; exact hdb)
        rw [hc] at this
        rcases cmpI_cases x.worn y.worn with ⟨a1, a2⟩ | ⟨a1, a2⟩ | ⟨a1, a2⟩ <;> rcases cmpI_cases x'.worn y.worn with ⟨b1, b2⟩ | ⟨b1, b2⟩ | ⟨b1, b2⟩ <;> omega
      · have := hy.ahead j b hj (by rw [← hko j e]; exact hb) hdb
        rwa [hc] at this
/-- Of blocks that are worn alike the spread is 0. -/
theorem spread_alike {l : List Wb} {z : Int} (h : ∀ b ∈ l, b.worn = z) : spreadL l = 0 := by
  unfold spreadL
  split
  · split
    · rfl
    · have h1 := (maxOf_spec (l := wornTo l l.length) (by omega)).1
      have h2 := (minOf_spec (l := wornTo l l.length) (by omega)).1
      obtain ⟨b, hb, -, hb2⟩ := wornTo_mem.1 h1
      obtain ⟨c, hc, -, hc2⟩ := wornTo_mem.1 h2
      have := h b (List.mem_of_mem_take hb)
      have := h c (List.mem_of_mem_take hc)
      omega
  · rfl

/-! ### A row of the call's own -/
theorem infoW : (Try.prog.info? 31).map (fun i => (i.zero, i.size, i.bytes)) = some (some (.agg zw), 4, 32) := by kernel_rfl
theorem OwnW.at {w : World} {base g n cap : Nat} {l : List Wb} (h : OwnW w base (.slice (some ⟨g, 0, none⟩) n cap) l) {i : Nat} {x : Wb} (hx : l[i]? = some x) :
    (w.cell? ⟨g, i * 4, none⟩ = some (.int .i64 x.live) ∧ w.cell? ⟨g, i * 4 + 1, none⟩ = some (.int .i64 x.used) ∧ w.cell? ⟨g, i * 4 + 2, none⟩ = some (.int .i64 x.worn) ∧ w.cell? ⟨g, i * 4 + 3, none⟩ = some (.bool x.bad)) ∧ ∀ j, w.frozen? ⟨g, j, none⟩ = false := by
  have k := fun (j : Nat) (hj : j < 4) u (hu : (wbC x)[j]? = some u) => World.ownsRow.cells h (g := g) rfl (i * 4 + j) u (by rw [wbAll_at hx hj]; exact hu)
  simp only [add_here, Nat.zero_add] at k
  refine ⟨⟨k 0 (by omega) _ rfl, k 1 (by omega) _ rfl, k 2 (by omega) _ rfl, k 3 (by omega) _ rfl⟩, fun j => World.ownsRow.frozenAt (n := n) (by
    have hn : n = l.length := by
      rcases h.2 with ⟨h2, -⟩ | ⟨g', cap', cur, h2, -⟩ <;> cases h2; rfl
    subst hn; exact h) j⟩
theorem OwnW.store {w : World} {base g n cap : Nat} {l : List Wb} (h : OwnW w base (.slice (some ⟨g, 0, none⟩) n cap) l) {i j : Nat} {b b' : Wb} (hb : l[i]? = some b) (hj : j < 4) (u : Value) (hu : wbC b' = (wbC b).set j u) :
    OwnW (w.setCell ⟨g, i * 4 + j, none⟩ u) base (.slice (some ⟨g, 0, none⟩) n cap) (l.set i b') ∧ Below base w (w.setCell ⟨g, i * 4 + j, none⟩ u) := by
  have hn : n = l.length := by
    rcases h.2 with ⟨h2, -⟩ | ⟨g', cap', cur, h2, -⟩ <;> cases h2; rfl
  subst hn
  have hg : base ≤ g := (World.ownsRow.lt h g rfl).1
  obtain ⟨h1, h2⟩ := World.ownsRow.stored h (i * 4 + j) u
  refine ⟨?_, (Below.refl _ _).setCell hg _⟩
  unfold OwnW
  rw [← wbAll_set hb hj u hu, List.length_set]
  exact h1
/-- Blocks behind blocks of the call's own. -/
theorem run_appendW {w : World} {base : Nat} {v u : Value} {xs ys : List Wb} (h : OwnW w base v xs) (hr : RdW w u ys) (hb : base ≤ w.heap.size) (hn : xs.length + ys.length ≤ 100000) (ty : TypeId) :
    ∃ v' w', (Builtin.append_ #[22, 22] ty #[v, u]).run Try.prog w = .ok v' w' ∧ OwnW w' base v' (xs ++ ys) ∧ w.grownBy w' v.ownBlock := by
  obtain ⟨i0, e0, e1, e2, e3⟩ := info_parts infoW
  obtain ⟨a, cap, h1, h2, h3, h4, h5⟩ := hr
  subst h1
  cases a with
  | none =>
    have hc := h4 rfl
    subst hc
    have hy : ys = [] := List.length_eq_zero_iff.1 (by omega)
    subst hy
    refine ⟨v, w, ?_, by rw [List.append_nil]; exact h, ⟨rfl, rfl, rfl, Nat.le_refl _, fun _ _ _ => rfl⟩⟩
    exact run_append_owned_none (P := Try.prog) (w := w) base 22 ty 31 i0 4 Try.underlying22 e0 v _ _ h
  | some ad =>
    obtain ⟨v', w', r1, r2, r3, -⟩ := run_append_own (P := Try.prog) (w := w) base 22 ty 31 i0 (.agg zw) 4 32 Try.underlying22 e0 e1 e2 e3 rfl (by decide) v xs.length (wbAll xs) h ad ys.length cap (wbAll ys)
      (by rw [wbAll_length]) (fun j u hu => h5 ad rfl j u hu) (wbAll_one ys) (by unfold maxLen; omega) (by omega) hb
    refine ⟨v', w', r1, ?_, r3⟩
    unfold OwnW
    rw [List.length_append, wbAll_append]
    exact r2
/-- The operation by itself. -/
theorem wpList_appendW {w : World} {ops : Array Oper} {rest : List Oper} {o : Oper} {a : Act} {Q : Exit → Act → World → Prop} (hgd : o.guard = none) (s x : Operand)
    (ho : o.op = .call { callee := .builtin .append, args := #[s, x], argTypes := #[22, 22] })
    {base : Nat} {v u : Value} {xs ys : List Wb} (hs : a.eval s = v) (hx : a.eval x = u) (h : OwnW w base v xs) (hr : RdW w u ys) (hb : base ≤ w.heap.size) (hn : xs.length + ys.length ≤ 100000)
    (k : ∀ v' w', OwnW w' base v' (xs ++ ys) → w.grownBy w' v.ownBlock → wpList Try.prog ops Q rest (a.put o.dst v') w') : wpList Try.prog ops Q (o :: rest) a w := by
  refine wpList_plain hgd fun K hK => ?_
  obtain ⟨v', w', hrun, h1, h2⟩ := run_appendW h hr hb hn o.type
  unfold Oper.wp
  simp [execOp, ho, resolve, invoke, builtin, hs, hx, hrun, Result.andThen]
  exact hK _ _ (k v' w' h1 h2)
theorem OwnW.below {w w' : World} {base : Nat} {v : Value} {l : List Wb} (h : OwnW w base v l) (hg : w.grownBy w' v.ownBlock) (hb : base ≤ w.heap.size) : Below base w w' :=
  (Below.refl base w).grown hg hb fun k hk => (World.ownsRow.lt h k hk).1
theorem OwnW.empty (w : World) : OwnW (w.alloc (.cells #[] 31)) w.heap.size (.slice (some ⟨w.heap.size, 0, none⟩) 0 0) [] :=
  ⟨rfl, .inr ⟨w.heap.size, 0, #[], rfl, Nat.le_refl _, heap_alloc_new w _, Nat.le_refl _, by unfold maxLen; omega, rfl, rfl⟩⟩
end Go.Proofs.Ytkpdkpfmljcllaa.Wear
