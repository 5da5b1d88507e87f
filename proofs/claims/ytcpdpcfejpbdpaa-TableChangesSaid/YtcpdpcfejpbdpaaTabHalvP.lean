/- Changes made in two parts, and one put and taken away. -/
import Derived.Test.YtcpdpcfejpbdpaaTabLaws
import Derived.Laws.AppendOwnNone
namespace Go.Proofs.Ytcpdpcfejpbdpaa
open Go.RowKit Go.Sort Go.Shelf

theorem fold_append (t : List Rt) (a b : List Ch) : foldL t (a ++ b) = if (foldL t a).2 = 0 then foldL (foldL t a).1 b else ([], (foldL t a).2) := by
  induction a generalizing t with
  | nil => simp [foldL]
  | cons c a ih =>
    simp only [List.cons_append, foldL]
    by_cases h : (changeL t c).2 = 0
    · simp only [h, if_true]; exact ih _
    · simp only [h, if_false]
theorem fold_good {t : List Rt} (h : Good t) (hl : t.length ≤ 256) (cs : List Ch) (h0 : (foldL t cs).2 = 0) : Good (foldL t cs).1 ∧ (foldL t cs).1.length ≤ 256 := by
  induction cs generalizing t with
  | nil => exact ⟨h, hl⟩
  | cons c cs ih =>
    simp only [foldL] at h0 ⊢
    by_cases hc : (changeL t c).2 = 0
    · simp only [hc, if_true] at h0 ⊢
      obtain ⟨g1, g2⟩ := change_good h hl c hc
      exact ih g1 g2 h0
    · simp only [hc, if_false] at h0
theorem apply_good {t : List Rt} (h : Good t) (hl : t.length ≤ 256) (cs : List Ch) : Good (applyL t cs).1 ∧ (applyL t cs).1.length ≤ 256 := by
  unfold applyL
  rw [(right_iff t).2 ⟨hl, h⟩, if_pos rfl]
  by_cases h0 : (foldL t cs).2 = 0
  · simp only [h0, if_true]; exact fold_good h hl cs h0
  · simp only [h0, if_false]; exact ⟨h, hl⟩
theorem apply_right {t : List Rt} (h : Good t) (hl : t.length ≤ 256) (cs : List Ch) : applyL t cs = if (foldL t cs).2 = 0 then ((foldL t cs).1, 0) else (t, (foldL t cs).2) := by
  unfold applyL
  rw [(right_iff t).2 ⟨hl, h⟩, if_pos rfl]

structure HalvesAre (t : List Rt) (u v w : List Rt) (e f g : Int) : Prop where
  both : e = 0 → f = 0 → g = 0 ∧ v = w
  first : e ≠ 0 → g = e ∧ w = t
theorem halves_are {t : List Rt} (h : Good t) (hl : t.length ≤ 256) (a b : List Ch) : HalvesAre t (applyL t a).1 (applyL (applyL t a).1 b).1 (applyL t (a ++ b)).1 (applyL t a).2 (applyL (applyL t a).1 b).2 (applyL t (a ++ b)).2 := by
  have e1 := apply_right h hl a
  have e3 := apply_right h hl (a ++ b)
  rw [fold_append] at e3
  by_cases h0 : (foldL t a).2 = 0
  · rw [if_pos h0] at e1 e3
    obtain ⟨g1, g2⟩ := fold_good h hl a h0
    have e2 := apply_right g1 g2 b
    rw [e1, e3, e2]
    by_cases h1 : (foldL (foldL t a).1 b).2 = 0
    · simp only [h1, if_true]; exact ⟨fun _ _ => ⟨rfl, rfl⟩, fun h => absurd rfl h⟩
    · simp only [h1, if_false]; exact ⟨fun _ h => absurd h (by simpa using h1), fun h => absurd rfl h⟩
  · rw [if_neg h0] at e1 e3
    rw [e1, e3]
    have h2 : ¬ ((([] : List Rt), (foldL t a).2).2 = 0) := h0
    rw [if_neg h2]
    exact ⟨fun h => absurd h h0, fun _ => ⟨rfl, rfl⟩⟩

theorem ins_mem (l : List Rt) (i : Nat) (r s : Rt) : s ∈ insL l i r ↔ s ∈ l ∨ s = r := by
  unfold insL
  rw [List.mem_append, List.mem_cons]
  conv => rhs; rw [← List.take_append_drop i l]
  rw [List.mem_append]
  constructor
  · rintro (h | h | h)
    · exact .inl (.inl h)
    · exact .inr h
    · exact .inl (.inr h)
  · rintro ((h | h) | h)
    · exact .inl h
    · exact .inr (.inr h)
    · exact .inr (.inl h)
theorem get_none {l : List Rt} {p : Pre} (h : (getL l p).2 = 6) : mayB p = true ∧ thereB l p (idxL l p) = false := by
  unfold getL at h
  cases hr : rightB l with
  | false => rw [hr] at h; simp at h
  | true =>
    cases hm : mayB p with
    | false => rw [hr, hm] at h; simp at h
    | true =>
      cases ht : thereB l p (idxL l p) with
      | false => exact ⟨rfl, rfl⟩
      | true => rw [hr, hm, ht] at h; simp at h
theorem put_gone {t : List Rt} (h : Good t) (hl : t.length ≤ 255) (r : Rt) (hn : (getL t r.pre).2 = 6) : applyL t [⟨r, false⟩, ⟨r, true⟩] = (t, 0) := by
  obtain ⟨hm, ht⟩ := get_none hn
  have c1 : changeL t ⟨r, false⟩ = (insL t (idxL t r.pre) r, 0) := by
    unfold changeL
    simp only [hm, ht, if_true, Bool.false_eq_true, if_false]
    rw [if_neg (by omega)]
  have hg := good_ins h hm ht
  have hr : r ∈ insL t (idxL t r.pre) r := (ins_mem _ _ _ _).2 (.inr rfl)
  have hnot : r ∉ t := fun hx => by rw [there_mem h hx] at ht; cases ht
  have c2 : changeL (insL t (idxL t r.pre) r) ⟨r, true⟩ = (t, 0) := by
    unfold changeL
    simp only [hm, there_mem hg hr, if_true]
    congr 1
    refine good_same (hg.sub (List.eraseIdx_sublist _ _)) h fun s => ?_
    rw [erase_mem hg hr, ins_mem]
    constructor
    · rintro ⟨h1 | h1, h2⟩
      · exact h1
      · exact absurd h1 h2
    · intro h1
      exact ⟨.inl h1, fun e => hnot (e ▸ h1)⟩
  unfold applyL foldL
  rw [(right_iff t).2 ⟨by omega, h⟩, if_pos rfl, c1]
  simp only [if_true]
  unfold foldL
  rw [c2]
  simp only [if_true]
  rfl

/-! ### Changes appended to a row of the call's own -/
theorem infoCh : (Try.prog.info? 52).map (fun i => (i.zero, i.size, i.bytes)) = some (some (.agg (cc ⟨zrt, false⟩)), 20, 48) := by kernel_rfl
theorem infoCh' : ∃ i, Try.prog.info? 52 = some i ∧ i.zero = some (.agg (cc ⟨zrt, false⟩)) ∧ i.size = 20 ∧ i.bytes = 48 := by
  obtain ⟨i, h0, h1, h2, h3⟩ := info_parts infoCh
  exact ⟨i, h0, h1, h2, h3⟩
theorem cl_ones (l : List Ch) : ∀ v ∈ fc l, v.oneCell' = true := fun v hv => by
  obtain ⟨r, _, h⟩ := List.mem_flatMap.1 hv
  exact cl_one r v h

theorem fcl_length (l : List Ch) : (fc l).length = l.length * 20 := by
  induction l with
  | nil => rfl
  | cons r l ih => rw [fc_cons, List.length_append, cl_length, ih, List.length_cons]; omega

theorem append_chs {w : World} {ops : Array Oper} {rest : List Oper} {o : Oper} {a : Act} {Q : Exit → Act → World → Prop} (hgd : o.guard = none) (s x : Operand)
    (ho : o.op = .call { callee := .builtin .append, args := #[s, x], argTypes := #[27, 27] }) (base : Nat) (v : Value) (n : Nat) (xs : List Value) (hs : a.eval s = v) (hown : w.ownsRow base 52 20 v n xs)
    (u : Value) (cs : List Ch) (hx : a.eval x = u) (hC : RdC w u cs) (hn : n + cs.length ≤ 65536) (hbase : base ≤ w.heap.size)
    (h : ∀ v' w', w'.ownsRow base 52 20 v' (n + cs.length) (xs ++ fc cs) → w.grownBy w' v.ownBlock → wpList Try.prog ops Q rest (a.put o.dst v') w') : wpList Try.prog ops Q (o :: rest) a w := by
  obtain ⟨i, h0, h1, h2, h3⟩ := infoCh'
  rcases hC with ⟨rfl, rfl⟩ | ⟨ad, cap, rfl, h4, h5, hc⟩
  · exact wpList_append_own_none hgd s x 27 ho base 52 i 20 Try.underlying27 h0 v n xs hs hown hx (h v w (by simpa [fc] using hown) (grown_refl w _))
  · exact wpList_append_own w hgd s x 27 ho base 52 i (.agg (cc ⟨zrt, false⟩)) 20 48 Try.underlying27 h0 h1 h2 h3 (cc_size _) (by decide) v n xs hs hown ad cs.length cap (fc cs) hx (fcl_length cs) hc (cl_ones cs) (by simp only [maxLen]; omega) (by omega) hbase (fun v' w' a b _ => h v' w' a b)

theorem rdC_own {w : World} {base : Nat} {v : Value} {l : List Ch} (h : w.ownsRow base 52 20 v l.length (fc l)) : RdC w v l := by
  obtain ⟨hx, h⟩ := id h
  rcases h with ⟨h1, h2⟩ | ⟨g, cap, cur, h1, h2, h3, h4, h5, h6, h7⟩
  · exact .inl ⟨h1, List.length_eq_zero_iff.1 h2⟩
  · exact .inr ⟨⟨g, 0, none⟩, cap, h1, h4, h5, fun j u hu => World.ownsRow.cells h (g := g) (by rw [h1]; rfl) j u hu⟩
theorem fc_append (a b : List Ch) : fc (a ++ b) = fc a ++ fc b := by simp [fc]
theorem run_chs0 (w : World) : (chsBuild 0 #[]).run Try.prog w = .ok (.slice (some ⟨w.heap.size, 0, none⟩) 0 0) (w.alloc (.cells #[] 52)) := by
  kernel_rfl
theorem ownC_made0 (w : World) : (w.alloc (.cells #[] 52)).ownsRow w.heap.size 52 20 (.slice (some ⟨w.heap.size, 0, none⟩) 0 0) 0 [] := by
  have := World.ownsRow_made (e := 52) (size := 20) w #[] 0 (Nat.le_refl _) (Nat.zero_le _) rfl
  exact this
end Go.Proofs.Ytcpdpcfejpbdpaa
