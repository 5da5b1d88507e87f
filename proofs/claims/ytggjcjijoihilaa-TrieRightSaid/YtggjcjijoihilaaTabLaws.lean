/- What the table's answers are to one another. Whether two routes are the same, and whether two prefixes aren't, as the program asks it. bywayref03.Same: two lists that read the same are. Changes made in two parts, and one put and taken away. -/
import Derived.Test.YtggjcjijoihilaaTabOpen
import Derived.Test.YtggjcjijoihilaaPure
import Derived.Test.YtggjcjijoihilaaTabBase
import Derived.Test.YtggjcjijoihilaaTabPlace
import Derived.Deep.QuietTactic
import Derived.BigQuiet
import Derived.Laws.AppendOwnNone
namespace Go.Proofs.Ytggjcjijoihilaa
open Go.RowKit Go.Sort Go.Shelf

/-- Where a route of a table stands. -/
theorem idx_mem {l : List Rt} (h : Good l) {r : Rt} (hr : r ∈ l) : l[idxL l r.pre]? = some r := by
  obtain ⟨i, hi⟩ := List.mem_iff_getElem?.1 hr
  have h1 := idx_mono h r.pre i r hi
  rw [less_irrefl] at h1
  have h2 : ¬ i < idxL l r.pre := by simpa using h1.symm
  have hlt := (List.getElem?_eq_some_iff.1 hi).1
  rcases Nat.lt_or_ge (idxL l r.pre) i with h3 | h3
  · have hs : l[idxL l r.pre]? = some (l[idxL l r.pre]'(by omega)) := List.getElem?_eq_getElem _
    have h4 := idx_mono h r.pre _ _ hs
    have h5 := List.pairwise_iff_getElem.1 h.ord (idxL l r.pre) i (by omega) hlt h3
    have h6 : l[i] = r := (List.getElem?_eq_some_iff.1 hi).2
    rw [h6] at h5
    rw [h5] at h4
    simp at h4
  · rw [show idxL l r.pre = i by omega]; exact hi
theorem there_mem {l : List Rt} (h : Good l) {r : Rt} (hr : r ∈ l) : thereB l r.pre (idxL l r.pre) = true := by
  unfold thereB; rw [idx_mem h hr]; exact preEq_refl _
theorem there_find {l : List Rt} {p : Pre} (ht : thereB l p (idxL l p) = true) : ∃ r ∈ l, preEq r.pre p = true ∧ l[idxL l p]? = some r := by
  unfold thereB at ht
  cases e : l[idxL l p]? with
  | none => rw [e] at ht; cases ht
  | some r => rw [e] at ht; exact ⟨r, List.mem_of_getElem? e, ht, rfl⟩
theorem get_mem {l : List Rt} (h : Good l) (hl : l.length ≤ 256) {r : Rt} (hr : r ∈ l) : getL l r.pre = (r.hop, 0) := by
  unfold getL
  rw [(right_iff l).2 ⟨hl, h⟩, if_pos rfl, h.may r hr, if_pos rfl, there_mem h hr, if_pos rfl, idx_mem h hr]; rfl

/-! ### Who fits best -/
theorem may_whole {p : Pre} {k : Nat → Nat} (hk : Bytes16 k) (hp : Bytes16 p.key) (h : fitsB p k = true) : mayB (wholeP k p.bits) = true := by
  obtain ⟨h1, h2, -⟩ := (fitsB_iff p k hk).1 h
  obtain ⟨h3, h4, h5, -⟩ := (mayB_iff p hp).1 h1
  exact (mayB_iff (wholeP k p.bits) hk).2 ⟨h3, by show (0 : Int) ≤ p.bits; omega, Int.le_refl _, h2⟩
theorem covers_whole {p : Pre} {k : Nat → Nat} {bits : Int} (hp : Bytes16 p.key) (hw : mayB (wholeP k bits) = true) : coversB p (wholeP k bits) = true ↔ p.bits = bits ∧ fitsB p k = true := by
  rw [covers_iff]
  constructor
  · rintro ⟨-, h2, -, h4⟩; exact ⟨h2, h4⟩
  · rintro ⟨h1, h2⟩
    refine ⟨hw, h1, ?_, h2⟩
    have := (mayB_iff p hp).1 (fits_may h2)
    show p.len ≤ bits
    omega

/-- Who of two that fit stands behind the other one isn't shorter. -/
theorem fit_order {p q : Pre} {k : Nat → Nat} (hp : Bytes16 p.key) (hq : Bytes16 q.key) (hk : Bytes16 k) (f1 : fitsB p k = true) (f2 : fitsB q k = true) (hb : p.bits = q.bits) (h : lessB p q = true) : p.len ≤ q.len := by
  by_cases hl : p.len ≤ q.len
  · exact hl
  · have := covers_ahead hq hp (covers_shorter hp hk f2 f1 hb.symm (by omega))
    rw [h] at this; cases this

structure BestIs (l : List Rt) (k : Nat → Nat) (bits : Int) (r : Rt) : Prop where
  mem : r ∈ l
  bit : r.pre.bits = bits
  fit : fitsB r.pre k = true
  most : ∀ s ∈ l, s.pre.bits = bits → fitsB s.pre k = true → s.pre.len ≤ r.pre.len

theorem best_cases {l : List Rt} (h : Good l) (hl : l.length ≤ 256) {k : Nat → Nat} (hk : Bytes16 k) (bits : Int) :
    (∃ e : Int, bestL l k bits = (zrt, e) ∧ (e = 1 ∨ e = 6) ∧ (mayB (wholeP k bits) = true → e = 6) ∧ ∀ r ∈ l, r.pre.bits = bits → fitsB r.pre k = false) ∨ ∃ r, bestL l k bits = (r, 0) ∧ BestIs l k bits r := by
  have hr := (right_iff l).2 ⟨hl, h⟩
  unfold bestL
  rw [hr, if_pos rfl]
  cases hm : mayB (wholeP k bits) with
  | false =>
    refine .inl ⟨1, rfl, .inl rfl, fun h => (by cases h), fun r hr hb => ?_⟩
    cases hf : fitsB r.pre k with
    | false => rfl
    | true => have := may_whole hk r.hk hf; rw [hb, hm] at this; cases this
  | true =>
    rw [if_pos rfl]
    cases hf : l.reverse.find? (fun r => coversB r.pre (wholeP k bits)) with
    | none =>
      refine .inl ⟨6, rfl, .inr rfl, fun _ => rfl, fun r hr hb => ?_⟩
      cases e : fitsB r.pre k with
      | false => rfl
      | true => exact absurd ((covers_whole r.hk hm).2 ⟨hb, e⟩) (List.find?_eq_none.1 hf r (List.mem_reverse.2 hr))
    | some r =>
      refine .inr ⟨r, rfl, ?_⟩
      obtain ⟨hc, xs, bs, hab, hno⟩ := List.find?_eq_some_iff_append.1 hf
      have hl2 : l = bs.reverse ++ r :: xs.reverse := by
        have := congrArg List.reverse hab
        simpa using this
      obtain ⟨hb, hfit⟩ := (covers_whole r.hk hm).1 (by simpa using hc)
      refine ⟨by rw [hl2]; simp, hb, hfit, fun s hs hsb hsf => ?_⟩
      have hcs := (covers_whole s.hk hm).2 ⟨hsb, hsf⟩
      have ho := h.ord
      rw [hl2] at hs ho
      rcases List.mem_append.1 hs with hs | hs
      · exact fit_order s.hk r.hk hk hsf hfit (by rw [hsb, hb]) ((List.pairwise_append.1 ho).2.2 s hs r (by simp))
      · rcases List.mem_cons.1 hs with rfl | hs
        · exact Int.le_refl _
        · have := hno s (List.mem_reverse.1 hs)
          rw [hcs] at this; cases this

/-! ### A route taken away -/
theorem erase_mem {l : List Rt} (h : Good l) {r : Rt} (hr : r ∈ l) (s : Rt) : s ∈ l.eraseIdx (idxL l r.pre) ↔ s ∈ l ∧ s ≠ r := by
  have hi := idx_mem h hr
  obtain ⟨hlt, hg⟩ := List.getElem?_eq_some_iff.1 hi
  have e : l = l.take (idxL l r.pre) ++ r :: l.drop (idxL l r.pre + 1) := by
    conv => lhs; rw [← List.take_append_drop (idxL l r.pre) l]
    rw [List.drop_eq_getElem_cons hlt, hg]
  rw [List.eraseIdx_eq_take_drop_succ]
  have ho := h.ord
  rw [e] at ho
  obtain ⟨-, h2, h3⟩ := List.pairwise_append.1 ho
  have h4 := (List.pairwise_cons.1 h2).1
  constructor
  · intro hs
    rcases List.mem_append.1 hs with hs | hs
    · exact ⟨List.mem_of_mem_take hs, fun e => (by subst e; have := h3 s hs s (by simp); rw [less_irrefl] at this; cases this)⟩
    · exact ⟨List.mem_of_mem_drop hs, fun e => (by subst e; have := h4 s hs; rw [less_irrefl] at this; cases this)⟩
  · rintro ⟨hs, hne⟩
    rw [e] at hs
    rcases List.mem_append.1 hs with hs | hs
    · exact List.mem_append.2 (.inl hs)
    · rcases List.mem_cons.1 hs with hs | hs
      · exact absurd hs hne
      · exact List.mem_append.2 (.inr hs)

theorem apply_gone {l : List Rt} (h : Good l) (hl : l.length ≤ 256) {r : Rt} (hr : r ∈ l) (x : Rt) (hx : x.pre = r.pre) : applyL l [⟨x, true⟩] = (l.eraseIdx (idxL l r.pre), 0) := by
  have hc : changeL l ⟨x, true⟩ = (l.eraseIdx (idxL l r.pre), 0) := by
    unfold changeL
    simp only [hx]
    simp only [h.may r hr, there_mem h hr, if_true]
  unfold applyL foldL
  rw [(right_iff l).2 ⟨hl, h⟩, if_pos rfl, hc]
  rfl

/-- Without who fits best: who fits best then is shorter, and covers it. -/
theorem best_less {l : List Rt} (h : Good l) {k : Nat → Nat} (hk : Bytes16 k) {bits : Int} {r s : Rt} (hr : BestIs l k bits r) (hs : BestIs (l.eraseIdx (idxL l r.pre)) k bits s) : s.pre.len < r.pre.len ∧ coversB s.pre r.pre = true := by
  obtain ⟨hm, hne⟩ := (erase_mem h hr.mem s).1 hs.mem
  have hle := hr.most s hm hs.bit hs.fit
  have hb : s.pre.bits = r.pre.bits := by rw [hs.bit, hr.bit]
  have hc := covers_shorter r.hk hk hs.fit hr.fit hb hle
  refine ⟨?_, hc⟩
  rcases Int.lt_or_le s.pre.len r.pre.len with hlt | hge
  · exact hlt
  · exfalso
    have hc2 := covers_shorter s.hk hk hr.fit hs.fit hb.symm hge
    cases e : preEq s.pre r.pre with
    | false => have := covers_same s.hk r.hk hc e; rw [hc2] at this; cases this
    | true =>
      have h1 := find_mem h hm
      rw [rt_pre_ext e, find_mem h hr.mem] at h1
      exact hne (by simpa using h1.symm)
end Go.Proofs.Ytggjcjijoihilaa
namespace Go.Proofs.Ytggjcjijoihilaa
open Go.RowKit Go.Sort

theorem run_equalPre (d : Nat) (p q : Pre) (w : World) : (Op.equalIn (d + 4) 26 (.agg (pc p)) (.agg (pc q))).run Try.prog w = .ok (preEq p q) w := by
  have h0 := pc_bits p
  have h1 := pc_bits q
  have h2 := pc_len p
  have h3 := pc_len q
  have h4 := pc_key p
  have h5 := pc_key q
  have hs : Try.prog.stoodInHeld 26 = false := by kernel_rfl
  have hf : Try.prog.underlying 26 = some (.struct (Try.prog.fieldsOf 26)) := by unfold Program.fieldsOf; rw [Try.underlying26]
  rw [run_equalIn_struct w (d + 3) 26 _ _ hf hs]
  have hk := run_eqKey (d + 1) p.key q.key w
  unfold Program.fieldsOf
  rw [Try.underlying26]
  simp [Op.eqFields, part, isAgg, run_underlying Try.underlying3, run_underlying Try.underlying24, h0, h1, h2, h3, Sem.run_bind, run_equalIn_int w (d + 2) 3 .i64 .i64 _ _ Try.underlying3, h4, h5, hk]
  unfold preEq
  by_cases e1 : p.bits = q.bits
  · by_cases e2 : p.len = q.len
    · cases keyEq p.key q.key <;> simp [e1, e2]
    · simp [e1, e2]
  · simp [e1]

theorem rc_cut (r : Rt) : (rc r).extract 0 18 = pc r.pre := by
  apply Array.ext_getElem?
  intro i
  rw [Array.getElem?_extract, rc_size]
  by_cases h : i < 18
  · rw [if_pos (by omega), Nat.zero_add, rc_pre _ _ h]
  · rw [if_neg (by omega), Array.getElem?_eq_none (by rw [pc_size]; omega)]

def rtEq (r s : Rt) : Bool := preEq r.pre s.pre && ((r.hop : Int) == (s.hop : Int))

theorem run_eqRoute (r s : Rt) (w : World) : (Op.equalIn 10000 34 (.agg (rc r)) (.agg (rc s))).run Try.prog w = .ok (rtEq r s) w := by
  have h0 := rc_hop r
  have h1 := rc_hop s
  have h2 := rc_cut r
  have h3 := rc_cut s
  have hs : Try.prog.stoodInHeld 34 = false := by kernel_rfl
  have hf : Try.prog.underlying 34 = some (.struct (Try.prog.fieldsOf 34)) := by unfold Program.fieldsOf; rw [Try.underlying34]
  rw [run_equalIn_struct w 9999 34 _ _ hf hs]
  have hk := run_equalPre 9995 r.pre s.pre w
  unfold Program.fieldsOf
  rw [Try.underlying34]
  simp [Op.eqFields, part, isAgg, run_underlying Try.underlying29, run_underlying Try.underlying26, h0, h1, Sem.run_bind, run_equalIn_int w 9998 29 .u16 .u16 _ _ Try.underlying29, h2, h3, hk]
  unfold rtEq
  cases preEq r.pre s.pre
  · simp
  · by_cases h : (r.hop : Int) = (s.hop : Int) <;> simp [h]

/-- The comparisons, behind names, so that the walk meets them by a fact. -/
def rtEql (x y : Value) : Sem Value := binOp .eql 34 x y
theorem binOp_rtEql (x y : Value) : binOp .eql 34 x y = rtEql x y := rfl
theorem run_rtEql (r s : Rt) (w : World) : (rtEql (.agg (rc r)) (.agg (rc s))).run Try.prog w = .ok (.bool (rtEq r s)) w := by
  unfold rtEql
  rw [run_eql_struct, run_eqRoute]; rfl
def rtNeq (x y : Value) : Sem Value := binOp .neq 34 x y
theorem binOp_rtNeq (x y : Value) : binOp .neq 34 x y = rtNeq x y := rfl
def preNeq (x y : Value) : Sem Value := binOp .neq 26 x y
theorem binOp_preNeq (x y : Value) : binOp .neq 26 x y = preNeq x y := rfl
end Go.Proofs.Ytggjcjijoihilaa
namespace Go.Proofs.Ytggjcjijoihilaa
open Go.RowKit Go.Sort Go.Shelf
attribute [local go_sem ↓] loadVar_key loadVar_pre loadVar_route storeVar_pre storeVar_route binOp_rtNeq

theorem rtEq_refl (r : Rt) : rtEq r r = true := by unfold rtEq; rw [preEq_refl]; simp
theorem run_rtNeq (r s : Rt) (w : World) : (rtNeq (.agg (rc r)) (.agg (rc s))).run Try.prog w = .ok (.bool (!rtEq r s)) w := by
  unfold rtNeq
  rw [run_neq_struct, run_eqRoute]; rfl

theorem rd_at {w : World} {a : Option Addr} {n cap : Nat} {l : List Rt} (h : Rd w (.slice a n cap) l) {i : Nat} {r : Rt} (hr : l[i]? = some r) : ∃ a', a = some a' ∧ ∀ k, (routeLoad (a'.add (i * 19))).run Try.prog (w.drewN k) = .ok (.agg (rc r)) (w.drewN k) := by
  rcases h with ⟨h, hnil⟩ | ⟨a', cap', h, _, _, hc⟩
  · exfalso; rw [hnil] at hr; cases hr
  · simp only [Value.slice.injEq] at h
    exact ⟨a', h.1, fun k => run_routeLoad (fun j u hu => hc.route hr j u hu)⟩

set_option maxHeartbeats 1000000 in
set_option maxRecDepth 100000 in
theorem same_yes (l : List Rt) (v u : Value) (w : World) (hv : Rd w v l) (hu : Rd w u l) (h16 : l.length ≤ 65536) :
    Calls Try.prog 16 #[v, u] w fun e w' => e = .returned (.bool true) ∧ Below w.heap.size w w' := by
  obtain ⟨a, cap, ev, -⟩ := rd_len hv
  obtain ⟨b, cbp, eu, -⟩ := rd_len hu
  obtain ⟨m, hm⟩ : ∃ m, m = l.length := ⟨_, rfl⟩
  rw [← hm] at ev eu h16
  have hmI : (m : Int) ≤ 65536 := by omega
  have HM := Lib.hid hm
  have HV := Lib.hid hv
  have HU := Lib.hid hu
  subst ev
  subst eu
  clear hv hu hm
  go_enter Try.func16, Try.ntmps16
  go_wp2
  go_loopw [5] (fun i wr => ∃ n : Nat, n ≤ m ∧ i = .int .i64 n ∧ Hid (Below w.heap.size w wr)) (fun i _ => m - (intOf i).toNat)
  case atStart => exact ⟨0, Nat.zero_le _, rfl, Below.refl _ _⟩
  case round =>
    obtain ⟨n, hn, rfl, HW⟩ := hrel
    by_cases hlt : n < m
    · have hltI : (n : Int) < m := by omega
      have hn0 : (0 : Int) ≤ n := by omega
      obtain ⟨r, hr⟩ : ∃ r, l[n]? = some r := ⟨l[n]'(by rw [← HM.out]; exact hlt), List.getElem?_eq_getElem _⟩
      obtain ⟨a', rfl, la⟩ := rd_at (HV.out.later HW.out) hr
      obtain ⟨b', rfl, lb⟩ := rd_at (HU.out.later HW.out) hr
      have hq := run_rtNeq r r
      rw [rtEq_refl] at hq
      clear hr
      go_wp2
      go_quiet (fail)
      clear la lb hq
      go_wp2
      go_roundw
      case rel => exact ⟨n + 1, by omega, by go_num, ⟨HW.out.os, HW.out.tape, HW.out.output, HW.out.size, HW.out.block⟩⟩
      case measure => simp [intOf]; omega
    · obtain rfl : n = m := by omega
      go_wp2
      go_ret
      exact ⟨rfl, HW.out⟩
end Go.Proofs.Ytggjcjijoihilaa
namespace Go.Proofs.Ytggjcjijoihilaa
open Go.RowKit Go.Sort Go.Shelf

theorem fold_append (t : List Rt) (a b : List Ch) : foldL t (a ++ b) = if (foldL t a).2 = 0 then foldL (foldL t a).1 b else ([], (foldL t a).2) := by
  induction a generalizing t with
  | nil => simp [foldL]
  | cons c a ih =>
    simp only [List.cons_append, foldL]
    by_cases h : (changeL t c).2 = 0
    · simp only [h, if_true]; exact ih _
    · simp only [h, if_false]
theorem fold_good {t : List Rt} (h : Good t) (hl : t.length ≤ 256) (cs : List Ch) (h0 : (foldL t cs).2 = 0) : Good (foldL t cs).1 ∧ (foldL t cs).1.length ≤ 256 := by
  induction cs generalizing t with
  | nil => exact ⟨h, hl⟩
  | cons c cs ih =>
    simp only [foldL] at h0 ⊢
    by_cases hc : (changeL t c).2 = 0
    · simp only [hc, if_true] at h0 ⊢
      obtain ⟨g1, g2⟩ := change_good h hl c hc
      exact ih g1 g2 h0
    · simp only [hc, if_false] at h0
theorem apply_good {t : List Rt} (h : Good t) (hl : t.length ≤ 256) (cs : List Ch) : Good (applyL t cs).1 ∧ (applyL t cs).1.length ≤ 256 := by
  unfold applyL
  rw [(right_iff t).2 ⟨hl, h⟩, if_pos rfl]
  by_cases h0 : (foldL t cs).2 = 0
  · simp only [h0, if_true]; exact fold_good h hl cs h0
  · simp only [h0, if_false]; exact ⟨h, hl⟩
theorem apply_right {t : List Rt} (h : Good t) (hl : t.length ≤ 256) (cs : List Ch) : applyL t cs = if (foldL t cs).2 = 0 then ((foldL t cs).1, 0) else (t, (foldL t cs).2) := by
  unfold applyL
  rw [(right_iff t).2 ⟨hl, h⟩, if_pos rfl]

structure HalvesAre (t : List Rt) (u v w : List Rt) (e f g : Int) : Prop where
  both : e = 0 → f = 0 → g = 0 ∧ v = w
  first : e ≠ 0 → g = e ∧ w = t
theorem halves_are {t : List Rt} (h : Good t) (hl : t.length ≤ 256) (a b : List Ch) : HalvesAre t (applyL t a).1 (applyL (applyL t a).1 b).1 (applyL t (a ++ b)).1 (applyL t a).2 (applyL (applyL t a).1 b).2 (applyL t (a ++ b)).2 := by
  have e1 := apply_right h hl a
  have e3 := apply_right h hl (a ++ b)
  rw [fold_append] at e3
  by_cases h0 : (foldL t a).2 = 0
  · rw [if_pos h0] at e1 e3
    obtain ⟨g1, g2⟩ := fold_good h hl a h0
    have e2 := apply_right g1 g2 b
    rw [e1, e3, e2]
    by_cases h1 : (foldL (foldL t a).1 b).2 = 0
    · simp only [h1, if_true]; exact ⟨fun _ _ => ⟨rfl, rfl⟩, fun h => absurd rfl h⟩
    · simp only [h1, if_false]; exact ⟨fun _ h => absurd h (by simpa using h1), fun h => absurd rfl h⟩
  · rw [if_neg h0] at e1 e3
    rw [e1, e3]
    have h2 : ¬ ((([] : List Rt), (foldL t a).2).2 = 0) := h0
    rw [if_neg h2]
    exact ⟨fun h => absurd h h0, fun _ => ⟨rfl, rfl⟩⟩

theorem ins_mem (l : List Rt) (i : Nat) (r s : Rt) : s ∈ insL l i r ↔ s ∈ l ∨ s = r := by
  unfold insL
  rw [List.mem_append, List.mem_cons]
  conv => rhs; rw [← List.take_append_drop i l]
  rw [List.mem_append]
  constructor
  · rintro (h | h | h)
    · exact .inl (.inl h)
    · exact .inr h
    · exact .inl (.inr h)
  · rintro ((h | h) | h)
    · exact .inl h
    · exact .inr (.inr h)
    · exact .inr (.inl h)
theorem get_none {l : List Rt} {p : Pre} (h : (getL l p).2 = 6) : mayB p = true ∧ thereB l p (idxL l p) = false := by
  unfold getL at h
  cases hr : rightB l with
  | false => rw [hr] at h; simp at h
  | true =>
    cases hm : mayB p with
    | false => rw [hr, hm] at h; simp at h
    | true =>
      cases ht : thereB l p (idxL l p) with
      | false => exact ⟨rfl, rfl⟩
      | true => rw [hr, hm, ht] at h; simp at h
theorem put_gone {t : List Rt} (h : Good t) (hl : t.length ≤ 255) (r : Rt) (hn : (getL t r.pre).2 = 6) : applyL t [⟨r, false⟩, ⟨r, true⟩] = (t, 0) := by
  obtain ⟨hm, ht⟩ := get_none hn
  have c1 : changeL t ⟨r, false⟩ = (insL t (idxL t r.pre) r, 0) := by
    unfold changeL
    simp only [hm, ht, if_true, Bool.false_eq_true, if_false]
    rw [if_neg (by omega)]
  have hg := good_ins h hm ht
  have hr : r ∈ insL t (idxL t r.pre) r := (ins_mem _ _ _ _).2 (.inr rfl)
  have hnot : r ∉ t := fun hx => by rw [there_mem h hx] at ht; cases ht
  have c2 : changeL (insL t (idxL t r.pre) r) ⟨r, true⟩ = (t, 0) := by
    unfold changeL
    simp only [hm, there_mem hg hr, if_true]
    congr 1
    refine good_same (hg.sub (List.eraseIdx_sublist _ _)) h fun s => ?_
    rw [erase_mem hg hr, ins_mem]
    constructor
    · rintro ⟨h1 | h1, h2⟩
      · exact h1
      · exact absurd h1 h2
    · intro h1
      exact ⟨.inl h1, fun e => hnot (e ▸ h1)⟩
  unfold applyL foldL
  rw [(right_iff t).2 ⟨by omega, h⟩, if_pos rfl, c1]
  simp only [if_true]
  unfold foldL
  rw [c2]
  simp only [if_true]
  rfl

/-! ### Changes appended to a row of the call's own -/
theorem infoCh : (Try.prog.info? 71).map (fun i => (i.zero, i.size, i.bytes)) = some (some (.agg (cc ⟨zrt, false⟩)), 20, 48) := by kernel_rfl
theorem infoCh' : ∃ i, Try.prog.info? 71 = some i ∧ i.zero = some (.agg (cc ⟨zrt, false⟩)) ∧ i.size = 20 ∧ i.bytes = 48 := by
  obtain ⟨i, h0, h1, h2, h3⟩ := info_parts infoCh
  exact ⟨i, h0, h1, h2, h3⟩
theorem cl_ones (l : List Ch) : ∀ v ∈ fc l, v.oneCell' = true := fun v hv => by
  obtain ⟨r, _, h⟩ := List.mem_flatMap.1 hv
  exact cl_one r v h

theorem fcl_length (l : List Ch) : (fc l).length = l.length * 20 := by
  induction l with
  | nil => rfl
  | cons r l ih => rw [fc_cons, List.length_append, cl_length, ih, List.length_cons]; omega

theorem append_chs {w : World} {ops : Array Oper} {rest : List Oper} {o : Oper} {a : Act} {Q : Exit → Act → World → Prop} (hgd : o.guard = none) (s x : Operand)
    (ho : o.op = .call { callee := .builtin .append, args := #[s, x], argTypes := #[27, 27] }) (base : Nat) (v : Value) (n : Nat) (xs : List Value) (hs : a.eval s = v) (hown : w.ownsRow base 71 20 v n xs)
    (u : Value) (cs : List Ch) (hx : a.eval x = u) (hC : RdC w u cs) (hn : n + cs.length ≤ 65536) (hbase : base ≤ w.heap.size)
    (h : ∀ v' w', w'.ownsRow base 71 20 v' (n + cs.length) (xs ++ fc cs) → w.grownBy w' v.ownBlock → wpList Try.prog ops Q rest (a.put o.dst v') w') : wpList Try.prog ops Q (o :: rest) a w := by
  obtain ⟨i, h0, h1, h2, h3⟩ := infoCh'
  rcases hC with ⟨rfl, rfl⟩ | ⟨ad, cap, rfl, h4, h5, hc⟩
  · exact wpList_append_own_none hgd s x 27 ho base 71 i 20 Try.underlying27 h0 v n xs hs hown hx (h v w (by simpa [fc] using hown) (grown_refl w _))
  · exact wpList_append_own w hgd s x 27 ho base 71 i (.agg (cc ⟨zrt, false⟩)) 20 48 Try.underlying27 h0 h1 h2 h3 (cc_size _) (by decide) v n xs hs hown ad cs.length cap (fc cs) hx (fcl_length cs) hc (cl_ones cs) (by simp only [maxLen]; omega) (by omega) hbase (fun v' w' a b _ => h v' w' a b)

theorem rdC_own {w : World} {base : Nat} {v : Value} {l : List Ch} (h : w.ownsRow base 71 20 v l.length (fc l)) : RdC w v l := by
  obtain ⟨hx, h⟩ := id h
  rcases h with ⟨h1, h2⟩ | ⟨g, cap, cur, h1, h2, h3, h4, h5, h6, h7⟩
  · exact .inl ⟨h1, List.length_eq_zero_iff.1 h2⟩
  · exact .inr ⟨⟨g, 0, none⟩, cap, h1, h4, h5, fun j u hu => World.ownsRow.cells h (g := g) (by rw [h1]; rfl) j u hu⟩
theorem fc_append (a b : List Ch) : fc (a ++ b) = fc a ++ fc b := by simp [fc]
theorem run_chs0 (w : World) : (chsBuild 0 #[]).run Try.prog w = .ok (.slice (some ⟨w.heap.size, 0, none⟩) 0 0) (w.alloc (.cells #[] 71)) := by
  kernel_rfl
theorem ownC_made0 (w : World) : (w.alloc (.cells #[] 71)).ownsRow w.heap.size 71 20 (.slice (some ⟨w.heap.size, 0, none⟩) 0 0) 0 [] := by
  have := World.ownsRow_made (e := 71) (size := 20) w #[] 0 (Nat.le_refl _) (Nat.zero_le _) rfl
  exact this
end Go.Proofs.Ytggjcjijoihilaa
