/- Routes in another order, sorted again; bytes that come in. -/
import Derived.Test.YtpjojbiiceedjaaDoorTabChgP
import Derived.Test.YtpjojbiiceedjaaDoorTabOpen
import Derived.Test.YtpjojbiiceedjaaDoorRouteEq
namespace Go.Proofs.YtpjojbiiceedjaaDoor
open Go.ChangeShapes Go.WideShapes Go.ChangeAt Go.RowKit Go.Deep Go.Sort

theorem find_iff {l : List Rt} (h : Good l) (p : Pre) (s : Rt) : findP l p = some s ↔ s ∈ l ∧ preEq s.pre p = true := by
  refine ⟨mem_find, fun ⟨h1, h2⟩ => ?_⟩
  cases e : findP l p with
  | none =>
    unfold findP at e
    exact absurd h2 (List.find?_eq_none.1 e s h1)
  | some x =>
    obtain ⟨h3, h4⟩ := mem_find e
    rw [good_one h h3 h1 (rt_pre_ext (preEq_trans h4 (preEq_symm h2)))]
theorem sort_mem {t out u : List Rt} (hg : Good t) (hm : ∀ r, r ∈ out ↔ r ∈ t) (hs : SortSpec out u) : u = t := by
  refine good_ext hs.good hg fun p => ?_
  rw [hs.find]
  have e : mayL out = out := by unfold mayL; rw [List.filter_eq_self]; exact fun r hr => hg.may r ((hm r).1 hr)
  rw [e]
  cases h : findP out.reverse p with
  | none =>
    symm
    unfold findP at h ⊢
    rw [List.find?_eq_none] at h ⊢
    exact fun r hr => h r (List.mem_reverse.2 ((hm r).2 hr))
  | some s =>
    obtain ⟨h1, h2⟩ := mem_find h
    exact ((find_iff hg p s).2 ⟨(hm s).1 (List.mem_reverse.1 h1), h2⟩).symm
theorem swap_at {L : List Rt} {a b : Nat} {x y : Rt} (ha : L[a]? = some x) (hb : L[b]? = some y) (i : Nat) : ((L.set a y).set b x)[i]? = L[if i = b then a else if i = a then b else i]? := by
  have la := (List.getElem?_eq_some_iff.1 ha).1
  have lb := (List.getElem?_eq_some_iff.1 hb).1
  rw [List.getElem?_set, List.getElem?_set, List.length_set]
  by_cases h1 : b = i
  · subst h1
    rw [if_pos rfl, if_pos lb, if_pos rfl, ha]
  · have h1' : ¬ i = b := fun e => h1 e.symm
    rw [if_neg h1, if_neg h1']
    by_cases h2 : a = i
    · subst h2
      rw [if_pos rfl, if_pos la, if_pos rfl, hb]
    · have h2' : ¬ i = a := fun e => h2 e.symm
      rw [if_neg h2, if_neg h2']
theorem swap_mem {L : List Rt} {a b : Nat} {x y : Rt} (ha : L[a]? = some x) (hb : L[b]? = some y) (r : Rt) : r ∈ (L.set a y).set b x ↔ r ∈ L := by
  constructor
  · intro h
    obtain ⟨i, hi⟩ := List.mem_iff_getElem?.1 h
    rw [swap_at ha hb] at hi
    exact List.mem_of_getElem? hi
  · intro h
    obtain ⟨i, hi⟩ := List.mem_iff_getElem?.1 h
    refine List.mem_of_getElem? (i := if i = b then a else if i = a then b else i) ?_
    rw [swap_at ha hb]
    have e : (if (if i = b then a else if i = a then b else i) = b then a else if (if i = b then a else if i = a then b else i) = a then b else (if i = b then a else if i = a then b else i)) = i := by
      by_cases h1 : i = b
      · rw [if_pos h1]
        by_cases h2 : a = b
        · rw [if_pos h2]; omega
        · rw [if_neg h2, if_pos rfl]; omega
      · rw [if_neg h1]
        by_cases h2 : i = a
        · rw [if_pos h2, if_pos rfl]; omega
        · rw [if_neg h2, if_neg h1, if_neg h2]
    rw [e]; exact hi

/-- Bytes, as a slice of them reads in a world. -/
def RdU (w : World) (v : Value) (l : List Nat) : Prop :=
  (v = .slice none 0 0 ∧ l = []) ∨ ∃ a cap, v = .slice (some a) l.length cap ∧ l.length ≤ cap ∧ cap ≤ maxLen ∧ ∀ i x, l[i]? = some x → x < 256 ∧ w.cell? (a.add i) = some (.int .u8 (x : Nat))
theorem RdU.later {w w' : World} {v : Value} {l : List Nat} (h : RdU w v l) (hb : Below w.heap.size w w') : RdU w' v l := by
  rcases h with h | ⟨a, cap, h1, h2, h3, h4⟩
  · exact .inl h
  · refine .inr ⟨a, cap, h1, h2, h3, fun i x hx => ⟨(h4 i x hx).1, ?_⟩⟩
    have hc := (h4 i x hx).2
    rw [hb.cell (block_lt_of_cell hc)]; exact hc
theorem rdU_len {w : World} {v : Value} {l : List Nat} (h : RdU w v l) : ∃ a cap, v = .slice a l.length cap ∧ l.length ≤ maxLen := by
  rcases h with ⟨rfl, rfl⟩ | ⟨a, cap, rfl, h1, h2, _⟩
  · exact ⟨none, 0, rfl, by simp [maxLen]⟩
  · exact ⟨some a, cap, rfl, by omega⟩

section
variable {H : Type} {enc : TypeId × Value → H} {w : World} {base : Nat} {spare : Nat → Bool} {held : Bool}
set_option maxRecDepth 100000 in
theorem open_u8s {v : Value} {d : DataW H} {p : List MemPlace} (hv : Value.okWide Tryd.prog w .any base 23 v) (h : DataW.Trod enc Tryd.prog w 0 spare held 23 v d p) : ∃ l : List Nat, RdU w v l := by
  obtain ⟨a0, len0, cap0, rfl⟩ := okWide_slice Tryd.underlying23 hv
  have hc : Tryd.prog.cellsOf 5 = 1 := by kernel_rfl
  obtain ⟨fuel, hf⟩ := h
  rcases open_slice Tryd.underlying23 hf with ⟨e, _⟩ | ⟨a, len, cap, m, n, D, Pl, e, hb, hl, hm, hmm, _, hx⟩
  · exact ⟨[], .inl ⟨by simpa [Value.cells] using e, rfl⟩⟩
  · rw [hc] at hx
    have hlm : len ≤ m := by rw [hmm]; split <;> omega
    obtain ⟨R, hR⟩ := choose_lt (α := Nat) (n := len) (p := fun i x => x < 256 ∧ w.cell? (a.add i) = some (.int .u8 (x : Nat))) (fun i hi => by
      obtain ⟨cs', h1, h2⟩ := hx i (by omega)
      obtain ⟨h3, h4⟩ := cells_each h1
      obtain ⟨x, e1, _, e2⟩ := DataW.trod_int Tryd.underlying5 h2
      have e4 := bounds_u8 e2
      subst e1
      refine ⟨x.toNat, by omega, ?_⟩
      have := h4 0 _ rfl
      rw [Nat.mul_one, add_add, Nat.add_zero] at this
      rw [this, Int.toNat_of_nonneg e4.1])
    have e' : (Value.slice a0 len0 cap0) = .slice (some a) len cap := by simpa [Value.cells] using e
    refine ⟨(List.range len).map R, .inr ⟨a, cap, by simpa using e', by simpa using hl, hm, fun i x hi => ?_⟩⟩
    rw [List.getElem?_map] at hi
    obtain ⟨i', h1, h2⟩ := Option.map_eq_some_iff.1 hi
    obtain ⟨hi2, h3⟩ := List.getElem?_eq_some_iff.1 h1
    simp at h3 hi2
    subst h3; subst h2
    exact hR i hi2
end

/-- A route told and read again is itself. -/
theorem rc_is (r : Rt) : Rr.rc r.pre r.hop = rc r := by
  unfold Rr.rc rc rl
  rw [← Array.toList_inj]
  simp
theorem line_same (r : Rt) (hm : mayB r.pre = true) :
    (∀ w, Rr.Env w → Calls Tryd.prog 6 #[.agg (rc r)] w fun e w' => e = .returned (.tuple #[.string (Rr.bs (Rr.lineT r.pre r.hop)), .int .i64 0]) ∧ Below w.heap.size w w') ∧
    ∀ w, Rr.Env w → Calls Tryd.prog 7 #[.string (Rr.bs (Rr.lineT r.pre r.hop))] w fun e w' => e = .returned (.tuple #[.agg (rc r), .int .i64 0]) ∧ Below w.heap.size w w' := by
  refine ⟨fun w h => ?_, fun w h => ?_⟩
  · have := Rr.tellLine_any r.pre r.hop w r.hk r.hh h
    unfold Rr.lineR at this
    rw [if_pos hm, rc_is] at this
    exact this
  · obtain ⟨p', a1, a2, a3, a4⟩ := Rr.line_back r.hk r.hh hm
    have hl := Rr.lineT_le r.hk r.hh hm
    have := Rr.readLine_any (Rr.lineT r.pre r.hop) w h (by omega)
    unfold Rr.readLineV at this
    rw [if_neg (by omega), a1] at this
    unfold Rr.lineV at this
    simp only [Rr.rc_same (p := p') (q := r.pre) r.hop a2 a3 a4, rc_is] at this
    exact this
end Go.Proofs.YtpjojbiiceedjaaDoor
