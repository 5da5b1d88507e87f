/- Routes, changes, and slices of them, that come in. -/
import Derived.Test.YtcpdpcfejpbdpaaTabApply
import Derived.Test.YtcpdpcfejpbdpaaKeyOpen
import Derived.Deep.Slices
namespace Go.Proofs.Ytcpdpcfejpbdpaa
open Go.ChangeShapes Go.WideShapes Go.ChangeAt Go.RowKit Go.Deep

section
variable {H : Type} {enc : TypeId × Value → H} {w : World} {base : Nat} {spare : Nat → Bool} {held : Bool}

/-- A key's numbers, and nothing behind them. -/
def cutK (k : Nat → Nat) : Nat → Nat := fun i => if i < 16 then k i else 0
theorem cutK_bytes {k : Nat → Nat} (h : Bytes16 k) : Bytes16 (cutK k) := fun i => by unfold cutK; split; exact h i; exact Nat.zero_lt_succ _
theorem cutK_kl (k : Nat → Nat) : kl (cutK k) = kl k := by
  apply List.ext_getElem?
  intro i
  by_cases h : i < 16
  · rw [kl_at _ i h, kl_at _ i h]; simp [cutK, h]
  · rw [List.getElem?_eq_none (by simp [kl]; omega), List.getElem?_eq_none (by simp [kl]; omega)]
theorem cutK_pc (b l : Int) (k : Nat → Nat) : pc ⟨b, l, cutK k⟩ = pc ⟨b, l, k⟩ := by unfold pc; rw [cutK_kl]
theorem cutK_out (k : Nat → Nat) (i : Nat) (h : 16 ≤ i) : cutK k i = 0 := by unfold cutK; rw [if_neg (by omega)]

set_option maxRecDepth 100000 in
theorem pre_of_trod {fuel : Nat} {cs : List Value} {x : DataW H × List MemPlace} (hl : cs.length = 18) (h : DataW.trod enc Try.prog w base spare held fuel 26 cs = some x) : ∃ q, Bytes16 q.key ∧ (∀ i, 16 ≤ i → q.key i = 0) ∧ I64 q.bits ∧ I64 q.len ∧ cs = (pc q).toList := by
  have hc3 : Try.prog.cellsOf 3 = 1 := by kernel_rfl
  have hck : Try.prog.cellsOf 24 = 16 := by kernel_rfl
  obtain ⟨y0, y1, y2, n, _, _, h0, h1, h2⟩ := trod_struct3 Try.underlying26 h
  simp only at h0 h1 h2
  rw [hc3] at h0 h1
  rw [hck] at h2
  obtain ⟨b, e0, _, w0⟩ := DataW.trod_int Try.underlying3 h0
  obtain ⟨l, e1, _, w1⟩ := DataW.trod_int Try.underlying3 h1
  obtain ⟨k, hk, e2⟩ := key_of_trod (by simp; omega) h2
  refine ⟨⟨b, l, cutK k⟩, cutK_bytes hk, cutK_out k, bounds_i64 w0, bounds_i64 w1, ?_⟩
  rw [cutK_pc]
  unfold pc
  match cs, hl with
  | c0 :: c1 :: r, hs =>
    simp at e0 e1 e2
    have hr : r.length = 16 := by simpa using hs
    rw [List.take_of_length_le (by omega)] at e2
    rw [e0, e1, e2]

set_option maxRecDepth 100000 in
theorem route_of_trod {fuel : Nat} {cs : List Value} {x : DataW H × List MemPlace} (hl : cs.length = 19) (h : DataW.trod enc Try.prog w base spare held fuel 34 cs = some x) : ∃ r : Rt, I64 r.pre.bits ∧ I64 r.pre.len ∧ cs = rl r := by
  have hcp : Try.prog.cellsOf 26 = 18 := by kernel_rfl
  have hch : Try.prog.cellsOf 29 = 1 := by kernel_rfl
  obtain ⟨y0, y1, n, _, _, h0, h1⟩ := trod_struct2 Try.underlying34 h
  simp only at h0 h1
  rw [hcp] at h0
  rw [hch] at h1
  obtain ⟨q, g1, g0, g2, g3, g4⟩ := pre_of_trod (by simp; omega) h0
  obtain ⟨m, e1, _, w1⟩ := DataW.trod_int Try.underlying29 h1
  have hb := bounds_u16 w1
  refine ⟨⟨q, m.toNat, g1, g0, by omega⟩, g2, g3, ?_⟩
  unfold rl
  rw [← g4]
  simp only [List.drop_zero]
  have e2 : [Value.int .u16 ((m.toNat : Nat) : Int)] = cs.drop 18 := by
    rw [Int.toNat_of_nonneg hb.1, ← e1, List.take_of_length_le (by simp; omega)]
  show cs = List.take 18 cs ++ [Value.int .u16 ((m.toNat : Nat) : Int)]
  rw [e2, List.take_append_drop]

set_option maxRecDepth 100000 in
theorem change_of_trod {fuel : Nat} {cs : List Value} {x : DataW H × List MemPlace} (hl : cs.length = 20) (h : DataW.trod enc Try.prog w base spare held fuel 52 cs = some x) : ∃ c : Ch, I64 c.rt.pre.bits ∧ I64 c.rt.pre.len ∧ cs = cl c := by
  have hcp : Try.prog.cellsOf 34 = 19 := by kernel_rfl
  have hch : Try.prog.cellsOf 4 = 1 := by kernel_rfl
  obtain ⟨y0, y1, n, _, _, h0, h1⟩ := trod_struct2 Try.underlying52 h
  simp only at h0 h1
  rw [hcp] at h0
  rw [hch] at h1
  obtain ⟨r, g2, g3, g4⟩ := route_of_trod (by simp; omega) h0
  obtain ⟨b, e1, _⟩ := DataW.trod_bool Try.underlying4 h1
  refine ⟨⟨r, b⟩, g2, g3, ?_⟩
  unfold cl
  show cs = rl r ++ [.bool b]
  rw [← g4, ← e1, List.take_of_length_le (l := cs.drop 19) (by simp; omega)]
  simp only [List.drop_zero]
  rw [List.take_append_drop]

/-- A route that comes in. -/
theorem open_rt {v : Value} {d : DataW H} {p : List MemPlace} (hv : Value.okWide Try.prog w .any base 34 v) (h : DataW.Trod enc Try.prog w 0 spare held 34 v d p) : ∃ r : Rt, I64 r.pre.bits ∧ I64 r.pre.len ∧ v = .agg (rc r) := by
  obtain ⟨cs, rfl, hsz⟩ := okWide_struct Try.underlying34 hv
  have hc : Try.prog.cellsOf 34 = 19 := by kernel_rfl
  rw [hc] at hsz
  obtain ⟨fuel, hf⟩ := h
  obtain ⟨r, h1, h2, h3⟩ := route_of_trod (cs := cs.toList) (by simpa using hsz) hf
  exact ⟨r, h1, h2, by rw [rc, ← h3]⟩

theorem open_pre0 {v : Value} {d : DataW H} {p : List MemPlace} (hv : Value.okWide Try.prog w .any base 26 v) (h : DataW.Trod enc Try.prog w 0 spare held 26 v d p) : ∃ q, Bytes16 q.key ∧ (∀ i, 16 ≤ i → q.key i = 0) ∧ I64 q.bits ∧ I64 q.len ∧ v = .agg (pc q) := by
  obtain ⟨cs, rfl, hsz⟩ := okWide_struct Try.underlying26 hv
  have hc : Try.prog.cellsOf 26 = 18 := by kernel_rfl
  rw [hc] at hsz
  obtain ⟨fuel, hf⟩ := h
  obtain ⟨q, h1, h0, h2, h3, h4⟩ := pre_of_trod (cs := cs.toList) (by simpa using hsz) hf
  exact ⟨q, h1, h0, h2, h3, by rw [← Array.toArray_toList (xs := pc q), ← h4]⟩

/-- Cells read in one piece are read each. -/
theorem cells_each {b : Nat} {a : Addr} {n : Nat} {cs : List Value} (h : w.cells? b a n = some cs) : cs.length = n ∧ CellsAt w a cs := by
  obtain ⟨h0, h1, h2⟩ := World.cells?_some h
  exact ⟨h1, fun j u hu => by rw [h2 j (by rw [← h1]; exact (List.getElem?_eq_some_iff.1 hu).1)]; exact hu⟩

theorem cells_rts {a : Addr} {l : List Rt} (h : ∀ i r, l[i]? = some r → CellsAt w (a.add (i * 19)) (rl r)) : CellsAt w a (fl l) := fun j u hu => by
  have hj := (List.getElem?_eq_some_iff.1 hu).1
  rw [fl_length] at hj
  have hi : j / 19 < l.length := by omega
  have hr := List.getElem?_eq_getElem hi
  have e : j = j / 19 * 19 + j % 19 := by omega
  have h1 := h _ _ hr (j % 19) u (by rw [← fl_at hr (by omega), ← e]; exact hu)
  rw [add_add, ← e] at h1
  exact h1

theorem fc_length (l : List Ch) : (fc l).length = l.length * 20 := by
  induction l with
  | nil => rfl
  | cons r l ih => rw [fc_cons, List.length_append, cl_length, ih, List.length_cons]; omega
theorem cells_chs {a : Addr} {l : List Ch} (h : ∀ i r, l[i]? = some r → CellsAt w (a.add (i * 20)) (cl r)) : CellsAt w a (fc l) := fun j u hu => by
  have hj := (List.getElem?_eq_some_iff.1 hu).1
  rw [fc_length] at hj
  have hi : j / 20 < l.length := by omega
  have hr := List.getElem?_eq_getElem hi
  have e : j = j / 20 * 20 + j % 20 := by omega
  have h1 := h _ _ hr (j % 20) u (by rw [← fc_at hr (by omega), ← e]; exact hu)
  rw [add_add, ← e] at h1
  exact h1

def WideRt (r : Rt) : Prop := I64 r.pre.bits ∧ I64 r.pre.len

/-- Routes that come in as a slice. -/
theorem open_rts {v : Value} {d : DataW H} {p : List MemPlace} (hv : Value.okWide Try.prog w .any base 22 v) (h : DataW.Trod enc Try.prog w 0 spare held 22 v d p) : ∃ l : List Rt, (∀ r ∈ l, WideRt r) ∧ Rd w v l := by
  obtain ⟨a0, len0, cap0, rfl⟩ := okWide_slice Try.underlying22 hv
  have hc : Try.prog.cellsOf 34 = 19 := by kernel_rfl
  obtain ⟨fuel, hf⟩ := h
  rcases open_slice Try.underlying22 hf with ⟨e, _⟩ | ⟨a, len, cap, m, n, D, Pl, e, hb, hl, hm, hmm, _, hx⟩
  · exact ⟨[], by simp, .inl ⟨by simpa [Value.cells] using e, rfl⟩⟩
  · rw [hc] at hx
    have hlm : len ≤ m := by rw [hmm]; split <;> omega
    obtain ⟨R, hR⟩ := choose_lt (α := Rt) (n := len) (p := fun i r => WideRt r ∧ CellsAt w (a.add (i * 19)) (rl r)) (fun i hi => by
      obtain ⟨cs', h1, h2⟩ := hx i (by omega)
      obtain ⟨h3, h4⟩ := cells_each h1
      obtain ⟨r, g1, g2, rfl⟩ := route_of_trod h3 h2
      exact ⟨r, ⟨g1, g2⟩, h4⟩)
    have e' : (Value.slice a0 len0 cap0) = .slice (some a) len cap := by simpa [Value.cells] using e
    refine ⟨(List.range len).map R, fun r hr => ?_, .inr ⟨a, cap, by simpa using e', by simpa using hl, hm, cells_rts fun i r hr => ?_⟩⟩
    · obtain ⟨i, hi, rfl⟩ := List.mem_map.1 hr
      exact (hR i (List.mem_range.1 hi)).1
    · rw [List.getElem?_map] at hr
      obtain ⟨i', h1, h2⟩ := Option.map_eq_some_iff.1 hr
      obtain ⟨hi, h3⟩ := List.getElem?_eq_some_iff.1 h1
      simp at h3 hi
      subst h3; subst h2
      exact (hR i hi).2

instance : Inhabited Ch := ⟨⟨zrt, false⟩⟩
/-- Changes that come in as a slice. -/
theorem open_chs {v : Value} {d : DataW H} {p : List MemPlace} (hv : Value.okWide Try.prog w .any base 27 v) (h : DataW.Trod enc Try.prog w 0 spare held 27 v d p) : ∃ l : List Ch, (∀ c ∈ l, WideRt c.rt) ∧ RdC w v l := by
  obtain ⟨a0, len0, cap0, rfl⟩ := okWide_slice Try.underlying27 hv
  have hc : Try.prog.cellsOf 52 = 20 := by kernel_rfl
  obtain ⟨fuel, hf⟩ := h
  rcases open_slice Try.underlying27 hf with ⟨e, _⟩ | ⟨a, len, cap, m, n, D, Pl, e, hb, hl, hm, hmm, _, hx⟩
  · exact ⟨[], by simp, .inl ⟨by simpa [Value.cells] using e, rfl⟩⟩
  · rw [hc] at hx
    have hlm : len ≤ m := by rw [hmm]; split <;> omega
    obtain ⟨R, hR⟩ := choose_lt (α := Ch) (n := len) (p := fun i r => WideRt r.rt ∧ CellsAt w (a.add (i * 20)) (cl r)) (fun i hi => by
      obtain ⟨cs', h1, h2⟩ := hx i (by omega)
      obtain ⟨h3, h4⟩ := cells_each h1
      obtain ⟨r, g1, g2, rfl⟩ := change_of_trod h3 h2
      exact ⟨r, ⟨g1, g2⟩, h4⟩)
    have e' : (Value.slice a0 len0 cap0) = .slice (some a) len cap := by simpa [Value.cells] using e
    refine ⟨(List.range len).map R, fun r hr => ?_, .inr ⟨a, cap, by simpa using e', by simpa using hl, hm, cells_chs fun i r hr => ?_⟩⟩
    · obtain ⟨i, hi, rfl⟩ := List.mem_map.1 hr
      exact (hR i (List.mem_range.1 hi)).1
    · rw [List.getElem?_map] at hr
      obtain ⟨i', h1, h2⟩ := Option.map_eq_some_iff.1 hr
      obtain ⟨hi, h3⟩ := List.getElem?_eq_some_iff.1 h1
      simp at h3 hi
      subst h3; subst h2
      exact (hR i hi).2

/-- A key that comes in; nothing lies behind it. -/
theorem open_key0 {v : Value} {d : DataW H} {p : List MemPlace} (hv : Value.okWide Try.prog w .any base 24 v) (h : DataW.Trod enc Try.prog w 0 spare held 24 v d p) : ∃ k, Bytes16 k ∧ (∀ i, 16 ≤ i → k i = 0) ∧ v = .agg (kc k) := by
  obtain ⟨k, h1, h2⟩ := open_key hv h
  exact ⟨cutK k, cutK_bytes h1, cutK_out k, by rw [h2, kc, kc, cutK_kl]⟩
end
end Go.Proofs.Ytcpdpcfejpbdpaa
