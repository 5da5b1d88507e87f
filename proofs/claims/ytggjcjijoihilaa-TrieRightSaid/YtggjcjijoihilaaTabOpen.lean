/- Routes, changes, and slices of them, that come in. The fixed answers with which each statement of layer 3 begins: all of them hold. -/
import Derived.Test.YtggjcjijoihilaaTabChange
import Derived.Test.YtggjcjijoihilaaKeyOpen
import Derived.Deep.Slices
import Derived.Test.YtggjcjijoihilaaTabBest
import Derived.Test.YtggjcjijoihilaaTabSort
namespace Go.Proofs.Ytggjcjijoihilaa
open Go.ChangeShapes Go.WideShapes Go.ChangeAt Go.RowKit Go.Deep

section
variable {H : Type} {enc : TypeId × Value → H} {w : World} {base : Nat} {spare : Nat → Bool} {held : Bool}

/-- A key's numbers, and nothing behind them. -/
def cutK (k : Nat → Nat) : Nat → Nat := fun i => if i < 16 then k i else 0
set_option maxRecDepth 100000 in
theorem cutK_bytes {k : Nat → Nat} (h : Bytes16 k) : Bytes16 (cutK k) := fun i => by unfold cutK; split; exact h i; exact Nat.zero_lt_succ _
set_option maxRecDepth 100000 in
theorem cutK_kl (k : Nat → Nat) : kl (cutK k) = kl k := by
  apply List.ext_getElem?
  intro i
  by_cases h : i < 16
  · rw [kl_at _ i h, kl_at _ i h]; simp [cutK, h]
  · rw [List.getElem?_eq_none (by simp [kl]; omega), List.getElem?_eq_none (by simp [kl]; omega)]
set_option maxRecDepth 100000 in
theorem cutK_pc (b l : Int) (k : Nat → Nat) : pc ⟨b, l, cutK k⟩ = pc ⟨b, l, k⟩ := by unfold pc; rw [cutK_kl]
set_option maxRecDepth 100000 in
theorem cutK_out (k : Nat → Nat) (i : Nat) (h : 16 ≤ i) : cutK k i = 0 := by unfold cutK; rw [if_neg (by omega)]

set_option maxRecDepth 100000 in
theorem pre_of_trod {fuel : Nat} {cs : List Value} {x : DataW H × List MemPlace} (hl : cs.length = 18) (h : DataW.trod enc Try.prog w base spare held fuel 26 cs = some x) : ∃ q, Bytes16 q.key ∧ (∀ i, 16 ≤ i → q.key i = 0) ∧ I64 q.bits ∧ I64 q.len ∧ cs = (pc q).toList := by
  have hc3 : Try.prog.cellsOf 3 = 1 := by kernel_rfl
  have hck : Try.prog.cellsOf 24 = 16 := by kernel_rfl
  obtain ⟨y0, y1, y2, n, _, _, h0, h1, h2⟩ := trod_struct3 Try.underlying26 h
  simp only at h0 h1 h2
  rw [hc3] at h0 h1
  rw [hck] at h2
  obtain ⟨b, e0, _, w0⟩ := DataW.trod_int Try.underlying3 h0
  obtain ⟨l, e1, _, w1⟩ := DataW.trod_int Try.underlying3 h1
  obtain ⟨k, hk, e2⟩ := key_of_trod (by simp; omega) h2
  refine ⟨⟨b, l, cutK k⟩, cutK_bytes hk, cutK_out k, bounds_i64 w0, bounds_i64 w1, ?_⟩
  rw [cutK_pc]
  unfold pc
  match cs, hl with
  | c0 :: c1 :: r, hs =>
    simp at e0 e1 e2
    have hr : r.length = 16 := by simpa using hs
    rw [List.take_of_length_le (by omega)] at e2
    rw [e0, e1, e2]

set_option maxRecDepth 100000 in
theorem route_of_trod {fuel : Nat} {cs : List Value} {x : DataW H × List MemPlace} (hl : cs.length = 19) (h : DataW.trod enc Try.prog w base spare held fuel 34 cs = some x) : ∃ r : Rt, I64 r.pre.bits ∧ I64 r.pre.len ∧ cs = rl r := by
  have hcp : Try.prog.cellsOf 26 = 18 := by kernel_rfl
  have hch : Try.prog.cellsOf 29 = 1 := by kernel_rfl
  obtain ⟨y0, y1, n, _, _, h0, h1⟩ := trod_struct2 Try.underlying34 h
  simp only at h0 h1
  rw [hcp] at h0
  rw [hch] at h1
  obtain ⟨q, g1, g0, g2, g3, g4⟩ := pre_of_trod (by simp; omega) h0
  obtain ⟨m, e1, _, w1⟩ := DataW.trod_int Try.underlying29 h1
  have hb := bounds_u16 w1
  refine ⟨⟨q, m.toNat, g1, g0, by omega⟩, g2, g3, ?_⟩
  unfold rl
  rw [← g4]
  simp only [List.drop_zero]
  have e2 : [Value.int .u16 ((m.toNat : Nat) : Int)] = cs.drop 18 := by
    rw [Int.toNat_of_nonneg hb.1, ← e1, List.take_of_length_le (by simp; omega)]
  show cs = List.take 18 cs ++ [Value.int .u16 ((m.toNat : Nat) : Int)]
  rw [e2, List.take_append_drop]

set_option maxRecDepth 100000 in
theorem change_of_trod {fuel : Nat} {cs : List Value} {x : DataW H × List MemPlace} (hl : cs.length = 20) (h : DataW.trod enc Try.prog w base spare held fuel 71 cs = some x) : ∃ c : Ch, I64 c.rt.pre.bits ∧ I64 c.rt.pre.len ∧ cs = cl c := by
  have hcp : Try.prog.cellsOf 34 = 19 := by kernel_rfl
  have hch : Try.prog.cellsOf 4 = 1 := by kernel_rfl
  obtain ⟨y0, y1, n, _, _, h0, h1⟩ := trod_struct2 Try.underlying71 h
  simp only at h0 h1
  rw [hcp] at h0
  rw [hch] at h1
  obtain ⟨r, g2, g3, g4⟩ := route_of_trod (by simp; omega) h0
  obtain ⟨b, e1, _⟩ := DataW.trod_bool Try.underlying4 h1
  refine ⟨⟨r, b⟩, g2, g3, ?_⟩
  unfold cl
  show cs = rl r ++ [.bool b]
  rw [← g4, ← e1, List.take_of_length_le (l := cs.drop 19) (by simp; omega)]
  simp only [List.drop_zero]
  rw [List.take_append_drop]

set_option maxRecDepth 100000 in
/-- A route that comes in. -/
theorem open_rt {v : Value} {d : DataW H} {p : List MemPlace} (hv : Value.okWide Try.prog w .any base 34 v) (h : DataW.Trod enc Try.prog w 0 spare held 34 v d p) : ∃ r : Rt, I64 r.pre.bits ∧ I64 r.pre.len ∧ v = .agg (rc r) := by
  obtain ⟨cs, rfl, hsz⟩ := okWide_struct Try.underlying34 hv
  have hc : Try.prog.cellsOf 34 = 19 := by kernel_rfl
  rw [hc] at hsz
  obtain ⟨fuel, hf⟩ := h
  obtain ⟨r, h1, h2, h3⟩ := route_of_trod (cs := cs.toList) (by simpa using hsz) hf
  exact ⟨r, h1, h2, by rw [rc, ← h3]⟩

set_option maxRecDepth 100000 in
theorem open_pre0 {v : Value} {d : DataW H} {p : List MemPlace} (hv : Value.okWide Try.prog w .any base 26 v) (h : DataW.Trod enc Try.prog w 0 spare held 26 v d p) : ∃ q, Bytes16 q.key ∧ (∀ i, 16 ≤ i → q.key i = 0) ∧ I64 q.bits ∧ I64 q.len ∧ v = .agg (pc q) := by
  obtain ⟨cs, rfl, hsz⟩ := okWide_struct Try.underlying26 hv
  have hc : Try.prog.cellsOf 26 = 18 := by kernel_rfl
  rw [hc] at hsz
  obtain ⟨fuel, hf⟩ := h
  obtain ⟨q, h1, h0, h2, h3, h4⟩ := pre_of_trod (cs := cs.toList) (by simpa using hsz) hf
  exact ⟨q, h1, h0, h2, h3, by rw [← Array.toArray_toList (xs := pc q), ← h4]⟩

set_option maxRecDepth 100000 in
/-- Cells read in one piece are read each. -/
theorem cells_each {b : Nat} {a : Addr} {n : Nat} {cs : List Value} (h : w.cells? b a n = some cs) : cs.length = n ∧ CellsAt w a cs := by
  obtain ⟨h0, h1, h2⟩ := World.cells?_some h
  exact ⟨h1, fun j u hu => by rw [h2 j (by rw [← h1]; exact (List.getElem?_eq_some_iff.1 hu).1)]; exact hu⟩

set_option maxRecDepth 100000 in
theorem cells_rts {a : Addr} {l : List Rt} (h : ∀ i r, l[i]? = some r → CellsAt w (a.add (i * 19)) (rl r)) : CellsAt w a (fl l) := fun j u hu => by
  have hj := (List.getElem?_eq_some_iff.1 hu).1
  rw [fl_length] at hj
  have hi : j / 19 < l.length := by omega
  have hr := List.getElem?_eq_getElem hi
  have e : j = j / 19 * 19 + j % 19 := by omega
  have h1 := h _ _ hr (j % 19) u (by rw [← fl_at hr (by omega), ← e]; exact hu)
  rw [add_add, ← e] at h1
  exact h1

set_option maxRecDepth 100000 in
theorem fc_length (l : List Ch) : (fc l).length = l.length * 20 := by
  induction l with
  | nil => rfl
  | cons r l ih => rw [fc_cons, List.length_append, cl_length, ih, List.length_cons]; omega
set_option maxRecDepth 100000 in
theorem cells_chs {a : Addr} {l : List Ch} (h : ∀ i r, l[i]? = some r → CellsAt w (a.add (i * 20)) (cl r)) : CellsAt w a (fc l) := fun j u hu => by
  have hj := (List.getElem?_eq_some_iff.1 hu).1
  rw [fc_length] at hj
  have hi : j / 20 < l.length := by omega
  have hr := List.getElem?_eq_getElem hi
  have e : j = j / 20 * 20 + j % 20 := by omega
  have h1 := h _ _ hr (j % 20) u (by rw [← fc_at hr (by omega), ← e]; exact hu)
  rw [add_add, ← e] at h1
  exact h1

def WideRt (r : Rt) : Prop := I64 r.pre.bits ∧ I64 r.pre.len

set_option maxRecDepth 100000 in
/-- Routes that come in as a slice. -/
theorem open_rts {v : Value} {d : DataW H} {p : List MemPlace} (hv : Value.okWide Try.prog w .any base 22 v) (h : DataW.Trod enc Try.prog w 0 spare held 22 v d p) : ∃ l : List Rt, (∀ r ∈ l, WideRt r) ∧ Rd w v l := by
  obtain ⟨a0, len0, cap0, rfl⟩ := okWide_slice Try.underlying22 hv
  have hc : Try.prog.cellsOf 34 = 19 := by kernel_rfl
  obtain ⟨fuel, hf⟩ := h
  rcases open_slice Try.underlying22 hf with ⟨e, _⟩ | ⟨a, len, cap, m, n, D, Pl, e, hb, hl, hm, hmm, _, hx⟩
  · exact ⟨[], by simp, .inl ⟨by simpa [Value.cells] using e, rfl⟩⟩
  · rw [hc] at hx
    have hlm : len ≤ m := by rw [hmm]; split <;> omega
    obtain ⟨R, hR⟩ := choose_lt (α := Rt) (n := len) (p := fun i r => WideRt r ∧ CellsAt w (a.add (i * 19)) (rl r)) (fun i hi => by
      obtain ⟨cs', h1, h2⟩ := hx i (by omega)
      obtain ⟨h3, h4⟩ := cells_each h1
      obtain ⟨r, g1, g2, rfl⟩ := route_of_trod h3 h2
      exact ⟨r, ⟨g1, g2⟩, h4⟩)
    have e' : (Value.slice a0 len0 cap0) = .slice (some a) len cap := by simpa [Value.cells] using e
    refine ⟨(List.range len).map R, fun r hr => ?_, .inr ⟨a, cap, by simpa using e', by simpa using hl, hm, cells_rts fun i r hr => ?_⟩⟩
    · obtain ⟨i, hi, rfl⟩ := List.mem_map.1 hr
      exact (hR i (List.mem_range.1 hi)).1
    · rw [List.getElem?_map] at hr
      obtain ⟨i', h1, h2⟩ := Option.map_eq_some_iff.1 hr
      obtain ⟨hi, h3⟩ := List.getElem?_eq_some_iff.1 h1
      simp at h3 hi
      subst h3; subst h2
      exact (hR i hi).2

instance : Inhabited Ch := ⟨⟨zrt, false⟩⟩
set_option maxRecDepth 100000 in
/-- Changes that come in as a slice. -/
theorem open_chs {v : Value} {d : DataW H} {p : List MemPlace} (hv : Value.okWide Try.prog w .any base 27 v) (h : DataW.Trod enc Try.prog w 0 spare held 27 v d p) : ∃ l : List Ch, (∀ c ∈ l, WideRt c.rt) ∧ RdC w v l := by
  obtain ⟨a0, len0, cap0, rfl⟩ := okWide_slice Try.underlying27 hv
  have hc : Try.prog.cellsOf 71 = 20 := by kernel_rfl
  obtain ⟨fuel, hf⟩ := h
  rcases open_slice Try.underlying27 hf with ⟨e, _⟩ | ⟨a, len, cap, m, n, D, Pl, e, hb, hl, hm, hmm, _, hx⟩
  · exact ⟨[], by simp, .inl ⟨by simpa [Value.cells] using e, rfl⟩⟩
  · rw [hc] at hx
    have hlm : len ≤ m := by rw [hmm]; split <;> omega
    obtain ⟨R, hR⟩ := choose_lt (α := Ch) (n := len) (p := fun i r => WideRt r.rt ∧ CellsAt w (a.add (i * 20)) (cl r)) (fun i hi => by
      obtain ⟨cs', h1, h2⟩ := hx i (by omega)
      obtain ⟨h3, h4⟩ := cells_each h1
      obtain ⟨r, g1, g2, rfl⟩ := change_of_trod h3 h2
      exact ⟨r, ⟨g1, g2⟩, h4⟩)
    have e' : (Value.slice a0 len0 cap0) = .slice (some a) len cap := by simpa [Value.cells] using e
    refine ⟨(List.range len).map R, fun r hr => ?_, .inr ⟨a, cap, by simpa using e', by simpa using hl, hm, cells_chs fun i r hr => ?_⟩⟩
    · obtain ⟨i, hi, rfl⟩ := List.mem_map.1 hr
      exact (hR i (List.mem_range.1 hi)).1
    · rw [List.getElem?_map] at hr
      obtain ⟨i', h1, h2⟩ := Option.map_eq_some_iff.1 hr
      obtain ⟨hi, h3⟩ := List.getElem?_eq_some_iff.1 h1
      simp at h3 hi
      subst h3; subst h2
      exact (hR i hi).2

set_option maxRecDepth 100000 in
/-- A key that comes in; nothing lies behind it. -/
theorem open_key0 {v : Value} {d : DataW H} {p : List MemPlace} (hv : Value.okWide Try.prog w .any base 24 v) (h : DataW.Trod enc Try.prog w 0 spare held 24 v d p) : ∃ k, Bytes16 k ∧ (∀ i, 16 ≤ i → k i = 0) ∧ v = .agg (kc k) := by
  obtain ⟨k, h1, h2⟩ := open_key hv h
  exact ⟨cutK k, cutK_bytes h1, cutK_out k, by rw [h2, kc, kc, cutK_kl]⟩
end
end Go.Proofs.Ytggjcjijoihilaa
namespace Go.Proofs.Ytggjcjijoihilaa
open Go.RowKit Go.Sort Go.Shelf
attribute [local go_sem ↓] loadVar_key loadVar_pre loadVar_route storeVar_pre storeVar_route build_pre build_route

/-! ### Two lists in order that find the same are the same -/
theorem find_mem {l : List Rt} (h : Good l) {r : Rt} (hr : r ∈ l) : findP l r.pre = some r := by
  unfold findP
  induction l with
  | nil => cases hr
  | cons s l ih =>
    rw [List.find?_cons]
    rcases List.mem_cons.1 hr with rfl | hr'
    · rw [preEq_refl]
    · have h1 := (List.pairwise_cons.1 h.ord).1 r hr'
      have : preEq s.pre r.pre = false := by
        cases e : preEq s.pre r.pre with
        | false => rfl
        | true => rw [rt_pre_ext e, less_irrefl] at h1; cases h1
      rw [this]; exact ih h.tail hr'
theorem mem_find {l : List Rt} {p : Pre} {r : Rt} (h : findP l p = some r) : r ∈ l ∧ preEq r.pre p = true := by
  unfold findP at h
  exact ⟨List.mem_of_find?_eq_some h, by simpa using List.find?_some h⟩
theorem good_same : ∀ {l m : List Rt}, Good l → Good m → (∀ r, r ∈ l ↔ r ∈ m) → l = m
  | [], [], _, _, _ => rfl
  | [], b :: m, _, _, h => by have := (h b).2 (by simp); cases this
  | a :: l, [], _, _, h => by have := (h a).1 (by simp); cases this
  | a :: l, b :: m, hl, hm, h => by
    have hal := (List.pairwise_cons.1 hl.ord).1
    have hbm := (List.pairwise_cons.1 hm.ord).1
    have hab : a = b := by
      rcases List.mem_cons.1 ((h a).1 (by simp)) with e | e
      · exact e
      · rcases List.mem_cons.1 ((h b).2 (by simp)) with e' | e'
        · exact e'.symm
        · have h1 := hbm a e
          have h2 := hal b e'
          rw [less_asymm h1] at h2; cases h2
    subst hab
    congr 1
    refine good_same hl.tail hm.tail fun r => ⟨fun hr => ?_, fun hr => ?_⟩
    · rcases List.mem_cons.1 ((h r).1 (List.mem_cons_of_mem _ hr)) with e | e
      · subst e; have := hal r hr; rw [less_irrefl] at this; cases this
      · exact e
    · rcases List.mem_cons.1 ((h r).2 (List.mem_cons_of_mem _ hr)) with e | e
      · subst e; have := hbm r hr; rw [less_irrefl] at this; cases this
      · exact e
theorem good_ext {l m : List Rt} (hl : Good l) (hm : Good m) (h : ∀ p, findP l p = findP m p) : l = m :=
  good_same hl hm fun r => ⟨fun hr => (mem_find ((h r.pre).symm.trans (find_mem hl hr))).1, fun hr => (mem_find ((h r.pre).trans (find_mem hm hr))).1⟩

/-! ### The values -/
theorem few_out (l : List Nat) (hl : l.length ≤ 16) : ∀ i, 16 ≤ i → few l i = 0 := fun i hi => by
  unfold few; rw [List.getD_eq_getElem?_getD, List.getElem?_eq_none (by omega)]; rfl
def kA : Nat → Nat := few [10]
def kB : Nat → Nat := few [10, 1]
def kC : Nat → Nat := few [10, 1, 2, 3]
theorem kA_bytes : Bytes16 kA := few_bytes _ (by decide)
theorem kB_bytes : Bytes16 kB := few_bytes _ (by decide)
theorem kC_bytes : Bytes16 kC := few_bytes _ (by decide)
def rtA : Rt := ⟨⟨32, 8, kA⟩, 1, kA_bytes, few_out _ (by decide), by decide⟩
def rtB : Rt := ⟨⟨32, 16, kB⟩, 2, kB_bytes, few_out _ (by decide), by decide⟩

theorem aw_apply : applyL [] [⟨rtB, false⟩, ⟨rtA, false⟩] = ([rtA, rtB], 0) := by kernel_rfl
theorem aw_best : bestL [rtA, rtB] kC 32 = (rtB, 0) := by kernel_rfl
theorem aw_get : getL [rtA, rtB] ⟨32, 8, kA⟩ = (1, 0) := by kernel_rfl
theorem aw_right : rightB [rtA, rtB] = true := by kernel_rfl
theorem aw_under : underL [rtA, rtB] ⟨32, 8, kA⟩ = [rtA, rtB] := by kernel_rfl
theorem aw_may : mayL [rtB, rtB] = [rtB, rtB] := by kernel_rfl
theorem aw_good : mayB rtB.pre = true := by kernel_rfl
theorem aw_sort {out : List Rt} (h : SortSpec [rtB, rtB] out) : out = [rtB] := by
  refine good_ext h.good (Good.nil.cons aw_good (by simp)) fun p => ?_
  rw [h.find, aw_may]
  unfold findP
  simp only [List.reverse_cons, List.reverse_nil, List.nil_append, List.cons_append, List.find?_cons, List.find?_nil]
  cases preEq rtB.pre p <;> rfl

/-! ### Composites, behind names -/
def keyBuild (parts : Array (Nat × Value)) : Sem Value := Instr.build 24 parts
theorem build_key (parts : Array (Nat × Value)) : Instr.build 24 parts = keyBuild parts := rfl
def changeBuild (parts : Array (Nat × Value)) : Sem Value := Instr.build 71 parts
theorem build_change (parts : Array (Nat × Value)) : Instr.build 71 parts = changeBuild parts := rfl
def rowsBuild (n : Nat) (parts : Array (Nat × Value)) : Sem Value := Instr.buildSlice 22 n parts
theorem buildSlice_rows (n : Nat) (parts : Array (Nat × Value)) : Instr.buildSlice 22 n parts = rowsBuild n parts := rfl
def chsBuild (n : Nat) (parts : Array (Nat × Value)) : Sem Value := Instr.buildSlice 27 n parts
theorem buildSlice_chs (n : Nat) (parts : Array (Nat × Value)) : Instr.buildSlice 27 n parts = chsBuild n parts := rfl
attribute [local go_sem ↓] build_key build_change buildSlice_rows buildSlice_chs

theorem run_keyA (w : World) : (keyBuild #[(0, .int .u8 10)]).run Try.prog w = .ok (.agg (kc kA)) w := by kernel_rfl
theorem run_keyB (w : World) : (keyBuild #[(0, .int .u8 10), (1, .int .u8 1)]).run Try.prog w = .ok (.agg (kc kB)) w := by kernel_rfl
theorem run_keyC (w : World) : (keyBuild #[(0, .int .u8 10), (1, .int .u8 1), (2, .int .u8 2), (3, .int .u8 3)]).run Try.prog w = .ok (.agg (kc kC)) w := by kernel_rfl
theorem run_routeBuild (r : Rt) (w : World) : (routeBuild #[(0, .agg (pc r.pre)), (1, .int .u16 (r.hop : Nat))]).run Try.prog w = .ok (.agg (rc r)) w := by kernel_rfl
theorem run_routeBuildP (r : Rt) (w : World) : (routeBuild #[(0, .agg (pc r.pre))]).run Try.prog w = .ok (.agg (rc { r with hop := 0, hh := by decide })) w := by kernel_rfl
theorem run_changeBuild (r : Rt) (w : World) : (changeBuild #[(0, .agg (rc r))]).run Try.prog w = .ok (.agg (cc ⟨r, false⟩)) w := by kernel_rfl
theorem run_changeBuildG (r : Rt) (w : World) : (changeBuild #[(0, .agg (rc r)), (1, .bool true)]).run Try.prog w = .ok (.agg (cc ⟨r, true⟩)) w := by kernel_rfl

theorem infoC : (Try.prog.info? 71).map (fun i => (i.zero, i.size)) = some (some (.agg (cc ⟨zrt, false⟩)), 20) := by kernel_rfl
theorem infoC' : ∃ i, Try.prog.info? 71 = some i ∧ i.zero = some (.agg (cc ⟨zrt, false⟩)) ∧ i.size = 20 := by
  cases h : Try.prog.info? 71 with
  | none => have := infoC; rw [h] at this; cases this
  | some i => have := infoC; rw [h] at this; simp at this; exact ⟨i, rfl, this.1, this.2⟩
theorem run_rows2 (a b : Rt) (w : World) : (rowsBuild 2 #[(0, .agg (rc a)), (1, .agg (rc b))]).run Try.prog w = .ok (.slice (some ⟨w.heap.size, 0, none⟩) 2 2) (w.alloc (.cells (fl [a, b]).toArray 34)) := by
  obtain ⟨i, h0, h1, h2, h3⟩ := infoR'
  exact run_buildSlice w 22 34 2 _ (fl [a, b]).toArray i _ Try.underlying22 h0 h1 (by rw [h2]; decide) (by rw [h2]; decide) (by rw [h2]; kernel_rfl)
theorem run_chs2 (a b : Ch) (w : World) : (chsBuild 2 #[(0, .agg (cc a)), (1, .agg (cc b))]).run Try.prog w = .ok (.slice (some ⟨w.heap.size, 0, none⟩) 2 2) (w.alloc (.cells (fc [a, b]).toArray 71)) := by
  obtain ⟨i, h0, h1, h2⟩ := infoC'
  exact run_buildSlice w 27 71 2 _ (fc [a, b]).toArray i _ Try.underlying27 h0 h1 (by rw [h2]; decide) (by rw [h2]; decide) (by rw [h2]; kernel_rfl)
theorem run_chs1 (a : Ch) (w : World) : (chsBuild 1 #[(0, .agg (cc a))]).run Try.prog w = .ok (.slice (some ⟨w.heap.size, 0, none⟩) 1 1) (w.alloc (.cells (fc [a]).toArray 71)) := by
  obtain ⟨i, h0, h1, h2⟩ := infoC'
  exact run_buildSlice w 27 71 1 _ (fc [a]).toArray i _ Try.underlying27 h0 h1 (by rw [h2]; decide) (by rw [h2]; decide) (by rw [h2]; kernel_rfl)

theorem cellsAt_new (W : World) (l : List Value) (t : TypeId) : CellsAt (W.alloc (.cells l.toArray t)) ⟨W.heap.size, 0, none⟩ l := fun j u hu => by
  have hadd : (⟨W.heap.size, 0, none⟩ : Addr).add j = ⟨W.heap.size, j, none⟩ := by unfold Addr.add; split <;> simp_all
  rw [hadd, World.cell?_alloc_at _ _ _ _ rfl]; simpa using hu
theorem rdC_new (W : World) (l : List Ch) (h : l.length ≤ 256) : RdC (W.alloc (.cells (fc l).toArray 71)) (.slice (some ⟨W.heap.size, 0, none⟩) l.length l.length) l :=
  .inr ⟨_, _, rfl, Nat.le_refl _, by unfold maxLen; omega, cellsAt_new _ _ _⟩
theorem rd_new (W : World) (l : List Rt) (h : l.length ≤ 256) : Rd (W.alloc (.cells (fl l).toArray 34)) (.slice (some ⟨W.heap.size, 0, none⟩) l.length l.length) l :=
  .inr ⟨_, _, rfl, Nat.le_refl _, by unfold maxLen; omega, cellsAt_new _ _ _⟩
end Go.Proofs.Ytggjcjijoihilaa
