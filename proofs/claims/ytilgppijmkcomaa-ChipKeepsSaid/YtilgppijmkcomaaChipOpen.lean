/- A chip that comes in; faults that come in. -/
import Derived.Test.YtilgppijmkcomaaChipAwake
import Derived.Test.YtilgppijmkcomaaSumArg
import Derived.Deep.Slices
namespace Go.Proofs.Ytilgppijmkcomaa.Chip
open Go.ChangeShapes Go.WideShapes Go.ChangeAt Go.RowKit Go.Deep
section
variable {H : Type} {enc : TypeId × Value → H} {w : World} {base : Nat} {spare : Nat → Bool} {held : Bool}
instance : Inhabited Flt := ⟨⟨0, false, false, 0⟩⟩

theorem trod_field {t : TypeId} {fs : Array Field} {fuel : Nat} {cs : List Value} {x : DataW H × List MemPlace} (ht : Try.prog.underlying t = some (.struct fs)) (h : DataW.trod enc Try.prog w base spare held fuel t cs = some x) :
    cs.length = Try.prog.cellsOf t ∧ ∃ n, ∀ (j : Nat) (f : Field), fs[j]? = some f → ∃ y, DataW.trod enc Try.prog w base spare held n f.type ((cs.drop f.offset).take (Try.prog.cellsOf f.type)) = some y := by
  obtain ⟨xs, n, _, rfl, hl, hlen, hf⟩ := DataW.trod_struct ht h
  refine ⟨hl, n, fun j f hj => ?_⟩
  have hjl := (Array.getElem?_eq_some_iff.1 hj).1
  exact ⟨xs[j]'(by omega), (hf j f hj).trans (List.getElem?_eq_getElem _)⟩
theorem rdB_of_trod {fuel : Nat} {v : Value} {x : DataW H × List MemPlace} (h : DataW.trod enc Try.prog w base spare held fuel 42 [v] = some x) : ∃ l : List UInt8, RdB w v l := by
  have hc : Try.prog.cellsOf 5 = 1 := by kernel_rfl
  rcases open_ints Try.underlying42 Try.underlying5 hc h with ⟨e, _⟩ | ⟨a, len, cap, zs, e, hb, hl, hm, hz, _, hcell, hwf⟩
  · have e' : v = .slice none 0 0 := by simpa using e
    exact ⟨[], none, 0, e', Nat.le_refl _, Nat.zero_le _, fun _ => rfl, fun ad ha => by cases ha⟩
  · have e' : v = .slice (some a) len cap := by simpa using e
    have hlz : len ≤ zs.length := by rw [hz]; split <;> omega
    have hlen : ((zs.take len).map fun n => UInt8.ofNat n.toNat).length = len := by rw [List.length_map, List.length_take]; omega
    refine ⟨(zs.take len).map fun n => UInt8.ofNat n.toNat, some a, cap, by rw [hlen]; exact e', by rw [hlen]; exact hl, hm, (fun h => by cases h), fun ad ha j u hu => ?_⟩
    cases ha
    have hj : j < len := by
      have := (List.getElem?_eq_some_iff.1 hu).1
      rw [cellsB_length, hlen] at this; exact this
    have hjz : j < zs.length := by omega
    rw [hcell j hjz, ← hu]
    have hw := bounds_u8 (hwf zs[j] (List.getElem_mem hjz))
    unfold cellsB
    rw [List.map_map, List.getElem?_map, List.getElem?_take_of_lt hj, List.getElem?_eq_getElem hjz, List.getD_eq_getElem?_getD, List.getElem?_eq_getElem hjz]
    show some (Value.int .u8 zs[j]) = some (Value.int .u8 (((UInt8.ofNat zs[j].toNat).toNat : Nat) : Int))
    rw [UInt8.toNat_ofNat']
    have : ((zs[j].toNat % 2 ^ 8 : Nat) : Int) = zs[j] := by omega
    rw [this]
theorem rdRow_nil {v : Value} (e : v = .slice none 0 0) : RdRow w v 0 [] := ⟨none, 0, e, Nat.le_refl _, Nat.zero_le _, fun _ => rfl, fun ad ha => by cases ha⟩
theorem rdP_of_trod {fuel : Nat} {v : Value} {x : DataW H × List MemPlace} (h : DataW.trod enc Try.prog w base spare held fuel 38 [v] = some x) : ∃ ps, RdP w v ps := by
  have hc : Try.prog.cellsOf 42 = 1 := by kernel_rfl
  rcases open_slice1 Try.underlying38 hc h with ⟨e, _⟩ | ⟨a, len, cap, m, n, V, D, Pl, e, hb, hl, hm, hmm, _, hx⟩
  · exact ⟨[], [], ⟨rfl, fun i a b ha => by simp at ha⟩, rdRow_nil (by simpa using e)⟩
  · have e' : v = .slice (some a) len cap := by simpa using e
    have hlm : len ≤ m := by rw [hmm]; split <;> omega
    obtain ⟨R, hR⟩ := choose_lt (α := List UInt8) (n := len) (p := fun i r => RdB w (V i) r) (fun i hi => rdB_of_trod (hx i (by omega)).2)
    refine ⟨(List.range len).map R, (List.range len).map V, ⟨by simp, fun i u l hu hl2 => ?_⟩, some a, cap, by simpa using e', by simpa using hl, hm, (fun h => by cases h), fun ad ha j u hu => ?_⟩
    · have hi : i < len := by have := (List.getElem?_eq_some_iff.1 hu).1; simpa using this
      rw [List.getElem?_map, List.getElem?_range hi] at hu hl2
      cases hu; cases hl2
      exact hR i hi
    · cases ha
      have hi : j < len := by have := (List.getElem?_eq_some_iff.1 hu).1; simpa using this
      rw [List.getElem?_map, List.getElem?_range hi] at hu
      cases hu
      exact (hx j (by omega)).1
theorem cells_each {b : Nat} {a : Addr} {n : Nat} {cs : List Value} (h : w.cells? b a n = some cs) : cs.length = n ∧ ∀ (j : Nat) u, cs[j]? = some u → w.cell? (a.add j) = some u := by
  obtain ⟨h0, h1, h2⟩ := World.cells?_some h
  exact ⟨h1, fun j u hu => by rw [h2 j (by rw [← h1]; exact (List.getElem?_eq_some_iff.1 hu).1)]; exact hu⟩
theorem one_list {l : List Value} (h : l.length = 1) : ∃ v, l = [v] := by
  match l, h with
  | [v], _ => exact ⟨v, rfl⟩
theorem four_list {l : List Value} (h : l.length = 4) : ∃ a b c d, l = [a, b, c, d] := by
  match l, h with
  | [a, b, c, d], _ => exact ⟨a, b, c, d, rfl⟩
theorem six_list {l : List Value} (h : l.length = 6) : ∃ a b c d e f, l = [a, b, c, d, e, f] := by
  match l, h with
  | [a, b, c, d, e, f], _ => exact ⟨a, b, c, d, e, f, rfl⟩
set_option maxRecDepth 100000 in
theorem flt_of_trod {fuel : Nat} {cs : List Value} {x : DataW H × List MemPlace} (h : DataW.trod enc Try.prog w base spare held fuel 56 cs = some x) : ∃ f : Flt, cs = flC f := by
  have hi : Try.prog.cellsOf 3 = 1 := by kernel_rfl
  have hb : Try.prog.cellsOf 4 = 1 := by kernel_rfl
  have hu : Try.prog.cellsOf 5 = 1 := by kernel_rfl
  have h4 : Try.prog.cellsOf 56 = 4 := by kernel_rfl
  obtain ⟨hl, n, hf⟩ := trod_field Try.underlying56 h
  rw [h4] at hl
  obtain ⟨a, b, c, d, rfl⟩ := four_list hl
  obtain ⟨y0, h0⟩ : ∃ y, DataW.trod enc Try.prog w base spare held n 3 (([a, b, c, d].drop 0).take (Try.prog.cellsOf 3)) = some y := by
    have := hf 0 _ rfl
    exact this
  obtain ⟨y1, h1⟩ : ∃ y, DataW.trod enc Try.prog w base spare held n 4 (([a, b, c, d].drop 1).take (Try.prog.cellsOf 4)) = some y := by
    have := hf 1 _ rfl
    exact this
  obtain ⟨y2, h2⟩ : ∃ y, DataW.trod enc Try.prog w base spare held n 4 (([a, b, c, d].drop 2).take (Try.prog.cellsOf 4)) = some y := by
    have := hf 2 _ rfl
    exact this
  obtain ⟨y3, h3⟩ : ∃ y, DataW.trod enc Try.prog w base spare held n 5 (([a, b, c, d].drop 3).take (Try.prog.cellsOf 5)) = some y := by
    have := hf 3 _ rfl
    exact this
  rw [hi] at h0
  rw [hb] at h1 h2
  rw [hu] at h3
  obtain ⟨z, e0, _, _⟩ := DataW.trod_int Try.underlying3 h0
  obtain ⟨b1, e1, _⟩ := DataW.trod_bool Try.underlying4 h1
  obtain ⟨b2, e2, _⟩ := DataW.trod_bool Try.underlying4 h2
  obtain ⟨m, e3, _, w3⟩ := DataW.trod_int Try.underlying5 h3
  have hm := bounds_u8 w3
  refine ⟨⟨z, b1, b2, UInt8.ofNat m.toNat⟩, ?_⟩
  unfold flC
  have : (((UInt8.ofNat m.toNat).toNat : Nat) : Int) = m := by rw [UInt8.toNat_ofNat']; omega
  simp only [this]
  simp at e0 e1 e2 e3
  rw [e0, e1, e2, e3]
theorem rdF_of_trod {fuel : Nat} {v : Value} {x : DataW H × List MemPlace} (h : DataW.trod enc Try.prog w base spare held fuel 22 [v] = some x) : ∃ fs, RdF w v fs := by
  have hc : Try.prog.cellsOf 56 = 4 := by kernel_rfl
  rcases open_slice Try.underlying22 h with ⟨e, _⟩ | ⟨a, len, cap, m, n, D, Pl, e, hb, hl, hm, hmm, _, hx⟩
  · exact ⟨[], rdRow_nil (by simpa using e)⟩
  · rw [hc] at hx
    have e' : v = .slice (some a) len cap := by simpa using e
    have hlm : len ≤ m := by rw [hmm]; split <;> omega
    obtain ⟨R, hR⟩ := choose_lt (α := Flt) (n := len) (p := fun i r => ∀ (j : Nat) u, (flC r)[j]? = some u → w.cell? ((a.add (i * 4)).add j) = some u) (fun i hi => by
      obtain ⟨cs', h1, h2⟩ := hx i (by omega)
      obtain ⟨h3, h4⟩ := cells_each h1
      obtain ⟨r, rfl⟩ := flt_of_trod h2
      exact ⟨r, h4⟩)
    refine ⟨(List.range len).map R, some a, cap, by simpa using e', by simpa using hl, hm, (fun h => by cases h), fun ad ha j u hu => ?_⟩
    cases ha
    have hj := (List.getElem?_eq_some_iff.1 hu).1
    rw [flAll_length] at hj
    simp at hj
    have hr : ((List.range len).map R)[j / 4]? = some (R (j / 4)) := by rw [List.getElem?_map, List.getElem?_range (by omega)]; rfl
    have e : j = j / 4 * 4 + j % 4 := by omega
    rw [e, flAll_at hr (by omega)] at hu
    have := hR (j / 4) (by omega) (j % 4) u hu
    rw [add_add, ← e] at this
    exact this
set_option maxRecDepth 100000 in
theorem blk_of_trod {fuel : Nat} {cs : List Value} {x : DataW H × List MemPlace} (h : DataW.trod enc Try.prog w base spare held fuel 40 cs = some x) : ∃ (y : Value × Blk), cs = bkC y.1 y.2 ∧ RdP w y.1 y.2.pages := by
  have hi : Try.prog.cellsOf 3 = 1 := by kernel_rfl
  have hb : Try.prog.cellsOf 4 = 1 := by kernel_rfl
  have hu : Try.prog.cellsOf 38 = 1 := by kernel_rfl
  have h4 : Try.prog.cellsOf 40 = 4 := by kernel_rfl
  obtain ⟨hl, n, hf⟩ := trod_field Try.underlying40 h
  rw [h4] at hl
  obtain ⟨a, b, c, d, rfl⟩ := four_list hl
  obtain ⟨y0, h0⟩ : ∃ y, DataW.trod enc Try.prog w base spare held n 38 (([a, b, c, d].drop 0).take (Try.prog.cellsOf 38)) = some y := by
    have := hf 0 _ rfl
    exact this
  obtain ⟨y1, h1⟩ : ∃ y, DataW.trod enc Try.prog w base spare held n 3 (([a, b, c, d].drop 1).take (Try.prog.cellsOf 3)) = some y := by
    have := hf 1 _ rfl
    exact this
  obtain ⟨y2, h2⟩ : ∃ y, DataW.trod enc Try.prog w base spare held n 3 (([a, b, c, d].drop 2).take (Try.prog.cellsOf 3)) = some y := by
    have := hf 2 _ rfl
    exact this
  obtain ⟨y3, h3⟩ : ∃ y, DataW.trod enc Try.prog w base spare held n 4 (([a, b, c, d].drop 3).take (Try.prog.cellsOf 4)) = some y := by
    have := hf 3 _ rfl
    exact this
  rw [hu] at h0
  rw [hi] at h1 h2
  rw [hb] at h3
  obtain ⟨ps, hp⟩ := rdP_of_trod (v := a) (by simpa using h0)
  obtain ⟨u, e1, _, _⟩ := DataW.trod_int Try.underlying3 h1
  obtain ⟨o, e2, _, _⟩ := DataW.trod_int Try.underlying3 h2
  obtain ⟨b3, e3, _⟩ := DataW.trod_bool Try.underlying4 h3
  refine ⟨(a, ⟨ps, u, o, b3⟩), ?_, hp⟩
  unfold bkC
  simp at e1 e2 e3
  rw [e1, e2, e3]
instance : Inhabited (Value × Blk) := ⟨(nilV, default)⟩
theorem rdK_of_trod {fuel : Nat} {v : Value} {x : DataW H × List MemPlace} (h : DataW.trod enc Try.prog w base spare held fuel 25 [v] = some x) : ∃ bs, RdK w v bs := by
  have hc : Try.prog.cellsOf 40 = 4 := by kernel_rfl
  rcases open_slice Try.underlying25 h with ⟨e, _⟩ | ⟨a, len, cap, m, n, D, Pl, e, hb, hl, hm, hmm, _, hx⟩
  · exact ⟨[], [], ⟨rfl, fun i a b ha => by simp at ha⟩, rdRow_nil (by simpa using e)⟩
  · rw [hc] at hx
    have e' : v = .slice (some a) len cap := by simpa using e
    have hlm : len ≤ m := by rw [hmm]; split <;> omega
    obtain ⟨R, hR⟩ := choose_lt (α := Value × Blk) (n := len) (p := fun i r => RdP w r.1 r.2.pages ∧ ∀ (j : Nat) u, (bkC r.1 r.2)[j]? = some u → w.cell? ((a.add (i * 4)).add j) = some u) (fun i hi => by
      obtain ⟨cs', h1, h2⟩ := hx i (by omega)
      obtain ⟨h3, h4⟩ := cells_each h1
      obtain ⟨r, rfl, hp⟩ := blk_of_trod h2
      exact ⟨r, hp, h4⟩)
    refine ⟨(List.range len).map fun i => (R i).2, (List.range len).map fun i => (R i).1, ⟨by simp, fun i u l hu hl2 => ?_⟩, some a, cap, by simpa using e', by simpa using hl, hm, (fun h => by cases h), fun ad ha j u hu => ?_⟩
    · have hi : i < len := by have := (List.getElem?_eq_some_iff.1 hu).1; simpa using this
      rw [List.getElem?_map, List.getElem?_range hi] at hu hl2
      cases hu; cases hl2
      exact (hR i hi).1
    · cases ha
      have hj := (List.getElem?_eq_some_iff.1 hu).1
      rw [bkAll_length _ _ (by simp)] at hj
      simp at hj
      have hr1 : ((List.range len).map fun i => (R i).1)[j / 4]? = some (R (j / 4)).1 := by rw [List.getElem?_map, List.getElem?_range (by omega)]; rfl
      have hr2 : ((List.range len).map fun i => (R i).2)[j / 4]? = some (R (j / 4)).2 := by rw [List.getElem?_map, List.getElem?_range (by omega)]; rfl
      have e : j = j / 4 * 4 + j % 4 := by omega
      rw [e, bkAll_at hr1 hr2 (by omega)] at hu
      have := (hR (j / 4) (by omega)).2 (j % 4) u hu
      rw [add_add, ← e] at this
      exact this
set_option maxRecDepth 100000 in
/-- A chip that comes in. -/
theorem open_chip {v : Value} {d : DataW H} {p : List MemPlace} (hv : Value.okWide Try.prog w .any base 27 v) (h : DataW.Trod enc Try.prog w 0 spare held 27 v d p) : ∃ c : Chp, RdC w v c := by
  obtain ⟨cs, rfl, hsz⟩ := okWide_struct Try.underlying27 hv
  obtain ⟨fuel, hf0⟩ := h
  have hi : Try.prog.cellsOf 3 = 1 := by kernel_rfl
  have hb : Try.prog.cellsOf 4 = 1 := by kernel_rfl
  have hk : Try.prog.cellsOf 25 = 1 := by kernel_rfl
  have hu : Try.prog.cellsOf 22 = 1 := by kernel_rfl
  have h6 : Try.prog.cellsOf 27 = 6 := by kernel_rfl
  obtain ⟨hl, n, hf⟩ := trod_field (cs := cs.toList) Try.underlying27 hf0
  rw [h6] at hl
  obtain ⟨a, b, c, e, f, g, hcs⟩ := six_list hl
  rw [hcs] at hf
  obtain ⟨y0, h0⟩ : ∃ y, DataW.trod enc Try.prog w 0 spare held n 3 (([a, b, c, e, f, g].drop 0).take (Try.prog.cellsOf 3)) = some y := by
    have := hf 0 _ rfl
    exact this
  obtain ⟨y1, h1⟩ : ∃ y, DataW.trod enc Try.prog w 0 spare held n 3 (([a, b, c, e, f, g].drop 1).take (Try.prog.cellsOf 3)) = some y := by
    have := hf 1 _ rfl
    exact this
  obtain ⟨y2, h2⟩ : ∃ y, DataW.trod enc Try.prog w 0 spare held n 25 (([a, b, c, e, f, g].drop 2).take (Try.prog.cellsOf 25)) = some y := by
    have := hf 2 _ rfl
    exact this
  obtain ⟨y3, h3⟩ : ∃ y, DataW.trod enc Try.prog w 0 spare held n 3 (([a, b, c, e, f, g].drop 3).take (Try.prog.cellsOf 3)) = some y := by
    have := hf 3 _ rfl
    exact this
  obtain ⟨y4, h4⟩ : ∃ y, DataW.trod enc Try.prog w 0 spare held n 4 (([a, b, c, e, f, g].drop 4).take (Try.prog.cellsOf 4)) = some y := by
    have := hf 4 _ rfl
    exact this
  obtain ⟨y5, h5⟩ : ∃ y, DataW.trod enc Try.prog w 0 spare held n 22 (([a, b, c, e, f, g].drop 5).take (Try.prog.cellsOf 22)) = some y := by
    have := hf 5 _ rfl
    exact this
  rw [hi] at h0 h1 h3
  rw [hk] at h2
  rw [hb] at h4
  rw [hu] at h5
  obtain ⟨z0, e0, _, _⟩ := DataW.trod_int Try.underlying3 h0
  obtain ⟨z1, e1, _, _⟩ := DataW.trod_int Try.underlying3 h1
  obtain ⟨bs, k2⟩ := rdK_of_trod (v := c) (by simpa using h2)
  obtain ⟨z3, e3, _, _⟩ := DataW.trod_int Try.underlying3 h3
  obtain ⟨z4, e4, _⟩ := DataW.trod_bool Try.underlying4 h4
  obtain ⟨fs, k5⟩ := rdF_of_trod (v := g) (by simpa using h5)
  simp at e0 e1 e3 e4
  refine ⟨⟨z0, z1, bs, z3, z4, fs⟩, c, g, ?_, k2, k5⟩
  have : cs = #[a, b, c, e, f, g] := by rw [← Array.toArray_toList (xs := cs), hcs]
  rw [this, e0, e1, e3, e4]
  rfl
set_option maxRecDepth 100000 in
/-- Faults that come in. -/
theorem open_flts {v : Value} {d : DataW H} {p : List MemPlace} (hv : Value.okWide Try.prog w .any base 22 v) (h : DataW.Trod enc Try.prog w 0 spare held 22 v d p) : ∃ fs, RdF w v fs := by
  obtain ⟨a0, len0, cap0, rfl⟩ := okWide_slice Try.underlying22 hv
  obtain ⟨fuel, hf⟩ := h
  exact rdF_of_trod (by simpa [Value.cells] using hf)
end
end Go.Proofs.Ytilgppijmkcomaa.Chip
