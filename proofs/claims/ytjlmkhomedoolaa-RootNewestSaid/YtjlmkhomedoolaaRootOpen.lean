/- A root, and slices of bytes, that come in. -/
import Derived.Test.YtjlmkhomedoolaaPageOpen
import Derived.Test.YtjlmkhomedoolaaRootMem
namespace Go.Proofs.Ytjlmkhomedoolaa.Root
open Go.ChangeShapes Go.WideShapes Go.ChangeAt Go.RowKit Go.Deep Go.Proofs.Ytjlmkhomedoolaa Go.Proofs.Ytjlmkhomedoolaa.Page
section
variable {H : Type} {enc : TypeId × Value → H} {w : World} {base : Nat} {spare : Nat → Bool} {held : Bool}

theorem rdN_of_trod {fuel : Nat} {v : Value} {x : DataW H × List MemPlace} (h : DataW.trod enc Try.prog w base spare held fuel 23 [v] = some x) : ∃ l : List Int, RdN w v l := by
  have hc : Try.prog.cellsOf 3 = 1 := by kernel_rfl
  rcases open_ints Try.underlying23 Try.underlying3 hc h with ⟨e, _⟩ | ⟨a, len, cap, zs, e, hb, hl, hm, hz, _, hcell, hwf⟩
  · have e' : v = .slice none 0 0 := by simpa using e
    exact ⟨[], none, 0, e', Nat.le_refl _, Nat.zero_le _, fun _ => rfl, fun ad ha => by cases ha⟩
  · have e' : v = .slice (some a) len cap := by simpa using e
    have hlz : len ≤ zs.length := by rw [hz]; split <;> omega
    have hlen : (zs.take len).length = len := by rw [List.length_take]; omega
    refine ⟨zs.take len, some a, cap, by rw [hlen]; exact e', by rw [hlen]; exact hl, hm, (fun h => by cases h), fun ad ha j u hu => ?_⟩
    cases ha
    have hj : j < len := by
      have := (List.getElem?_eq_some_iff.1 hu).1
      rw [cellsN_length, hlen] at this; exact this
    have hjz : j < zs.length := by omega
    rw [hcell j hjz, ← hu]
    unfold cellsN
    rw [List.getElem?_map, List.getElem?_take_of_lt hj, List.getElem?_eq_getElem hjz, List.getD_eq_getElem?_getD, List.getElem?_eq_getElem hjz]
    rfl
theorem rdL_of_trod {fuel : Nat} {v : Value} {x : DataW H × List MemPlace} (h : DataW.trod enc Try.prog w base spare held fuel 26 [v] = some x) : ∃ ls, RdL w v ls := by
  have hc : Try.prog.cellsOf 29 = 1 := by kernel_rfl
  rcases open_slice1 Try.underlying26 hc h with ⟨e, _⟩ | ⟨a, len, cap, m, n, V, D, Pl, e, hb, hl, hm, hmm, _, hx⟩
  · have e' : v = .slice none 0 0 := by simpa using e
    exact ⟨[], [], ⟨none, 0, e', Nat.le_refl _, Nat.zero_le _, fun _ => rfl, fun ad ha => by cases ha⟩, rfl, fun i b hi => by cases hi⟩
  · have e' : v = .slice (some a) len cap := by simpa using e
    have hlm : len ≤ m := by rw [hmm]; split <;> omega
    obtain ⟨R, hR⟩ := choose_lt (α := List UInt8) (n := len) (p := fun i r => RdB w (V i) r) (fun i hi => rdB_of_trod (hx i (by omega)).2)
    have hlen : ((List.range len).map V).length = len := by simp
    refine ⟨(List.range len).map R, (List.range len).map V, ⟨some a, cap, by rw [hlen]; exact e', by rw [hlen]; exact hl, hm, (fun h => by cases h), fun ad ha j u hu => ?_⟩, by simp, fun i b hi => ?_⟩
    · cases ha
      have hj : j < len := by have := (List.getElem?_eq_some_iff.1 hu).1; simpa using this
      rw [List.getElem?_map, List.getElem?_range hj] at hu
      cases hu
      exact (hx j (by omega)).1
    · have hj : i < len := by have := (List.getElem?_eq_some_iff.1 hi).1; simpa using this
      rw [List.getElem?_map, List.getElem?_range hj] at hi
      cases hi
      exact ⟨V i, by rw [List.getElem?_map, List.getElem?_range hj]; rfl, hR i hj⟩
theorem two_list {l : List Value} (h : l.length = 2) : ∃ a b, l = [a, b] := by
  match l, h with
  | [a, b], _ => exact ⟨a, b, rfl⟩
set_option maxRecDepth 100000 in
/-- A root that comes in. -/
theorem open_root {v : Value} {d : DataW H} {p : List MemPlace} (hv : Value.okWide Try.prog w .any base 25 v) (h : DataW.Trod enc Try.prog w 0 spare held 25 v d p) : ∃ (q : Ro) (u : Value), v = roV q u ∧ RdN w u q.nums := by
  obtain ⟨cs, rfl, hsz⟩ := okWide_struct Try.underlying25 hv
  obtain ⟨fuel, hf0⟩ := h
  have hg : Try.prog.cellsOf 22 = 1 := by kernel_rfl
  have hu : Try.prog.cellsOf 23 = 1 := by kernel_rfl
  have h2 : Try.prog.cellsOf 25 = 2 := by kernel_rfl
  obtain ⟨hl, n, hf⟩ := trod_field (cs := cs.toList) Try.underlying25 hf0
  rw [h2] at hl
  obtain ⟨a, b, hcs⟩ := two_list hl
  rw [hcs] at hf
  obtain ⟨y0, h0⟩ : ∃ y, DataW.trod enc Try.prog w 0 spare held n 22 (([a, b].drop 0).take (Try.prog.cellsOf 22)) = some y := by
    have := hf 0 _ rfl
    exact this
  obtain ⟨y1, h1⟩ : ∃ y, DataW.trod enc Try.prog w 0 spare held n 23 (([a, b].drop 1).take (Try.prog.cellsOf 23)) = some y := by
    have := hf 1 _ rfl
    exact this
  rw [hg] at h0
  rw [hu] at h1
  obtain ⟨z0, e0, _, w0⟩ := DataW.trod_int Try.underlying22 h0
  obtain ⟨l, k1⟩ := rdN_of_trod (v := b) (by simpa using h1)
  have hz := bounds_u64 w0
  simp at e0
  refine ⟨⟨z0.toNat, l⟩, b, ?_, k1⟩
  have : cs = #[a, b] := by rw [← Array.toArray_toList (xs := cs), hcs]
  have hn : ((z0.toNat : Nat) : Int) = z0 := by omega
  rw [this, e0]
  unfold roV
  simp only [hn]
set_option maxRecDepth 100000 in
/-- Slices of bytes that come in. -/
theorem open_rows {v : Value} {d : DataW H} {p : List MemPlace} (hv : Value.okWide Try.prog w .any base 26 v) (h : DataW.Trod enc Try.prog w 0 spare held 26 v d p) : ∃ ls, RdL w v ls := by
  obtain ⟨a0, len0, cap0, rfl⟩ := okWide_slice Try.underlying26 hv
  obtain ⟨fuel, hf⟩ := h
  exact rdL_of_trod (by simpa [Value.cells] using hf)
end
end Go.Proofs.Ytjlmkhomedoolaa.Root
