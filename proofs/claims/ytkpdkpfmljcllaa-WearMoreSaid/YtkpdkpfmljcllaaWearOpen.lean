/- What is known of blocks, that comes in. -/
import Derived.Test.YtkpdkpfmljcllaaWearAwake
import Derived.ChangeSlices
import Derived.ProofKit
import Derived.OpenShut
import Derived.Deep.Slices
namespace Go.Proofs.Ytkpdkpfmljcllaa.Wear
open Go.ChangeShapes Go.WideShapes Go.ChangeAt Go.RowKit Go.Deep

theorem nat_u8 {n : Int} (h : (Lit.int .u8 n).wf = true) : ∃ m : Nat, n = m ∧ m < 256 := ⟨n.toNat, by have := bounds_u8 h; omega⟩
section
variable {H : Type} {enc : TypeId × Value → H} {w : World} {base : Nat} {spare : Nat → Bool} {held : Bool}
theorem trod_field {t : TypeId} {fs : Array Field} {fuel : Nat} {cs : List Value} {x : DataW H × List MemPlace} (ht : Try.prog.underlying t = some (.struct fs)) (h : DataW.trod enc Try.prog w base spare held fuel t cs = some x) :
    cs.length = Try.prog.cellsOf t ∧ ∃ n, ∀ (j : Nat) (f : Field), fs[j]? = some f → ∃ y, DataW.trod enc Try.prog w base spare held n f.type ((cs.drop f.offset).take (Try.prog.cellsOf f.type)) = some y := by
  obtain ⟨xs, n, _, rfl, hl, hlen, hf⟩ := DataW.trod_struct ht h
  refine ⟨hl, n, fun j f hj => ?_⟩
  have hjl := (Array.getElem?_eq_some_iff.1 hj).1
  exact ⟨xs[j]'(by omega), (hf j f hj).trans (List.getElem?_eq_getElem _)⟩
theorem cells_each {b : Nat} {a : Addr} {n : Nat} {cs : List Value} (h : w.cells? b a n = some cs) : cs.length = n ∧ ∀ (j : Nat) u, cs[j]? = some u → w.cell? (a.add j) = some u := by
  obtain ⟨h0, h1, h2⟩ := World.cells?_some h
  exact ⟨h1, fun j u hu => by rw [h2 j (by rw [← h1]; exact (List.getElem?_eq_some_iff.1 hu).1)]; exact hu⟩
theorem four_list {l : List Value} (h : l.length = 4) : ∃ a b c d, l = [a, b, c, d] := by
  match l, h with
  | [a, b, c, d], _ => exact ⟨a, b, c, d, rfl⟩
set_option maxRecDepth 100000 in
theorem wb_of_trod {fuel : Nat} {cs : List Value} {x : DataW H × List MemPlace} (h : DataW.trod enc Try.prog w base spare held fuel 31 cs = some x) : ∃ b : Wb, cs = wbC b := by
  have hi : Try.prog.cellsOf 3 = 1 := by kernel_rfl
  have hb : Try.prog.cellsOf 4 = 1 := by kernel_rfl
  have h4 : Try.prog.cellsOf 31 = 4 := by kernel_rfl
  obtain ⟨hl, n, hf⟩ := trod_field Try.underlying31 h
  rw [h4] at hl
  obtain ⟨a, b, c, d, rfl⟩ := four_list hl
  obtain ⟨y0, h0⟩ : ∃ y, DataW.trod enc Try.prog w base spare held n 3 (([a, b, c, d].drop 0).take (Try.prog.cellsOf 3)) = some y := by
    have := hf 0 _ rfl
    exact this
  obtain ⟨y1, h1⟩ : ∃ y, DataW.trod enc Try.prog w base spare held n 3 (([a, b, c, d].drop 1).take (Try.prog.cellsOf 3)) = some y := by
    have := hf 1 _ rfl
    exact this
  obtain ⟨y2, h2⟩ : ∃ y, DataW.trod enc Try.prog w base spare held n 3 (([a, b, c, d].drop 2).take (Try.prog.cellsOf 3)) = some y := by
    have := hf 2 _ rfl
    exact this
  obtain ⟨y3, h3⟩ : ∃ y, DataW.trod enc Try.prog w base spare held n 4 (([a, b, c, d].drop 3).take (Try.prog.cellsOf 4)) = some y := by
    have := hf 3 _ rfl
    exact this
  rw [hi] at h0 h1 h2
  rw [hb] at h3
  obtain ⟨z0, e0, _, _⟩ := DataW.trod_int Try.underlying3 h0
  obtain ⟨z1, e1, _, _⟩ := DataW.trod_int Try.underlying3 h1
  obtain ⟨z2, e2, _, _⟩ := DataW.trod_int Try.underlying3 h2
  obtain ⟨b3, e3, _⟩ := DataW.trod_bool Try.underlying4 h3
  refine ⟨⟨z0, z1, z2, b3⟩, ?_⟩
  unfold wbC
  simp at e0 e1 e2 e3
  rw [e0, e1, e2, e3]
theorem rdRow_nil {v : Value} (e : v = .slice none 0 0) : RdRow w v 0 [] := ⟨none, 0, e, Nat.le_refl _, Nat.zero_le _, fun _ => rfl, fun ad ha => by cases ha⟩
theorem rdW_of_trod {fuel : Nat} {v : Value} {x : DataW H × List MemPlace} (h : DataW.trod enc Try.prog w base spare held fuel 22 [v] = some x) : ∃ l, RdW w v l := by
  have hc : Try.prog.cellsOf 31 = 4 := by kernel_rfl
  rcases open_slice Try.underlying22 h with ⟨e, _⟩ | ⟨a, len, cap, m, n, D, Pl, e, hb, hl, hm, hmm, _, hx⟩
  · exact ⟨[], rdRow_nil (by simpa using e)⟩
  · rw [hc] at hx
    have e' : v = .slice (some a) len cap := by simpa using e
    have hlm : len ≤ m := by rw [hmm]; split <;> omega
    obtain ⟨R, hR⟩ := choose_lt (α := Wb) (n := len) (p := fun i r => ∀ (j : Nat) u, (wbC r)[j]? = some u → w.cell? ((a.add (i * 4)).add j) = some u) (fun i hi => by
      obtain ⟨cs', h1, h2⟩ := hx i (by omega)
      obtain ⟨h3, h4⟩ := cells_each h1
      obtain ⟨r, rfl⟩ := wb_of_trod h2
      exact ⟨r, h4⟩)
    refine ⟨(List.range len).map R, some a, cap, by simpa using e', by simpa using hl, hm, (fun h => by cases h), fun ad ha j u hu => ?_⟩
    cases ha
    have hj := (List.getElem?_eq_some_iff.1 hu).1
    rw [wbAll_length] at hj
    simp at hj
    have hr : ((List.range len).map R)[j / 4]? = some (R (j / 4)) := by rw [List.getElem?_map, List.getElem?_range (by omega)]; rfl
    have e : j = j / 4 * 4 + j % 4 := by omega
    rw [e, wbAll_at hr (by omega)] at hu
    have := hR (j / 4) (by omega) (j % 4) u hu
    rw [add_add, ← e] at this
    exact this
set_option maxRecDepth 100000 in
/-- What is known of blocks, that comes in. -/
theorem open_wears {v : Value} {d : DataW H} {p : List MemPlace} (hv : Value.okWide Try.prog w .any base 22 v) (h : DataW.Trod enc Try.prog w 0 spare held 22 v d p) : ∃ l, RdW w v l := by
  obtain ⟨a0, len0, cap0, rfl⟩ := okWide_slice Try.underlying22 hv
  obtain ⟨fuel, hf⟩ := h
  exact rdW_of_trod (by simpa [Value.cells] using hf)
end
end Go.Proofs.Ytkpdkpfmljcllaa.Wear
