/- A page that comes in. -/
import Derived.Test.YtjlmkhomedoolaaPageMay
import Derived.Test.YtjlmkhomedoolaaSumArg
import Derived.Deep.Slices
namespace Go.Proofs.Ytjlmkhomedoolaa.Page
open Go.ChangeShapes Go.WideShapes Go.ChangeAt Go.RowKit Go.Deep
section
variable {H : Type} {enc : TypeId × Value → H} {w : World} {base : Nat} {spare : Nat → Bool} {held : Bool}

theorem trod_field {t : TypeId} {fs : Array Field} {fuel : Nat} {cs : List Value} {x : DataW H × List MemPlace} (ht : Try.prog.underlying t = some (.struct fs)) (h : DataW.trod enc Try.prog w base spare held fuel t cs = some x) :
    cs.length = Try.prog.cellsOf t ∧ ∃ n, ∀ (j : Nat) (f : Field), fs[j]? = some f → ∃ y, DataW.trod enc Try.prog w base spare held n f.type ((cs.drop f.offset).take (Try.prog.cellsOf f.type)) = some y := by
  obtain ⟨xs, n, _, rfl, hl, hlen, hf⟩ := DataW.trod_struct ht h
  refine ⟨hl, n, fun j f hj => ?_⟩
  have hjl := (Array.getElem?_eq_some_iff.1 hj).1
  exact ⟨xs[j]'(by omega), (hf j f hj).trans (List.getElem?_eq_getElem _)⟩
theorem rdB_of_trod {fuel : Nat} {v : Value} {x : DataW H × List MemPlace} (h : DataW.trod enc Try.prog w base spare held fuel 29 [v] = some x) : ∃ l : List UInt8, RdB w v l := by
  have hc : Try.prog.cellsOf 5 = 1 := by kernel_rfl
  rcases open_ints Try.underlying29 Try.underlying5 hc h with ⟨e, _⟩ | ⟨a, len, cap, zs, e, hb, hl, hm, hz, _, hcell, hwf⟩
  · have e' : v = .slice none 0 0 := by simpa using e
    exact ⟨[], none, 0, e', Nat.le_refl _, Nat.zero_le _, fun _ => rfl, fun ad ha => by cases ha⟩
  · have e' : v = .slice (some a) len cap := by simpa using e
    have hlz : len ≤ zs.length := by rw [hz]; split <;> omega
    have hlen : ((zs.take len).map fun n => UInt8.ofNat n.toNat).length = len := by rw [List.length_map, List.length_take]; omega
    refine ⟨(zs.take len).map fun n => UInt8.ofNat n.toNat, some a, cap, by rw [hlen]; exact e', by rw [hlen]; exact hl, hm, (fun h => by cases h), fun ad ha j u hu => ?_⟩
    cases ha
    have hj : j < len := by
      have := (List.getElem?_eq_some_iff.1 hu).1
      rw [cellsB_length, hlen] at this; exact this
    have hjz : j < zs.length := by omega
    rw [hcell j hjz, ← hu]
    have hw := bounds_u8 (hwf zs[j] (List.getElem_mem hjz))
    unfold cellsB
    rw [List.map_map, List.getElem?_map, List.getElem?_take_of_lt hj, List.getElem?_eq_getElem hjz, List.getD_eq_getElem?_getD, List.getElem?_eq_getElem hjz]
    show some (Value.int .u8 zs[j]) = some (Value.int .u8 (((UInt8.ofNat zs[j].toNat).toNat : Nat) : Int))
    rw [UInt8.toNat_ofNat']
    have : ((zs[j].toNat % 2 ^ 8 : Nat) : Int) = zs[j] := by omega
    rw [this]
theorem four_list {l : List Value} (h : l.length = 4) : ∃ a b c d, l = [a, b, c, d] := by
  match l, h with
  | [a, b, c, d], _ => exact ⟨a, b, c, d, rfl⟩
set_option maxRecDepth 100000 in
/-- A page that comes in. -/
theorem open_page {v : Value} {d : DataW H} {p : List MemPlace} (hv : Value.okWide Try.prog w .any base 45 v) (h : DataW.Trod enc Try.prog w 0 spare held 45 v d p) : ∃ (q : Pg) (u : Value), v = pgV q u ∧ RdB w u q.body := by
  obtain ⟨cs, rfl, hsz⟩ := okWide_struct Try.underlying45 hv
  obtain ⟨fuel, hf0⟩ := h
  have hi : Try.prog.cellsOf 3 = 1 := by kernel_rfl
  have hg : Try.prog.cellsOf 22 = 1 := by kernel_rfl
  have hu : Try.prog.cellsOf 29 = 1 := by kernel_rfl
  have h4 : Try.prog.cellsOf 45 = 4 := by kernel_rfl
  obtain ⟨hl, n, hf⟩ := trod_field (cs := cs.toList) Try.underlying45 hf0
  rw [h4] at hl
  obtain ⟨a, b, c, e, hcs⟩ := four_list hl
  rw [hcs] at hf
  obtain ⟨y0, h0⟩ : ∃ y, DataW.trod enc Try.prog w 0 spare held n 3 (([a, b, c, e].drop 0).take (Try.prog.cellsOf 3)) = some y := by
    have := hf 0 _ rfl
    exact this
  obtain ⟨y1, h1⟩ : ∃ y, DataW.trod enc Try.prog w 0 spare held n 3 (([a, b, c, e].drop 1).take (Try.prog.cellsOf 3)) = some y := by
    have := hf 1 _ rfl
    exact this
  obtain ⟨y2, h2⟩ : ∃ y, DataW.trod enc Try.prog w 0 spare held n 22 (([a, b, c, e].drop 2).take (Try.prog.cellsOf 22)) = some y := by
    have := hf 2 _ rfl
    exact this
  obtain ⟨y3, h3⟩ : ∃ y, DataW.trod enc Try.prog w 0 spare held n 29 (([a, b, c, e].drop 3).take (Try.prog.cellsOf 29)) = some y := by
    have := hf 3 _ rfl
    exact this
  rw [hi] at h0 h1
  rw [hg] at h2
  rw [hu] at h3
  obtain ⟨z0, e0, _, _⟩ := DataW.trod_int Try.underlying3 h0
  obtain ⟨z1, e1, _, _⟩ := DataW.trod_int Try.underlying3 h1
  obtain ⟨z2, e2, _, w2⟩ := DataW.trod_int Try.underlying22 h2
  obtain ⟨l, k3⟩ := rdB_of_trod (v := e) (by simpa using h3)
  have hz := bounds_u64 w2
  simp at e0 e1 e2
  refine ⟨⟨z0, z1, z2.toNat, l⟩, e, ?_, k3⟩
  have : cs = #[a, b, c, e] := by rw [← Array.toArray_toList (xs := cs), hcs]
  have hn : ((z2.toNat : Nat) : Int) = z2 := by omega
  rw [this, e0, e1, e2]
  unfold pgV pgC
  simp only [hn]
end
end Go.Proofs.Ytjlmkhomedoolaa.Page
