/- A route that comes in: its cells, its numbers. -/
import Derived.Test.YtlokhhochhajmaaDoorTellB
import Derived.Test.YtlokhhochhajmaaDoorKeyOpen
namespace Go.Proofs.YtlokhhochhajmaaDoor
open Go.ChangeShapes Go.WideShapes Go.ChangeAt Go.RowKit Go.Deep

section
variable {H : Type} {enc : TypeId × Value → H} {w : World} {base : Nat} {spare : Nat → Bool} {held : Bool}

set_option maxRecDepth 100000 in
theorem pre_of_trod {fuel : Nat} {cs : List Value} {x : DataW H × List MemPlace} (hl : cs.length = 18) (h : DataW.trod enc Tryd.prog w base spare held fuel 25 cs = some x) : ∃ q, Bytes16 q.key ∧ I64 q.bits ∧ I64 q.len ∧ cs = (pc q).toList := by
  have hc3 : Tryd.prog.cellsOf 3 = 1 := by kernel_rfl
  have hck : Tryd.prog.cellsOf 23 = 16 := by kernel_rfl
  obtain ⟨y0, y1, y2, n, _, _, h0, h1, h2⟩ := trod_struct3 Tryd.underlying25 h
  simp only at h0 h1 h2
  rw [hc3] at h0 h1
  rw [hck] at h2
  obtain ⟨b, e0, _, w0⟩ := DataW.trod_int Tryd.underlying3 h0
  obtain ⟨l, e1, _, w1⟩ := DataW.trod_int Tryd.underlying3 h1
  obtain ⟨k, hk, e2⟩ := key_of_trod (by simp; omega) h2
  refine ⟨⟨b, l, k⟩, hk, bounds_i64 w0, bounds_i64 w1, ?_⟩
  unfold pc
  match cs, hl with
  | c0 :: c1 :: r, hs =>
    simp at e0 e1 e2
    have hr : r.length = 16 := by simpa using hs
    rw [List.take_of_length_le (by omega)] at e2
    rw [e0, e1, e2]

set_option maxRecDepth 100000 in
theorem open_route {v : Value} {d : DataW H} {p : List MemPlace} (hv : Value.okWide Tryd.prog w .any base 28 v) (h : DataW.Trod enc Tryd.prog w 0 spare held 28 v d p) : ∃ q n, Bytes16 q.key ∧ I64 q.bits ∧ I64 q.len ∧ n < 65536 ∧ v = .agg (rc q n) := by
  obtain ⟨cs, rfl, hsz⟩ := okWide_struct Tryd.underlying28 hv
  have hc : Tryd.prog.cellsOf 28 = 19 := by kernel_rfl
  have hcp : Tryd.prog.cellsOf 25 = 18 := by kernel_rfl
  have hch : Tryd.prog.cellsOf 26 = 1 := by kernel_rfl
  rw [hc] at hsz
  obtain ⟨cs⟩ := cs
  obtain ⟨fuel, hf⟩ := h
  obtain ⟨y0, y1, n, _, _, h0, h1⟩ := trod_struct2 Tryd.underlying28 hf
  simp only [Value.cells] at h0 h1
  rw [hcp] at h0
  rw [hch] at h1
  have hsz : cs.length = 19 := hsz
  obtain ⟨q, g1, g2, g3, g4⟩ := pre_of_trod (by simp; omega) h0
  obtain ⟨m, e1, _, w1⟩ := DataW.trod_int Tryd.underlying26 h1
  have hb := bounds_u16 w1
  refine ⟨q, m.toNat, g1, g2, g3, by omega, ?_⟩
  congr 1
  apply Array.ext_getElem?
  intro i
  simp only [List.drop_zero] at g4
  by_cases h : i < 18
  · rw [rc_pre _ _ _ h]
    have e : (pc q)[i]? = (List.take 18 cs)[i]? := by rw [g4, Array.getElem?_toList]
    rw [e, List.getElem?_take, if_pos h]; simp
  · by_cases h2 : i = 18
    · subst h2
      rw [rc_hop, Int.toNat_of_nonneg hb.1]
      have : ((cs.drop 18).take 1)[0]? = cs[18]? := by simp
      simp only [List.getElem?_toArray]
      rw [← this, e1]; rfl
    · have e : (rc q m.toNat)[i]? = none := Array.getElem?_eq_none (by rw [rc_size]; omega)
      rw [e]
      simp only [List.getElem?_toArray]
      exact List.getElem?_eq_none (by omega)
end
end Go.Proofs.YtlokhhochhajmaaDoor
