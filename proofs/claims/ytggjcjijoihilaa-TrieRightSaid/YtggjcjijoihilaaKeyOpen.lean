/- A key, or a prefix, that comes in: its cells, its numbers. -/
import Derived.Test.YtggjcjijoihilaaKeyBase
import Derived.ProofKit
import Derived.OpenShut
import Derived.Lib.SmallJoins
import Derived.Deep.Strs
namespace Go.Proofs.Ytggjcjijoihilaa
open Go.ChangeShapes Go.WideShapes Go.ChangeAt Go.RowKit Go.Deep

section
variable {H : Type} {enc : TypeId × Value → H} {w : World} {base : Nat} {spare : Nat → Bool} {held : Bool}

set_option maxRecDepth 100000 in
theorem key_of_trod {fuel : Nat} {cs : List Value} {x : DataW H × List MemPlace} (hl : cs.length = 16) (h : DataW.trod enc Try.prog w base spare held fuel 24 cs = some x) : ∃ k, Bytes16 k ∧ cs = kl k := by
  obtain ⟨xs, m, _, _, _, hn, hx⟩ := DataW.trod_array Try.underlying24 h
  have hc : Try.prog.cellsOf 5 = 1 := by kernel_rfl
  have hi : ∀ i, i < 16 → ∃ n : Nat, cs[i]? = some (.int .u8 (n : Int)) ∧ n < 256 := by
    intro i hi
    have h1 := hx i hi
    rw [hc, Nat.mul_one, List.getElem?_eq_getElem (by omega)] at h1
    obtain ⟨n, e1, _, e2⟩ := DataW.trod_int Try.underlying5 h1
    have e3 : cs[i]? = some (.int .u8 n) := by
      have : ((cs.drop i).take 1)[0]? = cs[i]? := by simp
      rw [← this, e1]; rfl
    have e4 := bounds_u8 e2
    exact ⟨n.toNat, by rw [e3, Int.toNat_of_nonneg e4.1], by omega⟩
  refine ⟨fun i => if i < 16 then (intOf (cs[i]?.getD undef)).toNat else 0, fun i => ?_, ?_⟩
  · by_cases h2 : i < 16
    · obtain ⟨n, e, h3⟩ := hi i h2
      simp [h2, e, intOf, h3]
    · simp [h2]
  · apply List.ext_getElem?
    intro i
    by_cases h2 : i < 16
    · obtain ⟨n, e, h3⟩ := hi i h2
      rw [kl_at _ i h2, e]
      simp [h2, intOf]
    · rw [List.getElem?_eq_none (by omega), List.getElem?_eq_none (by simp [kl]; omega)]

set_option maxRecDepth 100000 in
theorem open_key {v : Value} {d : DataW H} {p : List MemPlace} (hv : Value.okWide Try.prog w .any base 24 v) (h : DataW.Trod enc Try.prog w 0 spare held 24 v d p) : ∃ k, Bytes16 k ∧ v = .agg (kc k) := by
  obtain ⟨cs, rfl, hsz, _⟩ : ∃ cs, v = .agg cs ∧ cs.size = Try.prog.cellsOf 24 ∧ Row.okWide Try.prog w .any base 24 cs := by
    simpa [Value.okWide, Try.underlying24] using hv
  have hc : Try.prog.cellsOf 24 = 16 := by kernel_rfl
  obtain ⟨fuel, hf⟩ := h
  obtain ⟨k, h1, h2⟩ := key_of_trod (by simpa [Value.cells, hc] using hsz) hf
  exact ⟨k, h1, by rw [kc, ← h2]; rfl⟩

def I64 (n : Int) : Prop := -9223372036854775808 ≤ n ∧ n ≤ 9223372036854775807

set_option maxRecDepth 100000 in
theorem open_pre {v : Value} {d : DataW H} {p : List MemPlace} (hv : Value.okWide Try.prog w .any base 26 v) (h : DataW.Trod enc Try.prog w 0 spare held 26 v d p) : ∃ q, Bytes16 q.key ∧ I64 q.bits ∧ I64 q.len ∧ v = .agg (pc q) := by
  obtain ⟨cs, rfl, hsz⟩ := okWide_struct Try.underlying26 hv
  have hc : Try.prog.cellsOf 26 = 18 := by kernel_rfl
  have hc3 : Try.prog.cellsOf 3 = 1 := by kernel_rfl
  have hck : Try.prog.cellsOf 24 = 16 := by kernel_rfl
  rw [hc] at hsz
  obtain ⟨cs⟩ := cs
  obtain ⟨fuel, hf⟩ := h
  obtain ⟨y0, y1, y2, n, _, _, h0, h1, h2⟩ := trod_struct3 Try.underlying26 hf
  simp only [Value.cells] at h0 h1 h2
  rw [hc3] at h0 h1
  rw [hck] at h2
  obtain ⟨b, e0, _, w0⟩ := DataW.trod_int Try.underlying3 h0
  obtain ⟨l, e1, _, w1⟩ := DataW.trod_int Try.underlying3 h1
  have hsz : cs.length = 18 := hsz
  obtain ⟨k, hk, e2⟩ := key_of_trod (by simp; omega) h2
  refine ⟨⟨b, l, k⟩, hk, bounds_i64 w0, bounds_i64 w1, ?_⟩
  unfold pc
  congr 2
  match cs, hsz with
  | c0 :: c1 :: r, hs =>
    simp at e0 e1 e2
    have hr : r.length = 16 := by simpa using hs
    rw [List.take_of_length_le (by omega)] at e2
    rw [e0, e1, e2]
end
end Go.Proofs.Ytggjcjijoihilaa
