/- Bytes that come in as a slice; a number that comes in. -/
import Derived.Test.YtjlmkhomedoolaaSumBase
import Derived.ChangeSlices
import Derived.ProofKit
import Derived.OpenShut
import Derived.Deep.Slices
namespace Go.Proofs.Ytjlmkhomedoolaa
open Go.ChangeShapes Go.WideShapes Go.ChangeAt Go.RowKit

theorem nat_u8 {n : Int} (h : (Lit.int .u8 n).wf = true) : ∃ m : Nat, n = m ∧ m < 256 := ⟨n.toNat, by have := bounds_u8 h; omega⟩
theorem nat_u16 {n : Int} (h : (Lit.int .u16 n).wf = true) : ∃ m : Nat, n = m ∧ m < 65536 := ⟨n.toNat, by have := bounds_u16 h; omega⟩
theorem nat_u32 {n : Int} (h : (Lit.int .u32 n).wf = true) : ∃ m : Nat, n = m ∧ m < 4294967296 := ⟨n.toNat, by have := bounds_u32 h; omega⟩
theorem nat_u64 {n : Int} (h : (Lit.int .u64 n).wf = true) : ∃ m : Nat, n = m ∧ m < 18446744073709551616 := ⟨n.toNat, by have := bounds_u64 h; omega⟩
variable {H : Type} {enc : TypeId × Value → H} {w : World} {base : Nat} {spare : Nat → Bool} {held : Bool}
set_option maxRecDepth 100000 in
theorem open_bys {v : Value} {d : DataW H} {p : List MemPlace} (hv : Value.okWide Try.prog w .any base 29 v) (h : DataW.Trod enc Try.prog w 0 spare held 29 v d p) : ∃ l : List UInt8, RdB w v l := by
  obtain ⟨a0, len0, cap0, rfl⟩ := okWide_slice Try.underlying29 hv
  have hc : Try.prog.cellsOf 5 = 1 := by kernel_rfl
  obtain ⟨fuel, hf⟩ := h
  rcases open_ints Try.underlying29 Try.underlying5 hc hf with ⟨e, _⟩ | ⟨a, len, cap, zs, e, hb, hl, hm, hz, _, hcell, hwf⟩
  · have e' : (Value.slice a0 len0 cap0) = .slice none 0 0 := by simpa [Value.cells] using e
    exact ⟨[], none, 0, e', Nat.le_refl _, Nat.zero_le _, fun _ => rfl, fun ad ha => by cases ha⟩
  · have e' : (Value.slice a0 len0 cap0) = .slice (some a) len cap := by simpa [Value.cells] using e
    have hlz : len ≤ zs.length := by rw [hz]; split <;> omega
    have hlen : ((zs.take len).map fun n => UInt8.ofNat n.toNat).length = len := by rw [List.length_map, List.length_take]; omega
    refine ⟨(zs.take len).map fun n => UInt8.ofNat n.toNat, some a, cap, by rw [hlen]; exact e', by rw [hlen]; exact hl, hm, (fun h => by cases h), fun ad ha j u hu => ?_⟩
    cases ha
    have hj : j < len := by
      have := (List.getElem?_eq_some_iff.1 hu).1
      rw [cellsB_length, hlen] at this; exact this
    have hjz : j < zs.length := by omega
    rw [hcell j hjz, ← hu]
    have hw := bounds_u8 (hwf zs[j] (List.getElem_mem hjz))
    unfold cellsB
    rw [List.map_map, List.getElem?_map, List.getElem?_take_of_lt hj, List.getElem?_eq_getElem hjz, List.getD_eq_getElem?_getD, List.getElem?_eq_getElem hjz]
    show some (Value.int .u8 zs[j]) = some (Value.int .u8 (((UInt8.ofNat zs[j].toNat).toNat : Nat) : Int))
    rw [UInt8.toNat_ofNat']
    have : ((zs[j].toNat % 2 ^ 8 : Nat) : Int) = zs[j] := by omega
    rw [this]
end Go.Proofs.Ytjlmkhomedoolaa
