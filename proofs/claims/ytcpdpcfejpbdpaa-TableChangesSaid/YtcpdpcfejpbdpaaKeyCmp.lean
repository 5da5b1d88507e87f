/- bytes.Compare of two keys that lie in memory. -/
import Derived.Test.YtcpdpcfejpbdpaaKeyCov
import Derived.Laws.Externs
namespace Go.Proofs.Ytcpdpcfejpbdpaa
open Go.RowKit Go.Sort

def kbytes (k : Nat → Nat) : ByteArray := ⟨((List.range' 0 16).map fun j => UInt8.ofNat (k j)).toArray⟩

theorem kbytes_size (k : Nat → Nat) : (kbytes k).size = 16 := by simp [kbytes, ByteArray.size]
theorem kbytes_at (k : Nat → Nat) (i : Nat) (h : i < 16) : (kbytes k)[i]! = UInt8.ofNat (k i) := by
  have e : (kbytes k).data[i]? = some (UInt8.ofNat (k i)) := by simp [kbytes, h]
  have hs : i < (kbytes k).size := by rw [kbytes_size]; exact h
  rw [getElem!_pos (kbytes k) i hs]
  have := Array.getElem?_eq_some_iff.1 e
  exact this.2

theorem run_loadBytes {P : Program} {w : World} {b off : Nat} (k : Nat → Nat) : ∀ (n i : Nat) (acc : ByteArray), (∀ j, i ≤ j → j < i + n → w.cell? ⟨b, off + j, none⟩ = some (.int .u8 (k j : Nat))) →
    (Extern.Bytes.loadBytes ⟨b, off + i, none⟩ n acc).run P w = .ok ⟨acc.data ++ ((List.range' i n).map fun j => UInt8.ofNat (k j)).toArray⟩ w
  | 0, i, acc, _ => by simp [Extern.Bytes.loadBytes]
  | n + 1, i, acc, h => by
    have h0 := h i (Nat.le_refl _) (by omega)
    have ih := run_loadBytes (P := P) (w := w) (b := b) (off := off) k n (i + 1) (acc.push (UInt8.ofNat (k i))) (fun j h1 h2 => h j (by omega) (by omega))
    have hadd : (⟨b, off + i, none⟩ : Addr).add 1 = ⟨b, off + (i + 1), none⟩ := by simp [Addr.add, Nat.add_assoc]
    simp only [Extern.Bytes.loadBytes, Sem.run_bind, run_load, h0, Result.andThen, hadd, Int.toNat_natCast, Nat.toUInt8_eq, ih]
    congr 2
    simp [ByteArray.push, List.range'_succ]

theorem run_bytesOf_key {P : Program} {w : World} {b off : Nat} {k : Nat → Nat} (h : RowAt w b off (kc k)) (c : Nat) : (Extern.Bytes.bytesOf (.slice (some ⟨b, off, none⟩) 16 c)).run P w = .ok (kbytes k) w := by
  have := run_loadBytes (P := P) (w := w) (b := b) (off := off) k 16 0 .empty (fun j _ h2 => h j _ (kc_at k j (by omega)))
  simp only [Nat.add_zero] at this
  show (Extern.Bytes.loadBytes ⟨b, off, none⟩ 16 .empty).run P w = _
  rw [this]
  congr 2

def numCmp (a b : Nat → Nat) : Int := if num a < num b then -1 else if num a = num b then 0 else 1

theorem ofNat_ne {x y : Nat} (hx : x < 256) (hy : y < 256) : (UInt8.ofNat x != UInt8.ofNat y) = true ↔ x ≠ y := by
  rw [bne_iff_ne]
  constructor
  · intro h e; exact h (by rw [e])
  · intro h e
    have := congrArg UInt8.toNat e
    simp [Nat.mod_eq_of_lt hx, Nat.mod_eq_of_lt hy] at this
    exact h this

theorem cmp_keys {a b : Nat → Nat} (ha : Bytes16 a) (hb : Bytes16 b) : Extern.BytealgCompare.cmp (kbytes a) (kbytes b) = numCmp a b := by
  unfold Extern.BytealgCompare.cmp numCmp
  rw [kbytes_size, kbytes_size]
  rcases first_byte (a := a) (b := b) with h | ⟨c, h1, h2, h3⟩
  · have hf : (List.range (min 16 16)).find? (fun i => (kbytes a)[i]! != (kbytes b)[i]!) = none := by
      rw [List.find?_eq_none]
      intro i hi
      have hi : i < 16 := by simpa using hi
      rw [kbytes_at a i hi, kbytes_at b i hi, h i hi]; simp
    rw [hf, num_same h]; simp
  · have hf : (List.range (min 16 16)).find? (fun i => (kbytes a)[i]! != (kbytes b)[i]!) = some c := by
      rw [List.find?_range_eq_some]
      refine ⟨?_, by simpa using h1, fun j hj => ?_⟩
      · rw [kbytes_at a c h1, kbytes_at b c h1]; exact (ofNat_ne (ha c) (hb c)).2 h3
      · rw [kbytes_at a j (by omega), kbytes_at b j (by omega), h2 j hj]; simp
    rw [hf]
    simp only [kbytes_at a c h1, kbytes_at b c h1]
    by_cases hl : a c < b c
    · rw [if_pos (num_lt ha c h1 h2 hl), if_pos (by rw [UInt8.lt_iff_toNat_lt]; simpa [Nat.mod_eq_of_lt (ha c), Nat.mod_eq_of_lt (hb c)] using hl)]
    · have hg := num_lt hb c h1 (fun j hj => (h2 j hj).symm) (show b c < a c by omega)
      rw [if_neg (show ¬ UInt8.ofNat (a c) < UInt8.ofNat (b c) by rw [UInt8.lt_iff_toNat_lt]; simpa [Nat.mod_eq_of_lt (ha c), Nat.mod_eq_of_lt (hb c)] using hl), if_neg (show ¬ num a < num b by omega), if_neg (show ¬ num a = num b by omega)]

theorem run_cmp_extern (args : Array Value) (w : World) : (callFunc 59 args).run Try.prog w = ((Extern.BytealgCompare.compare args).run Try.prog w).andThen fun v w' => .ok (.value v) w' :=
  run_callFunc_extern Try.func59 (by kernel_rfl) (by kernel_rfl) (by kernel_rfl) (by kernel_rfl) args w

theorem run_cmp_keys {w : World} {b1 o1 b2 o2 c1 c2 : Nat} {a b : Nat → Nat} (ha : Bytes16 a) (hb : Bytes16 b) (h1 : RowAt w b1 o1 (kc a)) (h2 : RowAt w b2 o2 (kc b)) :
    (callFunc 59 #[.slice (some ⟨b1, o1, none⟩) 16 c1, .slice (some ⟨b2, o2, none⟩) 16 c2]).run Try.prog w = .ok (.value (.int .i64 (numCmp a b))) w := by
  rw [run_cmp_extern]
  have e : (Extern.BytealgCompare.compare #[.slice (some ⟨b1, o1, none⟩) 16 c1, .slice (some ⟨b2, o2, none⟩) 16 c2]).run Try.prog w = .ok (.int .i64 (numCmp a b)) w := by
    change Sem.run Try.prog (do
      let x ← Extern.Bytes.bytesOf (.slice (some ⟨b1, o1, none⟩) 16 c1)
      let y ← Extern.Bytes.bytesOf (.slice (some ⟨b2, o2, none⟩) 16 c2)
      pure (goInt (Extern.BytealgCompare.cmp x y))) w = _
    simp only [Sem.run_bind, run_bytesOf_key h1, run_bytesOf_key h2, Result.andThen_ok, Sem.run_pure, cmp_keys ha hb, goInt]
  rw [e]; rfl

set_option maxHeartbeats 400000 in
set_option maxRecDepth 100000 in
theorem cmp_any {w : World} {b1 o1 b2 o2 c1 c2 : Nat} {a b : Nat → Nat} (ha : Bytes16 a) (hb : Bytes16 b) (h1 : RowAt w b1 o1 (kc a)) (h2 : RowAt w b2 o2 (kc b)) :
    Calls Try.prog 47 #[.slice (some ⟨b1, o1, none⟩) 16 c1, .slice (some ⟨b2, o2, none⟩) 16 c2] w fun e w' => e = .returned (.int .i64 (numCmp a b)) ∧ w = w' := by
  have hd := run_cmp_keys (c1 := c1) (c2 := c2) ha hb h1 h2
  go_enter Try.func47, Try.ntmps47
  go_wp2
  go_ret
  exact ⟨rfl, rfl⟩

end Go.Proofs.Ytcpdpcfejpbdpaa
