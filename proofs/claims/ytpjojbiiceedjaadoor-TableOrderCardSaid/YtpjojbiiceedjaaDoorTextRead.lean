/- What texts are read as: keys of both kinds, prefixes, routes. Nothing of the program is named but how a key lies in cells. -/
import Derived.Test.YtpjojbiiceedjaaDoorText
import Derived.Lib.IndexLaws
namespace Go.Proofs.YtpjojbiiceedjaaDoor.Rr
open Go.Lib

def hexD (d : Nat) : UInt8 := if d < 10 then UInt8.ofNat (48 + d) else UInt8.ofNat (87 + d)
def sixteen : List UInt8 := [48, 49, 50, 51, 52, 53, 54, 55, 56, 57, 97, 98, 99, 100, 101, 102]
/-- What a sign of sixteen is worth; -1: it is none. -/
def hexV (c : UInt8) : Int := indexByte sixteen c
def hexN (c : UInt8) : Nat := (hexV c).toNat

theorem hexV_all : ∀ n : Fin 256, -1 ≤ hexV (UInt8.ofNat n.val) ∧ hexV (UInt8.ofNat n.val) < 16 ∧ (0 ≤ hexV (UInt8.ofNat n.val) → hexD (hexV (UInt8.ofNat n.val)).toNat = UInt8.ofNat n.val ∧ UInt8.ofNat n.val ≠ 46 ∧ UInt8.ofNat n.val ≠ 47 ∧ UInt8.ofNat n.val ≠ 32) := by decide +kernel
theorem hexV_is (c : UInt8) : -1 ≤ hexV c ∧ hexV c < 16 ∧ (0 ≤ hexV c → hexD (hexV c).toNat = c ∧ c ≠ 46 ∧ c ≠ 47 ∧ c ≠ 32) := by
  have := hexV_all ⟨c.toNat, c.toNat_lt⟩
  simpa using this
theorem hexN_lt (c : UInt8) : hexN c < 16 := by
  have := hexV_is c
  unfold hexN; omega
theorem hexD_back : ∀ d : Fin 16, hexV (hexD d.val) = (d.val : Int) ∧ hexD d.val ≠ 46 ∧ hexD d.val ≠ 47 ∧ hexD d.val ≠ 32 := by decide +kernel

/-- All up to a number. -/
def upTo (n : Nat) (f : Nat → Bool) : Bool := (List.range n).all f
theorem upTo_iff {n : Nat} {f : Nat → Bool} : upTo n f = true ↔ ∀ j, j < n → f j = true := by simp [upTo]

/-! ### Keys of four bytes -/

def shortVal (ps : List (List UInt8)) (j : Nat) : Nat := (readNum 255 (ps.getD j [])).getD 0
def shortIs (ps : List (List UInt8)) (j : Nat) : Bool := (readNum 255 (ps.getD j [])).isSome
/-- The key of which so many bytes were read. -/
def shortPart (ps : List (List UInt8)) (i : Nat) : Nat → Nat := fun j => if j < i then shortVal ps j else 0
def readShort (s : List UInt8) : Option (Nat → Nat) := if (pieces 46 s).length = 4 ∧ upTo 4 (shortIs (pieces 46 s)) = true then some (shortPart (pieces 46 s) 4) else none

theorem shortVal_lt (ps : List (List UInt8)) (j : Nat) : shortVal ps j < 256 := by
  unfold shortVal
  cases h : readNum 255 (ps.getD j []) with
  | none => simp
  | some n => have := (readNum_is h).2; simp; omega
theorem shortPart_bytes (ps : List (List UInt8)) (i : Nat) : Bytes16 (shortPart ps i) := fun j => by
  unfold shortPart
  split
  · exact shortVal_lt ps j
  · decide
theorem shortIs_val {ps : List (List UInt8)} {j : Nat} (h : shortIs ps j = true) : readNum 255 (ps.getD j []) = some (shortVal ps j) := by
  unfold shortIs at h
  unfold shortVal
  cases e : readNum 255 (ps.getD j []) with
  | none => rw [e] at h; cases h
  | some n => rfl

/-! ### Keys of sixteen bytes -/

def wideHalf (s : List UInt8) (j : Nat) : Nat := hexN (s.getD j 0)
def wideIs (s : List UInt8) (j : Nat) : Bool := decide (0 ≤ hexV (s.getD j 0))
/-- The key of which so many digits were read. -/
def widePart (s : List UInt8) (i : Nat) : Nat → Nat := fun j => if 2 * j + 1 < i then 16 * wideHalf s (2 * j) + wideHalf s (2 * j + 1) else if 2 * j < i then wideHalf s (2 * j) else 0
def wideKey (s : List UInt8) : Nat → Nat := fun j => if j < 16 then widePart s 32 j else 0
def readWide (s : List UInt8) : Option (Nat → Nat) := if s.length = 32 ∧ upTo 32 (wideIs s) = true then some (wideKey s) else none

theorem widePart_bytes (s : List UInt8) (i : Nat) : Bytes16 (widePart s i) := fun j => by
  have h1 := hexN_lt (s.getD (2 * j) 0)
  have h2 := hexN_lt (s.getD (2 * j + 1) 0)
  unfold widePart wideHalf
  split
  · omega
  · split <;> omega
theorem wideKey_bytes (s : List UInt8) : Bytes16 (wideKey s) := fun j => by
  unfold wideKey
  split
  · exact widePart_bytes s 32 j
  · decide

/-! ### Both -/

def readKeyT (s : List UInt8) : Option (Nat → Nat) := if 46 ∈ s then readShort s else readWide s
def keyBits (s : List UInt8) : Int := if 46 ∈ s then 32 else 128

theorem readShort_bytes {s : List UInt8} {k : Nat → Nat} (h : readShort s = some k) : Bytes16 k := by
  unfold readShort at h
  split at h
  · cases h; exact shortPart_bytes _ _
  · cases h
theorem readWide_bytes {s : List UInt8} {k : Nat → Nat} (h : readWide s = some k) : Bytes16 k := by
  unfold readWide at h
  split at h
  · cases h; exact wideKey_bytes _
  · cases h
theorem readKeyT_bytes {s : List UInt8} {k : Nat → Nat} (h : readKeyT s = some k) : Bytes16 k := by
  unfold readKeyT at h
  split at h
  · exact readShort_bytes h
  · exact readWide_bytes h

/-- A prefix as read: its key, and how long. -/
def readPreT (s : List UInt8) : Option Pre := match readKeyT (ahead 47 s), readNum (keyBits (ahead 47 s)).toNat (behind 47 s) with
  | some k, some n => if mayB ⟨keyBits (ahead 47 s), n, k⟩ = true then some ⟨keyBits (ahead 47 s), n, k⟩ else none
  | _, _ => none
def readLineT (s : List UInt8) : Option (Pre × Nat) := match readPreT (ahead 32 s), readNum 65535 (behind 32 s) with
  | some p, some n => some (p, n)
  | _, _ => none

theorem readPreT_of {s : List UInt8} {p : Pre} (h : readPreT s = some p) : ∃ k n, readKeyT (ahead 47 s) = some k ∧ readNum (keyBits (ahead 47 s)).toNat (behind 47 s) = some n ∧ p = ⟨keyBits (ahead 47 s), n, k⟩ ∧ mayB p = true := by
  unfold readPreT at h
  split at h
  · rename_i k n e1 e2
    split at h
    · rename_i hm; cases h; exact ⟨k, n, e1, e2, rfl, hm⟩
    · cases h
  · cases h
theorem readPreT_bytes {s : List UInt8} {p : Pre} (h : readPreT s = some p) : Bytes16 p.key := by
  obtain ⟨k, n, h1, _, rfl, _⟩ := readPreT_of h
  exact readKeyT_bytes h1
theorem readLineT_of {s : List UInt8} {p : Pre} {n : Nat} (h : readLineT s = some (p, n)) : readPreT (ahead 32 s) = some p ∧ readNum 65535 (behind 32 s) = some n := by
  unfold readLineT at h
  split at h
  · rename_i p' n' e1 e2; cases h; exact ⟨e1, e2⟩
  · cases h

end Go.Proofs.YtpjojbiiceedjaaDoor.Rr
