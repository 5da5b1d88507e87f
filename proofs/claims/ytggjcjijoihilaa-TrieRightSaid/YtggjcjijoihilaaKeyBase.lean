/- Keys and prefixes as values: their cells, a load of all of them, an equality of two. Whether two keys, or two prefixes, are the same, as the program asks it. A small fact on what is handed back. -/
import Derived.Test.YtggjcjijoihilaaRows
import Derived.Test.YtggjcjijoihilaaPure
import Derived.WalkKit
import Derived.WalkSpells
import Derived.WalkLawsBesides
import Derived.BigQuiet
import Derived.Lib.QuietBelow
import Derived.Lib.Hide
import Derived.ChangeKeysEq
namespace Go.Proofs.Ytggjcjijoihilaa
open Go.RowKit Go.Sort

def kl (k : Nat → Nat) : List Value := (List.range 16).map fun i => Value.int .u8 (k i : Nat)
def kc (k : Nat → Nat) : Array Value := (kl k).toArray
def pc (p : Pre) : Array Value := (Value.int .i64 p.bits :: Value.int .i64 p.len :: kl p.key).toArray

theorem kl_at (k : Nat → Nat) (i : Nat) (h : i < 16) : (kl k)[i]? = some (.int .u8 (k i : Nat)) := by simp [kl, h]
theorem kc_at (k : Nat → Nat) (i : Nat) (h : i < 16) : (kc k)[i]? = some (.int .u8 (k i : Nat)) := by simpa [kc] using kl_at k i h
theorem kc_size (k : Nat → Nat) : (kc k).size = 16 := by simp [kc, kl]
theorem pc_size (p : Pre) : (pc p).size = 18 := by simp [pc, kl]
theorem pc_bits (p : Pre) : (pc p)[0]? = some (.int .i64 p.bits) := rfl
theorem pc_len (p : Pre) : (pc p)[1]? = some (.int .i64 p.len) := rfl
theorem pc_at (p : Pre) (i : Nat) (h : i < 16) : (pc p)[2 + i]? = some (.int .u8 (p.key i : Nat)) := by
  have : (pc p)[2 + i]? = (kl p.key)[i]? := by simp [pc, Nat.add_comm 2 i]
  rw [this]; exact kl_at _ _ h
theorem kc_ext {a b : Nat → Nat} (h : ∀ i, i < 16 → a i = b i) : kc a = kc b := by
  unfold kc kl
  congr 1
  exact List.map_congr_left fun i hi => by rw [h i (by simpa using hi)]

/-- A row of cells that lies in memory from a place on. -/
def RowAt (w : World) (b off : Nat) (cs : Array Value) : Prop := ∀ j v, cs[j]? = some v → w.cell? ⟨b, off + j, none⟩ = some v

theorem rowAt_new (w : World) (cs : Array Value) (t : TypeId) : RowAt (w.alloc (.cells cs t)) w.heap.size 0 cs := fun j v h => by
  rw [World.cell?_alloc_at _ _ _ _ rfl]; simpa using h
theorem RowAt.below {w w' : World} {b off : Nat} {cs : Array Value} {B : Nat} (h : RowAt w b off cs) (hb : Below B w w') (hB : b < B) : RowAt w' b off cs := fun j v hv => by
  rw [hb.cell (p := ⟨b, off + j, none⟩) hB]; exact h j v hv
theorem RowAt.key {w : World} {b off : Nat} {p : Pre} (h : RowAt w b off (pc p)) : RowAt w b (off + 2) (kc p.key) := fun j v hv => by
  have hj : j < 16 := by
    by_cases e : j < 16
    · exact e
    · rw [Array.getElem?_eq_none (by rw [kc_size]; omega)] at hv; exact absurd hv (by simp)
  rw [kc_at _ _ hj] at hv
  have := h (2 + j) v (by rw [pc_at _ _ hj]; exact hv)
  rwa [show off + (2 + j) = off + 2 + j by omega] at this

/-- All cells of an array or a struct, loaded. -/
theorem run_load_cells {P : Program} {w : World} {T b off : Nat} {cs : Array Value} {d : TypeDesc} (hu : P.underlying T = some d) (hd : (match d with | .struct _ | .array _ _ => true | _ => false) = true)
    (hi : (P.info? T).map (·.size) = some cs.size) (h : RowAt w b off cs) : (loadVar T ⟨b, off, none⟩).run P w = .ok (.agg cs) w := by
  have hl : (loadCells ⟨b, off, none⟩ cs.toList.length).run P w = .ok cs.toList.toArray w :=
    run_loadCells_list (P := P) w ⟨b, off, none⟩ cs.toList (fun j v hv => by
      have hadd : (⟨b, off, none⟩ : Addr).add j = ⟨b, off + j, none⟩ := by unfold Addr.add; split <;> simp_all
      rw [hadd]; exact h j v (by simpa using hv))
  cases hq : P.info? T with
  | none => simp [hq] at hi
  | some i =>
    have hs : i.size = cs.size := by simpa [hq] using hi
    have hagg : (isAgg T).run P w = .ok true w := by
      unfold isAgg
      rw [Sem.run_bind, run_underlying hu w]
      cases d <;> simp_all
    simp only [Array.length_toList, Array.toArray_toList] at hl
    simp [loadVar, Sem.run_bind, hagg, sizeOf, typeInfo, hq, hs, hl]

/-- A load of a whole key, of a whole prefix: behind names, so that the walk meets them by a fact. -/
def keyLoad (a : Addr) : Sem Value := loadVar 24 a
def preLoad (a : Addr) : Sem Value := loadVar 26 a
theorem loadVar_key (a : Addr) : loadVar 24 a = keyLoad a := rfl
theorem loadVar_pre (a : Addr) : loadVar 26 a = preLoad a := rfl

theorem infoKey : (Try.prog.info? 24).map (·.size) = some 16 := by kernel_rfl
theorem infoPre : (Try.prog.info? 26).map (·.size) = some 18 := by kernel_rfl

theorem run_keyLoad {w : World} {b off : Nat} {k : Nat → Nat} (h : RowAt w b off (kc k)) : (keyLoad ⟨b, off, none⟩).run Try.prog w = .ok (.agg (kc k)) w :=
  run_load_cells Try.underlying24 rfl (by rw [kc_size]; exact infoKey) h
theorem run_preLoad {w : World} {b off : Nat} {p : Pre} (h : RowAt w b off (pc p)) : (preLoad ⟨b, off, none⟩).run Try.prog w = .ok (.agg (pc p)) w :=
  run_load_cells Try.underlying26 rfl (by rw [pc_size]; exact infoPre) h

theorem rowAt_regrown {w : World} {b off : Nat} {cs : Array Value} (h : RowAt w b off cs) (d : Nat) (os : Array Obj) : RowAt (grow (redrawn w d) os) b off cs :=
  fun j v hv => cell_regrown (h j v hv) d os

end Go.Proofs.Ytggjcjijoihilaa
namespace Go.Proofs.Ytggjcjijoihilaa
open Go.RowKit Go.Sort

theorem eqItems_keys (d : Nat) (a b : Nat → Nat) (w : World) : ∀ is : List Nat, (∀ i, i ∈ is → i < 16) →
    (Op.eqItems (d + 1) 5 1 (kc a) (kc b) is).run Try.prog w = .ok (is.all fun i => a i == b i) w
  | [], _ => by simp [Op.eqItems]
  | i :: is, h => by
    have hp : ∀ k : Nat → Nat, (part 5 (kc k) (i * 1)).run Try.prog w = .ok (.int .u8 (k i : Nat)) w := fun k => by
      have := kc_at k i (h i (by simp))
      simp [part, isAgg, go_sem, this]
    have he : (Op.equalIn (d + 1) 5 (.int .u8 (a i : Nat)) (.int .u8 (b i : Nat))).run Try.prog w = .ok (((a i : Nat) : Int) == ((b i : Nat) : Int)) w := run_equalIn_int w d 5 .u8 .u8 _ _ Try.underlying5
    have ih := eqItems_keys d a b w is fun j hj => h j (by simp [hj])
    simp only [Op.eqItems, Sem.run_bind, hp, Result.andThen_ok, he]
    by_cases e : a i = b i
    · simp [e, ih]
    · have e2 : (((a i : Nat) : Int) == ((b i : Nat) : Int)) = false := by rw [beq_eq_false_iff_ne]; omega
      have e3 : (a i == b i) = false := by simpa using e
      rw [e2]; simp [e3]

theorem infoByte : ∃ i, Try.prog.info? 5 = some i ∧ Try.prog.cellsOf 5 = 1 := by
  have h : (Try.prog.info? 5).isSome = true := by kernel_rfl
  obtain ⟨i, hi⟩ := Option.isSome_iff_exists.1 h
  exact ⟨i, hi, by kernel_rfl⟩

theorem run_eqKey (d : Nat) (a b : Nat → Nat) (w : World) : (Op.equalIn (d + 2) 24 (.agg (kc a)) (.agg (kc b))).run Try.prog w = .ok (keyEq a b) w := by
  obtain ⟨i, hi, hc⟩ := infoByte
  rw [run_equalIn_array w (d + 1) (kc a) (kc b) Try.underlying24 hi, hc, eqItems_keys d a b w _ fun i h => by simpa using h]
  rfl

theorem run_eqKey_top (a b : Nat → Nat) (w : World) : (Op.equalIn 10000 24 (.agg (kc a)) (.agg (kc b))).run Try.prog w = .ok (keyEq a b) w := run_eqKey 9998 a b w

end Go.Proofs.Ytggjcjijoihilaa
namespace Go.Proofs.Ytggjcjijoihilaa
open Go.RowKit Go.Sort

theorem ret_int {k : IntKind} {a b : Int} (h : a = b) : Ending.returned (.int k a) = .returned (.int k b) := by rw [h]

end Go.Proofs.Ytggjcjijoihilaa
