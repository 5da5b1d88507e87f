/- What each walk asks of the world beside its arguments, and the library's functions on texts in plain words. -/
import Derived.Test.YtpjojbiiceedjaaDoorText
import Derived.Test.YtpjojbiiceedjaaDoorKeyBase
import Derived.Test.YtpjojbiiceedjaaDoorShelf
import Derived.Lib.IndexLaws
import Derived.Lib.SmallJoins
namespace Go.Proofs.YtpjojbiiceedjaaDoor.Rr
open Go.RowKit Go.Sort

/-- A text of these bytes. -/
def bs (l : List UInt8) : ByteArray := ⟨l.toArray⟩
theorem bs_list (l : List UInt8) : (bs l).data.toList = l := by simp [bs]
theorem bs_size (l : List UInt8) : (bs l).size = l.length := by simp [bs, ByteArray.size]
theorem bs_of (s : ByteArray) : bs s.data.toList = s := by simp [bs]

/-- The library's two variables that are read: one holds some number, one its table. -/
structure Env (w : World) : Prop where
  max : ∃ m : Int, w.cell? ⟨0, 0, none⟩ = some (.int .i64 m)
  tab : Lib.TabIs Tryd.prog w "internal/strconv.uint64pow10" .u64 Lib.pow10Tab

theorem gTab : Tryd.prog.globalNamed "internal/strconv.uint64pow10" = some 1 := by kernel_rfl

theorem Env.stay {w w' : World} {B : Nat} (h : Env w) (hb : Below B w w') (hB : w.heap.size ≤ B) : Env w' := by
  obtain ⟨m, hm⟩ := h.max
  exact ⟨⟨m, by rw [hb.cell (Nat.lt_of_lt_of_le (block_lt_of_cell hm) hB)]; exact hm⟩, Joins.tab_stays gTab h.tab hb hB⟩

theorem Env.alloc {w : World} (h : Env w) (o : Obj) : Env (w.alloc o) := h.stay ((Below.refl _ _).alloc (Nat.le_refl _) o) (Nat.le_refl _)
theorem Env.regrown {w : World} (h : Env w) (d : Nat) (os : Array Obj) : Env (grow (redrawn w d) os) := h.stay (below_regrown w d os) (Nat.le_refl _)

theorem itoa_any (n : Nat) (hn : n < 9223372036854775808) (w : World) (h : Env w) :
    Calls Tryd.prog 18 #[.int .i64 n] w fun e w' => e = .returned (.string (bs (Lib.decDigits n))) ∧ Below w.heap.size w w' :=
  (Tryd.strconv_Itoa n (by omega) (by omega) w h.tab).mono fun e w' ⟨he, k, os, hw⟩ => by
    refine ⟨?_, ?_⟩
    · rw [he]
      unfold Lib.itoa bs
      rw [if_neg (by omega), Int.toNat_natCast]
    · rw [hw]; exact below_regrown w (w.drawn + k) os

theorem mem_indexByte (c : UInt8) (s : List UInt8) : decide (0 ≤ Lib.indexByte s c) = decide (c ∈ s) := by
  by_cases h : Lib.indexByte s c = -1
  · have hn : c ∉ s := fun hc => by
      obtain ⟨k, hk⟩ := List.mem_iff_getElem?.1 hc
      exact Lib.indexByte_none h k hk
    rw [h]; simp [hn]
  · have hge := Lib.indexByte_ge s c
    obtain ⟨o, ho⟩ : ∃ o : Nat, Lib.indexByte s c = o := ⟨(Lib.indexByte s c).toNat, by omega⟩
    have hm : c ∈ s := List.mem_iff_getElem?.2 ⟨o, (Lib.indexByte_some ho).1⟩
    rw [ho]; simp [hm]

theorem contains_any (s : List UInt8) (c : UInt8) (w : World) :
    Calls Tryd.prog 58 #[.string (bs s), .string (bs [c])] w fun e w' => e = .returned (.bool (decide (c ∈ s))) ∧ w = w' :=
  (Tryd.strings_Contains_one (bs s) c w).mono fun e w' ⟨he, hw⟩ => ⟨by rw [he, bs_list, mem_indexByte], hw.symm⟩

theorem cut_text (s : List UInt8) (c : UInt8) (hs : s.length < 4294967281) (w : World) (h : Env w) :
    Calls Tryd.prog 19 #[.string (bs s), .string (bs [c])] w fun e w' => e = .returned (.tuple #[.string (bs (ahead c s)), .string (bs (behind c s)), .bool (decide (c ∈ s))]) ∧ Below w.heap.size w w' := by
  obtain ⟨m, hm⟩ := h.max
  refine (Tryd.strings_Cut (bs s) (bs [c]) m w (by rw [bs_size]; exact hs) hm).mono fun e w' ⟨he, n, hw⟩ => ⟨?_, ?_⟩
  · rw [he, bs_list, bs_list, cut_is]; rfl
  · rw [hw]
    have := below_regrown w (w.drawn + n) #[]
    rw [grow_empty] at this
    exact this

theorem split_text (s : List UInt8) (c : UInt8) (hs : s.length < 4294967281) (w : World) (h : Env w) :
    Calls Tryd.prog 77 #[.string (bs s), .string (bs [c])] w fun e w' =>
      e = .returned (.slice (some ⟨w.heap.size, 0, none⟩) (pieces c s).length (pieces c s).length) ∧ w' = w.alloc (.cells ((pieces c s).map fun p => Value.string (bs p)).toArray 9) := by
  obtain ⟨m, hm⟩ := h.max
  have e1 : Lib.countB (bs s) (bs [c]) = Lib.count s [c] := by unfold Lib.countB; rw [bs_list, bs_list]
  have e2 : (Lib.splitB (bs [c]) 0 (Lib.count s [c]) (bs s)).map (·.data.toList) = pieces c s := by rw [Lib.splitB_data, bs_list, bs_list, splitK_pieces]
  have e3 : (Lib.splitB (bs [c]) 0 (Lib.count s [c]) (bs s)).map Value.string = (pieces c s).map fun p => Value.string (bs p) := by
    rw [← e2, List.map_map]
    exact List.map_congr_left fun x _ => by simp [bs_of]
  have e4 : (pieces c s).length = Lib.count s [c] + 1 := by rw [pieces_length, Lib.count_one]
  refine (Tryd.strings_Split (bs s) (bs [c]) m w (by rw [bs_size]; exact hs) hm (by rw [bs_size]; simp)).mono fun e w' ⟨he, hw⟩ => ⟨?_, ?_⟩
  · rw [he, e1, e4]
  · rw [hw, e1, e3]

theorem index_any (s : List UInt8) (c : UInt8) (w : World) :
    Calls Tryd.prog 78 #[.string (bs s), .int .u8 c.toNat] w fun e w' => e = .returned (.int .i64 (Lib.indexByte s c)) ∧ w = w' :=
  (Tryd.strings_IndexByte (bs s) c.toNat w).mono fun e w' ⟨he, hw⟩ => ⟨by rw [he, bs_list]; simp, hw.symm⟩

end Go.Proofs.YtpjojbiiceedjaaDoor.Rr
