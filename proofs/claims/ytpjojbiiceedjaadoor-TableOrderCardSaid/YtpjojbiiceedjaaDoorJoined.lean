/- route.joined: all parts as one text, with what stands between them. -/
import Derived.Test.YtpjojbiiceedjaaDoorEnv
import Derived.Test.YtpjojbiiceedjaaDoorBuilder
import Derived.LoopTactic
namespace Go.Proofs.YtpjojbiiceedjaaDoor.Rr
open Go.RowKit
open Go.Lib hiding intOf

/-- The first i parts as one text. -/
def joinTo (sep : List UInt8) (ps : List (List UInt8)) : Nat → List UInt8
  | 0 => []
  | i + 1 => joinTo sep ps i ++ (if 0 < i then sep else []) ++ ps.getD i []

theorem joinTo_len (sep : List UInt8) (ps : List (List UInt8)) (hs : sep.length ≤ 100) (hp : ∀ p ∈ ps, p.length ≤ 100) : ∀ i, (joinTo sep ps i).length ≤ 200 * i
  | 0 => by simp [joinTo]
  | i + 1 => by
    have ih := joinTo_len sep ps hs hp i
    have h1 : (if 0 < i then sep else []).length ≤ 100 := by split <;> simp [hs]
    have h2 : (ps.getD i []).length ≤ 100 := by
      by_cases h : i < ps.length
      · rw [List.getD_eq_getElem?_getD, List.getElem?_eq_getElem h]; exact hp _ (List.getElem_mem h)
      · rw [List.getD_eq_getElem?_getD, List.getElem?_eq_none (by omega)]; simp
    simp only [joinTo, List.length_append]
    omega

theorem byteCells_append (a b : List UInt8) : byteCells (a ++ b) = byteCells a ++ byteCells b := by simp [byteCells]

set_option maxHeartbeats 2000000 in
set_option maxRecDepth 100000 in
theorem joined_any (sep : List UInt8) (ps : List (List UInt8)) (b cap : Nat) (w : World) (hs : sep.length ≤ 100) (hp : ∀ p ∈ ps, p.length ≤ 100) (hn : ps.length ≤ 100)
    (hc : ∀ i p, ps[i]? = some p → w.cell? ⟨b, i, none⟩ = some (.string (bs p))) :
    Calls Tryd.prog 17 #[.string (bs sep), .slice (some ⟨b, 0, none⟩) ps.length cap] w fun e w' => e = .returned (.string (bs (joinTo sep ps ps.length))) ∧ Below w.heap.size w w' := by
  have fresh := fresh_isBuilder 80 5 w
  have hb0 : Below w.heap.size w (w.alloc (.cells #[.pointer none, .slice none 0 0] 80)) := (Below.refl _ _).alloc (Nat.le_refl _) _
  have hz0 : w.heap.size + 1 ≤ (w.alloc (.cells #[.pointer none, .slice none 0 0] 80)).heap.size := by simp
  obtain ⟨n, hnn⟩ : ∃ n, n = ps.length := ⟨_, rfl⟩
  have hlen := joinTo_len sep ps hs hp
  have HL := Lib.hid hlen
  have HC := Lib.hid hc
  have HN := Lib.hid hnn
  rw [← hnn] at hn ⊢
  clear hlen hc hnn
  have hnI : (n : Int) ≤ 100 := by omega
  go_enter Tryd.func17, Tryd.ntmps17
  go_wp2
  generalize w.alloc (.cells #[.pointer none, .slice none 0 0] 80) = W at *
  go_loopw [10] (fun t wr => ∃ i : Nat, i ≤ n ∧ t = .int .i64 i ∧ IsBuilder 80 5 w.heap.size w.heap.size (byteCells (joinTo sep ps i)) wr ∧ Below w.heap.size w wr ∧ w.heap.size ≤ wr.heap.size) (fun t _ => n - (intOf t).toNat)
  case atStart => exact ⟨0, Nat.zero_le _, rfl, fresh, hb0, by omega⟩
  case round =>
    clear fresh hb0 hz0
    obtain ⟨i, hi, rfl, hbu, hwr, hzr⟩ := hrel
    by_cases hlt : i < n
    · have hlt' : (i : Int) < n := by omega
      obtain ⟨p, hpi⟩ : ∃ p, ps[i]? = some p := ⟨ps[i]'(by rw [← HN.out]; exact hlt), List.getElem?_eq_getElem _⟩
      have hcell := HC.out i p hpi
      have hbp : b < w.heap.size := block_lt_of_cell hcell
      have c1 : wr.cell? ⟨b, i, none⟩ = some (.string (bs p)) := by rw [hwr.cell hbp]; exact hcell
      have hpl : p.length ≤ 100 := hp p (List.mem_of_getElem? hpi)
      have hl := HL.out i
      have hnext : joinTo sep ps (i + 1) = joinTo sep ps i ++ (if 0 < i then sep else []) ++ p := by
        simp only [joinTo]
        rw [List.getD_eq_getElem?_getD, hpi]; rfl
      have HX := Lib.hid hnext
      have HB := Lib.hid hbu
      clear hnext hbu hcell hpi
      by_cases h0 : 0 < i
      · have h0' : (0 : Int) < i := by omega
        rw [if_pos h0] at HX
        go_wp2_with fail
        refine (write_any w.heap.size w.heap.size _ (bs sep) wr HB.out (by rw [byteCells_length, bs_size]; omega) hzr).mono ?_
        rintro e w1 ⟨rfl, hb1, hw1⟩
        have H1 := Lib.hid hb1
        clear hb1
        have c1' : w1.cell? ⟨b, i, none⟩ = some (.string (bs p)) := by rw [hw1.cell hbp]; exact c1
        have hz1 := hw1.size
        clear c1
        go_wp2_with fail
        refine (write_any w.heap.size w.heap.size _ (bs p) w1 (.inr H1.out) (by rw [List.length_append, byteCells_length, strCells_length, bs_size, bs_size]; omega) (by omega)).mono ?_
        rintro e w2 ⟨rfl, hb2, hw2⟩
        have H2 := Lib.hid hb2
        have hz2 := hw2.size
        clear hb2
        go_wp2
        go_roundw
        case rel =>
          refine ⟨i + 1, by omega, by go_num, .inr ?_, hwr.trans (hw1.trans hw2), by omega⟩
          have := H2.out
          rw [HX.out, byteCells_append, byteCells_append]
          exact this
        case measure => simp [intOf]; omega
      · obtain rfl : i = 0 := by omega
        rw [if_neg (by omega)] at HX
        go_wp2_with fail
        refine (write_any w.heap.size w.heap.size _ (bs p) wr HB.out (by rw [byteCells_length, bs_size]; omega) hzr).mono ?_
        rintro e w1 ⟨rfl, hb1, hw1⟩
        have H1 := Lib.hid hb1
        have hz1 := hw1.size
        clear hb1
        go_wp2
        go_roundw
        case rel =>
          refine ⟨1, by omega, by go_num, .inr ?_, hwr.trans hw1, by omega⟩
          have := H1.out
          rw [HX.out, byteCells_append, byteCells_append]
          exact this
        case measure => simp [intOf]; omega
    · obtain rfl : i = n := by omega
      have HB := Lib.hid hbu
      clear hbu
      go_wp2_with fail
      refine (Tryd.Builder_String_any w.heap.size w.heap.size _ wr HB.out hzr).mono ?_
      rintro e w1 ⟨rfl, hw1⟩
      go_wp2
      go_ret
      exact ⟨rfl, hwr.trans hw1⟩

/-- .. of parts that were just laid in a block of their own. -/
theorem joined_new (sep : List UInt8) (ps : List (List UInt8)) (w : World) (hs : sep.length ≤ 100) (hp : ∀ p ∈ ps, p.length ≤ 100) (hn : ps.length ≤ 100) :
    Calls Tryd.prog 17 #[.string (bs sep), .slice (some ⟨w.heap.size, 0, none⟩) ps.length ps.length] (w.alloc (.cells (ps.map fun p => Value.string (bs p)).toArray 9)) fun e w' =>
      e = .returned (.string (bs (joinTo sep ps ps.length))) ∧ Below w.heap.size w w' := by
  have hb : Below w.heap.size w (w.alloc (.cells (ps.map fun p => Value.string (bs p)).toArray 9)) := (Below.refl _ _).alloc (Nat.le_refl _) _
  refine (joined_any sep ps w.heap.size ps.length _ hs hp hn fun i p hi => ?_).mono fun e w' ⟨he, hw⟩ => ⟨he, hb.trans (hw.mono hb.size)⟩
  rw [World.cell?_alloc_at _ _ _ _ rfl]
  simp [hi]

end Go.Proofs.YtpjojbiiceedjaaDoor.Rr
