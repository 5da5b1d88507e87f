/- The fixed answers of layer 5's statements. -/
import Derived.Test.YtbbhjgbpihmphaaSumOpen
import Derived.Lib.SlBytesConst
namespace Go.Proofs.Ytbbhjgbpihmphaa
open Go.RowKit Go.Sort
attribute [local go_sem ↓] slice_bytes text_bytes eq_text ne_text

theorem abc_sum : ofC [49, 50, 51, 52, 53, 54, 55, 56, 57] = 3421780262 := by kernel_rfl
/-- A new row of bytes, marked or not. -/
theorem rd_new (w : World) (l : List UInt8) (fr : Nat × Nat) (hl : l.length ≤ maxLen) : RdB (w.alloc (.cells (cellsB l).toArray 5 fr)) (.slice (some ⟨w.heap.size, 0, none⟩) l.length l.length) l :=
  ⟨_, _, rfl, Nat.le_refl _, hl, (fun h => by cases h), fun ad ha j u hu => by
    cases ha
    rw [add_here, Nat.zero_add, World.cell?_alloc_mark, List.getElem?_toArray]
    exact hu⟩
set_option maxHeartbeats 2000000 in
set_option maxRecDepth 100000 in
theorem awake_any (w : World) : Calls Try.prog 7 #[] w fun e w' => e = .returned (.bool true) ∧ Below w.heap.size w w' := by
  have hal : ∀ (W : World) o, Below W.heap.size W (W.alloc o) := fun W o => (Below.refl _ _).alloc (Nat.le_refl _) _
  have r0 := rd_new w [97, 98, 99] (3, 4) (by decide)
  have HS := Lib.hid (sealed_any [97, 98, 99] _ _ r0 (by decide))
  have HO := fun v W h => Lib.hid (open_any ([97, 98, 99] ++ sealB [97, 98, 99]) v W h (by decide))
  have e1 : openL ([97, 98, 99] ++ sealB [97, 98, 99]) = ([97, 98, 99], 0) := open_sealed _
  rw [e1] at HO
  have HA := Lib.hid (hal w (.cells (cellsB [97, 98, 99]).toArray 5 (3, 4)))
  have HOO := Lib.hid HO
  have HAL := Lib.hid hal
  clear r0 e1 hal HO
  have kc := fun (w : World) (C : Array Value) (n c : Nat) => Lib.run_convert_bytes_const (P := Try.prog) w 22 5 C n c Try.underlying22 Try.underlying5
  go_enter Try.func7, Try.ntmps7
  go_wp2_with fail
  refine HS.out.mono ?_
  rintro e w1 ⟨v1, rfl, ho, hb⟩
  have H1 := Lib.hid (And.intro ho (HA.out.trans (hb.mono HA.out.size)))
  clear ho hb HS
  go_wp2_with fail
  refine (HOO.out v1 w1 H1.out.1.rd).out.mono ?_
  rintro e w2 ⟨v2, rfl, ho, hb⟩
  have H2 := Lib.hid (And.intro ho (H1.out.2.trans (hb.mono H1.out.2.size)))
  clear ho hb H1
  have HA2 := Lib.hid (HAL.out w2 (.cells (cellsB [49, 50, 51, 52, 53, 54, 55, 56, 57]).toArray 5 (9, 10)))
  have HF := Lib.hid (of_any [49, 50, 51, 52, 53, 54, 55, 56, 57] _ _ (rd_new w2 [49, 50, 51, 52, 53, 54, 55, 56, 57] (9, 10) (by decide)))
  rw [abc_sum] at HF
  go_wp2_with fail
  refine HF.out.mono ?_
  rintro e w3 ⟨rfl, rfl⟩
  have B3 := Lib.hid (H2.out.2.trans (HA2.out.mono H2.out.2.size))
  have tx := run_text (H2.out.1.rd.later HA2.out)
  have tq : ∀ W, (textEq (.string (bs [97, 98, 99])) (.string { data := #[97, 98, 99] })).run Try.prog W = .ok (.bool true) W := fun W => by
    have h := run_textEq [97, 98, 99] [97, 98, 99] W
    rw [decide_eq_true rfl] at h
    exact h
  have HP : Hid (∀ W, Calls Try.prog 13 #[.int .u64 258, .int .i64 2] W fun e w' => ∃ v', e = .returned v' ∧ OwnB w' W.heap.size v' [1, 2] ∧ Below W.heap.size W w') := fun W => by
    have := put_any 258 2 W
    rwa [show putL 258 2 = [1, 2] by decide] at this
  clear kc
  go_wp2_with fail
  refine (HP.out _).mono ?_
  rintro e w4 ⟨v4, rfl, ho, hb⟩
  have H4 := Lib.hid (And.intro ho (B3.out.trans (hb.mono B3.out.size)))
  clear ho hb
  have HG := Lib.hid (get_any [1, 2] v4 w4 H4.out.1.rd)
  rw [show getB [1, 2] = 258 by decide] at HG
  go_wp2_with fail
  refine HG.out.mono ?_
  rintro e w5 ⟨rfl, rfl⟩
  go_wp2
  go_ret
  exact ⟨rfl, H4.out.2⟩
end Go.Proofs.Ytbbhjgbpihmphaa
