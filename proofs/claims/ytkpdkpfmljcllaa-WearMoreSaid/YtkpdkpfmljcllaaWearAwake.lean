/- awake, of layer 9: it is. -/
import Derived.Test.YtkpdkpfmljcllaaWearSpr
namespace Go.Proofs.Ytkpdkpfmljcllaa.Wear
open Go.RowKit Go.Sort Go.Shelf
def wbBuild (parts : Array (Nat × Value)) : Sem Value := Instr.build 31 parts
theorem build_wb (parts : Array (Nat × Value)) : Instr.build 31 parts = wbBuild parts := rfl
attribute [local go_sem ↓] loadVar_wb storeVar_wb loadVar_bl storeVar_bl build_bl build_wb

def four : List Wb := [⟨0, 2, 3, false⟩, ⟨0, 2, 2, false⟩, ⟨1, 2, 9, false⟩, ⟨1, 1, 0, false⟩]
theorem b0 (w : World) : (wbBuild #[(1, .int .i64 2), (2, .int .i64 3)]).run Try.prog w = .ok (wbV ⟨0, 2, 3, false⟩) w := by kernel_rfl
theorem b1 (w : World) : (wbBuild #[(1, .int .i64 2), (2, .int .i64 2)]).run Try.prog w = .ok (wbV ⟨0, 2, 2, false⟩) w := by kernel_rfl
theorem b2 (w : World) : (wbBuild #[(0, .int .i64 1), (1, .int .i64 2), (2, .int .i64 9)]).run Try.prog w = .ok (wbV ⟨1, 2, 9, false⟩) w := by kernel_rfl
theorem b3 (w : World) : (wbBuild #[(1, .int .i64 1), (0, .int .i64 1)]).run Try.prog w = .ok (wbV ⟨1, 1, 0, false⟩) w := by kernel_rfl

set_option maxHeartbeats 2000000 in
set_option maxRecDepth 100000 in
theorem awake_any (w : World) : Calls Try.prog 6 #[] w fun e w' => e = .returned (.bool true) ∧ Below w.heap.size w w' := by
  have f0 := fun w => b0 w
  have f1 := fun w => b1 w
  have f2 := fun w => b2 w
  have f3 := fun w => b3 w
  dsimp only [wbV] at f0 f1 f2 f3
  go_enter Try.func6, Try.ntmps6
  go_upto_region 2 with fail
  obtain ⟨W, hW⟩ : ∃ W, W = w.alloc (.cells (wbAll four).toArray 31) := ⟨_, rfl⟩
  have HB : Hid (Below w.heap.size w W) := by rw [hW]; exact below1 w _
  have HR : Hid (RdW W (.slice (some ⟨w.heap.size, 0, none⟩) 4 4) four) := by
    rw [hW]
    refine ⟨some ⟨w.heap.size, 0, none⟩, 4, rfl, Nat.le_refl _, by unfold maxLen; omega, (fun h => by cases h), fun ad ha j u hu => ?_⟩
    cases ha
    rw [add_here, Nat.zero_add, World.cell?_alloc_at _ _ _ _ rfl]
    simpa using hu
  have hW' : W = w.alloc (.cells #[.int .i64 0, .int .i64 2, .int .i64 3, .bool false, .int .i64 0, .int .i64 2, .int .i64 2, .bool false, .int .i64 1, .int .i64 2, .int .i64 9, .bool false, .int .i64 1, .int .i64 1, .int .i64 0, .bool false] 31) := hW
  rw [← hW']
  clear hW hW' f0 f1 f2 f3
  have CD : Hid (∀ W', Below W.heap.size W W' → Calls Try.prog 8 #[.slice (some ⟨w.heap.size, 0, none⟩) 4 4, .int .i64 2] W' fun e w' => e = .returned (.tuple #[.int .i64 1, .bool true]) ∧ Below W.heap.size W w') := fun W' h =>
    (deadP_any four _ 2 W' (HR.out.later h)).mono fun e w' ⟨he, hb⟩ => ⟨he, h.trans (hb.mono h.size)⟩
  have CV : Hid (∀ W', Below W.heap.size W W' → Calls Try.prog 9 #[.slice (some ⟨w.heap.size, 0, none⟩) 4 4, .int .i64 2] W' fun e w' => e = .returned (.tuple #[.int .i64 2, .bool true]) ∧ Below W.heap.size W w') := fun W' h =>
    (victim_any four _ 2 W' (HR.out.later h)).mono fun e w' ⟨he, hb⟩ => ⟨he, h.trans (hb.mono h.size)⟩
  have CF : Hid (∀ W', Below W.heap.size W W' → Calls Try.prog 7 #[.slice (some ⟨w.heap.size, 0, none⟩) 4 4, .int .i64 2] W' fun e w' => e = .returned (.tuple #[.int .i64 3, .bool true]) ∧ Below W.heap.size W w') := fun W' h =>
    (front_any four _ 2 W' (HR.out.later h)).mono fun e w' ⟨he, hb⟩ => ⟨he, h.trans (hb.mono h.size)⟩
  have CR : Hid (∀ W', Below W.heap.size W W' → Calls Try.prog 11 #[.slice (some ⟨w.heap.size, 0, none⟩) 4 4, .int .i64 2] W' fun e w' => e = .returned (.bool true) ∧ Below W.heap.size W w') := fun W' h =>
    (right_any four _ 2 W' (HR.out.later h)).mono fun e w' ⟨he, hb⟩ => ⟨he, h.trans (hb.mono h.size)⟩
  have CO : Hid (∀ W', Below W.heap.size W W' → Calls Try.prog 13 #[.slice (some ⟨w.heap.size, 0, none⟩) 4 4, .int .i64 2] W' fun e w' => e = .returned (.int .i64 5) ∧ Below W.heap.size W w') := fun W' h =>
    (room_any four _ 2 W' (HR.out.later h)).mono fun e w' ⟨he, hb⟩ => ⟨he, h.trans (hb.mono h.size)⟩
  have CS : Hid (∀ W', Below W.heap.size W W' → Calls Try.prog 15 #[.slice (some ⟨w.heap.size, 0, none⟩) 4 4] W' fun e w' => e = .returned (.int .i64 9) ∧ Below W.heap.size W w') := fun W' h =>
    (spread_any four _ W' (HR.out.later h)).mono fun e w' ⟨he, hb⟩ => ⟨he, h.trans (hb.mono h.size)⟩
  clear HR
  go_wp2_with fail
  refine (CD.out _ (Below.refl _ _)).mono ?_
  rintro e w1 ⟨rfl, h1⟩
  have H1 := Lib.hid h1
  clear h1
  go_wp2_with fail
  refine (CV.out _ H1.out).mono ?_
  rintro e w2 ⟨rfl, h2⟩
  have H2 := Lib.hid h2
  clear h2
  go_wp2_with fail
  refine (CF.out _ H2.out).mono ?_
  rintro e w3 ⟨rfl, h3⟩
  have H3 := Lib.hid h3
  clear h3
  go_wp2_with fail
  refine (CR.out _ H3.out).mono ?_
  rintro e w4 ⟨rfl, h4⟩
  have H4 := Lib.hid h4
  clear h4
  go_wp2_with fail
  refine (CO.out _ H4.out).mono ?_
  rintro e w5 ⟨rfl, h5⟩
  have H5 := Lib.hid h5
  clear h5
  go_wp2_with fail
  refine (CS.out _ H5.out).mono ?_
  rintro e w6 ⟨rfl, h6⟩
  have H6 := Lib.hid (HB.out.trans (h6.mono HB.out.size))
  clear h6
  go_wp2
  go_ret
  exact ⟨rfl, H6.out⟩
end Go.Proofs.Ytkpdkpfmljcllaa.Wear
