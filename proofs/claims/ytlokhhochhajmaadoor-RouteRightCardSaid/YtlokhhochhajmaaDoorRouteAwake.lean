/- The fixed answers with which each statement of layer 2 begins: all of them hold. -/
import Derived.Test.YtlokhhochhajmaaDoorReadLine
import Derived.Test.YtlokhhochhajmaaDoorTextLaws
namespace Go.Proofs.YtlokhhochhajmaaDoor
open Go.RowKit Go.Sort
attribute [local go_sem ↓] loadVar_key loadVar_pre storeVar_key storeVar_pre build_pre loadVar_route storeVar_route build_route

theorem route_laid (w : World) (p : Pre) (n : Nat) : (routeStore ⟨w.heap.size, 0, none⟩ (.agg (rc p n))).run Tryd.prog (w.alloc (.cells (rc preZ 0) 28)) = .ok () (w.alloc (.cells (rc p n) 28)) := by
  rw [run_routeStore (heap_alloc_new _ _) (rc_size _ _), World.setRow_alloc_new]
theorem route_laid_load (w : World) (p : Pre) (n : Nat) : (routeLoad ⟨w.heap.size, 0, none⟩).run Tryd.prog (w.alloc (.cells (rc p n) 28)) = .ok (.agg (rc p n)) (w.alloc (.cells (rc p n) 28)) :=
  run_routeLoad (rowAt_new w (rc p n) _)

def lineLit : List UInt8 := [49, 48, 46, 49, 46, 48, 46, 48, 47, 49, 54, 32, 55]
def keyLit : List UInt8 := [50, 48, 48, 49, 48, 100, 98, 56, 48, 48, 48, 48, 48, 48, 48, 48, 48, 48, 48, 48, 48, 48, 48, 48, 48, 48, 48, 48, 48, 48, 48, 49]
def lineKey : Nat → Nat := shortPart (pieces 46 [49, 48, 46, 49, 46, 48, 46, 48]) 4

theorem line_read : readLineT lineLit = some (⟨32, 16, lineKey⟩, 7) := by kernel_rfl
theorem key_read : readKeyT keyLit = some (wideKey keyLit) := by kernel_rfl
theorem key_bits : keyBits keyLit = 128 := by kernel_rfl
theorem key_one : wideKey keyLit 1 = 1 ∧ wideKey keyLit 15 = 1 := by decide +kernel

set_option maxHeartbeats 4000000 in
set_option maxRecDepth 100000 in
theorem awake_any (w : World) (h : Env w) : Calls Tryd.prog 6 #[] w fun e w' => e = .returned (.bool true) ∧ Below w.heap.size w w' := by
  have C1 := readLine_any lineLit w h (by decide)
  unfold readLineV at C1
  rw [if_neg (by decide), line_read] at C1
  unfold lineV at C1
  obtain ⟨hm, hl, _⟩ := line_forth line_read
  have hk : Bytes16 lineKey := shortPart_bytes _ _
  have C2 := fun w (h : Env w) => tellLine_any ⟨32, 16, lineKey⟩ 7 w hk (by decide) h
  unfold lineR at C2
  simp only [hm, if_true, hl] at C2
  have C3 := fun w (h : Env w) => readKey_any keyLit w h (by decide)
  unfold readKeyV at C3
  simp only [show ¬ 60 < keyLit.length by decide, if_false, key_read, key_bits] at C3
  have ht : (bs lineLit).toList = lineLit := by rw [ByteArray.toList_eq, bs_list]
  have hz := zkey_lit
  have hzr := routeZ_lit
  have H1 := Lib.hid C1
  have H2 := Lib.hid C2
  have H3 := Lib.hid C3
  clear C1 C2 C3 hm hl
  generalize lineKey = lk at *
  go_enter Tryd.func6, Tryd.ntmps6
  go_wp2_with fail
  refine H1.out.mono ?_
  rintro e w1 ⟨rfl, h1⟩
  have E1 := (h.stay h1 (Nat.le_refl _)).alloc (.cells (rc ⟨32, 16, lk⟩ 7) 28)
  have S1 := route_laid w1 ⟨32, 16, lk⟩ 7
  have L1 := route_laid_load w1 ⟨32, 16, lk⟩ 7
  have r1 := rowAt_new w1 (rc ⟨32, 16, lk⟩ 7) 28
  have b1 := h1.alloc h1.size (.cells (rc ⟨32, 16, lk⟩ 7) 28)
  have z1 : w1.heap.size < (w1.alloc (.cells (rc ⟨32, 16, lk⟩ 7) 28)).heap.size := by simp
  clear h1 H1 h
  go_wp2_with fail
  clear S1 L1
  generalize w1.alloc (.cells (rc ⟨32, 16, lk⟩ 7) 28) = W1 at *
  generalize w1.heap.size = g at *
  refine (H2.out _ E1).mono ?_
  rintro e w2 ⟨rfl, h2⟩
  have E2 := E1.stay h2 (Nat.le_refl _)
  have r2 := r1.below h2 z1
  have b2 := b1.trans (h2.mono b1.size)
  have z2 := Nat.lt_of_lt_of_le z1 h2.size
  clear E1 r1 b1 z1 h2 H2
  go_wp2_with fail
  refine (H3.out _ E2).mono ?_
  rintro e w3 ⟨rfl, h3⟩
  have r3 := (r2.below h3 z2)
  have S3 := key_laid w3 (wideKey keyLit)
  have k3 := rowAt_new w3 (kc (wideKey keyLit)) 23
  have b3 := b2.trans (h3.mono b2.size)
  have b4 := b3.alloc b3.size (.cells (kc (wideKey keyLit)) 23)
  have r4 := r3.below ((Below.refl _ _).alloc (Nat.le_refl _) (.cells (kc (wideKey keyLit)) 23)) (Nat.lt_of_lt_of_le z2 h3.size)
  clear r2 r3 h3 H3 E2
  have c1 := r4.hop
  have c2 := r4.pre.len
  have c3 := k3 1 _ (kc_at _ 1 (by decide))
  have c4 := k3 15 _ (kc_at _ 15 (by decide))
  rw [key_one.1] at c3
  rw [key_one.2] at c4
  simp only [Nat.zero_add] at c1 c2 c3 c4
  clear k3 r4
  go_wp2
  go_ret
  exact ⟨rfl, b4⟩

end Go.Proofs.YtlokhhochhajmaaDoor
