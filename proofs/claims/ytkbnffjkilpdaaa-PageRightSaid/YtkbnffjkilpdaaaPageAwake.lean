/- The fixed answer of layer 7's statements: true. -/
import Derived.Test.YtkbnffjkilpdaaaPageRead
import Derived.Test.YtkbnffjkilpdaaaPageSame
import Derived.Lib.SlBytesConst
namespace Go.Proofs.Ytkbnffjkilpdaaa.Page
open Go.RowKit Go.Sort
attribute [local go_sem ↓] slice_bytes loadVar_page storeVar_page

def aw : Pg := ⟨1, 3, 9, [97, 98, 99]⟩
theorem aw_may : mayB aw (24 : Nat) = true := by decide
set_option maxHeartbeats 4000000 in
set_option maxRecDepth 100000 in
theorem awake_any (w : World) : Calls Try.prog 6 #[] w fun e w' => e = .returned (.bool true) ∧ Below w.heap.size w w' := by
  have hal : ∀ (W : World) o, Below W.heap.size W (W.alloc o) := fun W o => (Below.refl _ _).alloc (Nat.le_refl _) _
  have r0 := rd_new w [97, 98, 99] (3, 4) (by decide)
  have hb0 := hal w (.cells (cellsB [97, 98, 99]).toArray 5 (3, 4))
  have HAL := Lib.hid hal
  have hs1 : (w.alloc (.cells #[.int .u8 97, .int .u8 98, .int .u8 99] 5 (3, 4))).heap.size = w.heap.size + 1 := by simp
  have st1 := store_new (w.alloc (.cells #[.int .u8 97, .int .u8 98, .int .u8 99] 5 (3, 4))) aw (v := .slice (some ⟨w.heap.size, 0, none⟩) 3 3) rfl
  have hx1 := Box.new (w.alloc (.cells #[.int .u8 97, .int .u8 98, .int .u8 99] 5 (3, 4))) (pgC aw (.slice (some ⟨w.heap.size, 0, none⟩) 3 3))
  have hb1 := hal (w.alloc (.cells #[.int .u8 97, .int .u8 98, .int .u8 99] 5 (3, 4))) (.cells (pgC aw (.slice (some ⟨w.heap.size, 0, none⟩) 3 3)) 25)
  rw [hs1] at st1 hx1
  have B2 : Below w.heap.size w ((w.alloc (.cells #[.int .u8 97, .int .u8 98, .int .u8 99] 5 (3, 4))).alloc (.cells (pgC aw (.slice (some ⟨w.heap.size, 0, none⟩) 3 3)) 25)) := hb0.trans (hb1.mono hb0.size)
  have R2 : RdB ((w.alloc (.cells #[.int .u8 97, .int .u8 98, .int .u8 99] 5 (3, 4))).alloc (.cells (pgC aw (.slice (some ⟨w.heap.size, 0, none⟩) 3 3)) 25)) (.slice (some ⟨w.heap.size, 0, none⟩) 3 3) [97, 98, 99] := r0.later hb1
  obtain ⟨W2, hW2⟩ : ∃ W, ((w.alloc (.cells #[.int .u8 97, .int .u8 98, .int .u8 99] 5 (3, 4))).alloc (.cells (pgC aw (.slice (some ⟨w.heap.size, 0, none⟩) 3 3)) 25)) = W := ⟨_, rfl⟩
  rw [hW2] at st1 hx1 B2 R2
  have HB2 := Lib.hid B2
  have HL2 : Hid (∀ W, Below W2.heap.size W2 W → (pageLoad ⟨w.heap.size + 1, 0, none⟩).run Try.prog W = .ok (.agg #[.int .i64 1, .int .i64 3, .int .u64 9, .slice (some ⟨w.heap.size, 0, none⟩) 3 3]) W ∧ RdB W (.slice (some ⟨w.heap.size, 0, none⟩) 3 3) [97, 98, 99] ∧ Below w.heap.size w W) := fun W hW =>
    ⟨(hx1.later hW).load rfl, R2.later hW, B2.trans (hW.mono B2.size)⟩
  have HP : Hid (Calls Try.prog 7 #[.agg #[.int .i64 1, .int .i64 3, .int .u64 9, .slice (some ⟨w.heap.size, 0, none⟩) 3 3], .int .i64 24] W2 fun e w' => ∃ v', e = .returned (.tuple #[v', .int .i64 0]) ∧ OwnB w' W2.heap.size v' (pagePut aw 24) ∧ Below W2.heap.size W2 w') := by
    have := put_yes aw (.slice (some ⟨w.heap.size, 0, none⟩) 3 3) 24 W2 R2 aw_may
    have e1 : putE aw (24 : Nat) = 0 := by unfold putE; rw [aw_may]; rfl
    have e2 : putR aw (24 : Nat) = pagePut aw 24 := by unfold putR; rw [aw_may]; rfl
    unfold PutPost at this
    rw [e1, e2] at this
    exact this
  have HRD : Hid (∀ W v, RdB W v (pagePut aw 24) → Calls Try.prog 9 #[v] W fun e w' => ∃ vb, e = .returned (.tuple #[.agg #[.int .i64 1, .int .i64 3, .int .u64 9, vb], .int .i64 0]) ∧ OwnB w' W.heap.size vb [97, 98, 99] ∧ Below W.heap.size W w') := fun W v h => by
    have := read_any (pagePut aw 24) v W h
    unfold ReadPost at this
    rw [read_put aw_may] at this
    exact this
  have HLEN : Hid ((pagePut aw 24).length = 24) := put_length aw_may
  have HSA : Hid (∀ W u v, RdB W u [97, 98, 99] → RdB W v [97, 98, 99] → Calls Try.prog 11 #[.agg #[.int .i64 1, .int .i64 3, .int .u64 9, u], .agg #[.int .i64 1, .int .i64 3, .int .u64 9, v]] W fun e w' => e = .returned (.bool true) ∧ Below W.heap.size W w') := fun W u v h1 h2 => by
    have := same_any aw aw u v W h1 h2
    rw [same_refl] at this
    exact this
  have HMA : Hid (∀ W u, RdB W u [97, 98, 99] → Calls Try.prog 12 #[.agg #[.int .i64 1, .int .i64 3, .int .u64 9, u], .int .i64 24] W fun e w' => e = .returned (.bool true) ∧ Below W.heap.size W w') := fun W u h1 => by
    have := may_any aw u (24 : Nat) W h1
    rw [aw_may] at this
    exact this
  have HRO : Hid (∀ W, Calls Try.prog 14 #[.int .i64 24] W fun e w' => e = .returned (.int .i64 8) ∧ W = w') := fun W => room_any 24 W
  have HB5 : Hid (∀ W v, RdB W v [255] → Calls Try.prog 16 #[v] W fun e w' => e = .returned (.bool true) ∧ Below W.heap.size W w') := fun W v h => blank_any [255] v W h
  have HBP : Hid (∀ W v, RdB W v (pagePut aw 24) → Calls Try.prog 16 #[v] W fun e w' => e = .returned (.bool false) ∧ Below W.heap.size W w') := fun W v h => by
    have := blank_any (pagePut aw 24) v W h
    rw [put_blank aw_may] at this
    exact this
  have st1' : (pageStore ⟨w.heap.size + 1, 0, none⟩ (.agg #[.int .i64 1, .int .i64 3, .int .u64 9, .slice (some ⟨w.heap.size, 0, none⟩) 3 3])).run Try.prog ((w.alloc (.cells #[.int .u8 97, .int .u8 98, .int .u8 99] 5 (3, 4))).alloc (.cells #[.int .i64 0, .int .i64 0, .int .u64 0, .slice none 0 0] 25)) = .ok () W2 := st1
  obtain ⟨ld2, -, -⟩ := HL2.out W2 (Below.refl _ _)
  obtain ⟨P, hP⟩ : ∃ P, pagePut aw 24 = P := ⟨_, rfl⟩
  rw [hP] at HP HRD HLEN HBP
  have kc := fun (w : World) (C : Array Value) (n c : Nat) => Lib.run_convert_bytes_const (P := Try.prog) w 23 5 C n c Try.underlying23 Try.underlying5
  clear r0 hb0 hs1 st1 hx1 hb1 B2 R2 hW2 hP hal
  go_enter Try.func6, Try.ntmps6
  go_wp2_with fail
  with_reducible refine HP.out.mono ?_
  rintro e w3 ⟨v3, rfl, ho, hb⟩
  have O3 := Lib.hid ho
  have B3 := Lib.hid hb
  have hl3 := ho.rd.len
  rw [HLEN.out] at hl3
  obtain ⟨a3, c3, hv3, -⟩ := hl3
  subst hv3
  clear ho hb ld2 st1' kc
  go_wp2_with fail
  refine (HRD.out w3 _ O3.out.rd).mono ?_
  rintro e w4 ⟨v4, rfl, ho, hb⟩
  have B4 := B3.out.trans (hb.mono B3.out.size)
  have O4 := O3.out.later hb
  have hone := RdB.one ho.rd
  have st5 : (pageStore ⟨w4.heap.size, 0, none⟩ (.agg #[.int .i64 1, .int .i64 3, .int .u64 9, v4])).run Try.prog (w4.alloc (.cells #[.int .i64 0, .int .i64 0, .int .u64 0, .slice none 0 0] 25)) = .ok () (w4.alloc (.cells (pgC aw v4) 25)) := store_new w4 aw hone
  have hb5 := HAL.out w4 (.cells (pgC aw v4) 25)
  have hx5 := Box.new w4 (pgC aw v4)
  have B5 := Lib.hid (B4.trans (hb5.mono B4.size))
  have O5 := Lib.hid (O4.later hb5)
  have V5 := Lib.hid (ho.rd.later hb5)
  obtain ⟨W5, hW5⟩ : ∃ W, w4.alloc (.cells (pgC aw v4) 25) = W := ⟨_, rfl⟩
  rw [hW5] at st5 hx5 B5 O5 V5
  have ld5 : (pageLoad ⟨w4.heap.size, 0, none⟩).run Try.prog W5 = .ok (.agg #[.int .i64 1, .int .i64 3, .int .u64 9, v4]) W5 := hx5.load rfl
  obtain ⟨ld5', r5, -⟩ := HL2.out W5 B5.out
  have HR5 := Lib.hid r5
  clear ho hb B4 O4 hone hb5 hx5 hW5 r5
  go_wp2_with fail
  refine (HSA.out W5 _ _ HR5.out V5.out).mono ?_
  rintro e w6 ⟨rfl, hb⟩
  have B6 := Lib.hid (B5.out.trans (hb.mono B5.out.size))
  have O6 := Lib.hid (O5.out.later hb)
  obtain ⟨ld6, r6, -⟩ := HL2.out w6 B6.out
  have HR6 := Lib.hid r6
  clear hb r6 ld5 ld5'
  go_wp2_with fail
  refine (HMA.out w6 _ HR6.out).mono ?_
  rintro e w7 ⟨rfl, hb⟩
  have B7 := Lib.hid (B6.out.trans (hb.mono B6.out.size))
  have O7 := Lib.hid (O6.out.later hb)
  clear hb ld6
  go_wp2_with fail
  refine (HRO.out w7).mono ?_
  rintro e w8 ⟨rfl, rfl⟩
  have R8 := Lib.hid (rd_new w7 [255] (0, 0) (by decide))
  have hb8 := HAL.out w7 (.cells (cellsB [255]).toArray 5 (0, 0))
  have B8 := Lib.hid (B7.out.trans (hb8.mono B7.out.size))
  have O8 := Lib.hid (O7.out.later hb8)
  clear hb8
  go_wp2_with fail
  refine (HB5.out _ _ R8.out).mono ?_
  rintro e w9 ⟨rfl, hb⟩
  have B9 := Lib.hid (B8.out.trans (hb.mono B8.out.size))
  have O9 := Lib.hid (O8.out.later hb)
  clear hb
  go_wp2_with fail
  refine (HBP.out _ _ O9.out.rd).mono ?_
  rintro e w10 ⟨rfl, hb⟩
  have FIN := Lib.hid (HB2.out.trans ((B9.out.trans (hb.mono B9.out.size)).mono HB2.out.size))
  clear hb
  go_wp2
  go_ret
  exact ⟨rfl, FIN.out⟩
end Go.Proofs.Ytkbnffjkilpdaaa.Page
