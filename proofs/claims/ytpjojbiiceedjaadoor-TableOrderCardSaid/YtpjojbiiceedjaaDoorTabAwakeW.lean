/- bywaylaw03.awake hands back true. -/
import Derived.Test.YtpjojbiiceedjaaDoorTabOpen
namespace Go.Proofs.YtpjojbiiceedjaaDoor
open Go.RowKit Go.Sort Go.Shelf
attribute [local go_sem ↓] loadVar_key loadVar_pre loadVar_route storeVar_pre storeVar_route build_pre build_route build_key build_change buildSlice_rows buildSlice_chs

theorem setRow_two (w : World) (c c' : Array Value) (t : TypeId) (o : Obj) : ((w.alloc (.cells c t)).alloc o).setRow w.heap.size c' = (w.alloc (.cells c' t)).alloc o := by
  simp only [World.setRow, World.alloc]
  congr 1
  apply Array.ext_getElem?
  intro i
  rw [Array.getElem?_modify]
  by_cases h : w.heap.size = i
  · subst h
    simp [Array.getElem?_push]
  · have h' : ¬ i = w.heap.size := fun e => h e.symm
    simp [h, h', Array.getElem?_push]
theorem run_preStore_first (p : Pre) (w : World) (o : Obj) (Z : Array Value) (hZ : Z.size = 18) : (preStore ⟨w.heap.size, 0, none⟩ (.agg (pc p))).run Tryd.prog ((w.alloc (.cells Z 29)).alloc o) = .ok () ((w.alloc (.cells (pc p) 29)).alloc o) := by
  have h := run_preStore (p := p) (w := (w.alloc (.cells Z 29)).alloc o) (g := w.heap.size) (by rw [Go.heap_alloc_old _ _ (by simp)]; exact Go.heap_alloc_new w _) hZ
  rw [setRow_two] at h
  exact h
theorem run_preStore_second (p : Pre) (w : World) (o : Obj) (Z : Array Value) (hZ : Z.size = 18) : (preStore ⟨w.heap.size + 1, 0, none⟩ (.agg (pc p))).run Tryd.prog ((w.alloc o).alloc (.cells Z 29)) = .ok () ((w.alloc o).alloc (.cells (pc p) 29)) := by
  have h := run_preStore_new p (w.alloc o) Z hZ
  rw [World.size_alloc] at h
  exact h

set_option maxHeartbeats 600000 in
set_option maxRecDepth 100000 in
theorem awake_any (w : World) : Calls Tryd.prog 4 #[] w fun e w' => e = .returned (.bool true) ∧ Below w.heap.size w w' := by
  have b1 := run_keyA
  have b2 := run_keyB
  have b3 := run_keyC
  have b4 := run_preBuild 32 8 kA
  have b5 := run_preBuild 32 16 kB
  have b6 : ∀ W, (routeBuild #[(0, .agg (pc ⟨32, 16, kB⟩)), (1, .int .u16 2)]).run Tryd.prog W = .ok (.agg (rc rtB)) W := run_routeBuild rtB
  have b7 : ∀ W, (routeBuild #[(0, .agg (pc ⟨32, 8, kA⟩)), (1, .int .u16 1)]).run Tryd.prog W = .ok (.agg (rc rtA)) W := run_routeBuild rtA
  have b8 := run_changeBuild
  have b9 := run_chs2
  have b10 := run_rows2
  have s1 := run_preStore_first ⟨32, 8, kA⟩ w
  have s2 := run_preStore_second ⟨32, 16, kB⟩ w
  have r1 : RowAt ((w.alloc (.cells (pc ⟨32, 8, kA⟩) 29)).alloc (.cells (pc ⟨32, 16, kB⟩) 29)) w.heap.size 0 (pc ⟨32, 8, kA⟩) := (rowAt_new w _ _).below (B := w.heap.size + 1) ((Below.refl _ _).alloc (by simp) _) (by omega)
  have r2 : RowAt ((w.alloc (.cells (pc ⟨32, 8, kA⟩) 29)).alloc (.cells (pc ⟨32, 16, kB⟩) 29)) (w.heap.size + 1) 0 (pc ⟨32, 16, kB⟩) := by
    have := rowAt_new (w.alloc (.cells (pc ⟨32, 8, kA⟩) 29)) (pc ⟨32, 16, kB⟩) 29
    rw [World.size_alloc] at this; exact this
  have l1 := run_preLoad r1
  have l2 := run_preLoad r2
  have hb0 : Below w.heap.size w ((w.alloc (.cells (pc ⟨32, 8, kA⟩) 29)).alloc (.cells (pc ⟨32, 16, kB⟩) 29)) := ((Below.refl _ _).alloc (Nat.le_refl _) _).alloc (by simp) _
  have hz0 : ((w.alloc (.cells (pc ⟨32, 8, kA⟩) 29)).alloc (.cells (pc ⟨32, 16, kB⟩) 29)).heap.size = w.heap.size + 2 := by simp
  have R1 := Lib.hid r1
  have HB0 := Lib.hid hb0
  have HZ0 := Lib.hid hz0
  have c1 := apply_any [] [⟨rtB, false⟩, ⟨rtA, false⟩] (.slice none 0 0) _ _ (.inl ⟨rfl, rfl⟩) (rdC_new ((w.alloc (.cells (pc ⟨32, 8, kA⟩) 29)).alloc (.cells (pc ⟨32, 16, kB⟩) 29)) [⟨rtB, false⟩, ⟨rtA, false⟩] (by decide)) (by decide) (by decide)
  rw [aw_apply] at c1
  simp only [World.size_alloc, List.length_cons, List.length_nil, Nat.zero_add, Nat.reduceAdd] at c1
  have C1 := Lib.hid c1
  have hbx : Below ((w.alloc (.cells (pc ⟨32, 8, kA⟩) 29)).alloc (.cells (pc ⟨32, 16, kB⟩) 29)).heap.size ((w.alloc (.cells (pc ⟨32, 8, kA⟩) 29)).alloc (.cells (pc ⟨32, 16, kB⟩) 29)) (((w.alloc (.cells (pc ⟨32, 8, kA⟩) 29)).alloc (.cells (pc ⟨32, 16, kB⟩) 29)).alloc (.cells (fc [⟨rtB, false⟩, ⟨rtA, false⟩]).toArray 44)) := (Below.refl _ _).alloc (Nat.le_refl _) _
  have T : ∀ W, Below (((w.alloc (.cells (pc ⟨32, 8, kA⟩) 29)).alloc (.cells (pc ⟨32, 16, kB⟩) 29)).alloc (.cells (fc [⟨rtB, false⟩, ⟨rtA, false⟩]).toArray 44)).heap.size (((w.alloc (.cells (pc ⟨32, 8, kA⟩) 29)).alloc (.cells (pc ⟨32, 16, kB⟩) 29)).alloc (.cells (fc [⟨rtB, false⟩, ⟨rtA, false⟩]).toArray 44)) W → (preLoad ⟨w.heap.size, 0, none⟩).run Tryd.prog W = .ok (.agg (pc ⟨32, 8, kA⟩)) W ∧ Below w.heap.size w W := fun W h => by
    have h' := hbx.trans (h.mono (by simp))
    exact ⟨run_preLoad (r1.below h' (by rw [hz0]; omega)), hb0.trans (h'.mono (by rw [hz0]; omega))⟩
  have HT := Lib.hid T
  have HC2 : Hid (∀ (W : World) t, Rd W t [rtA, rtB] → Calls Tryd.prog 11 #[t, .agg (kc kC), .int .i64 32] W (BestPost W (rtB, 0))) := fun W t h => by
    have := best_any [rtA, rtB] kC kC_bytes 32 t W h
    rw [aw_best] at this; exact this
  have HC3 : Hid (∀ (W : World) t, Rd W t [rtA, rtB] → Calls Tryd.prog 12 #[t, .agg (pc ⟨32, 8, kA⟩)] W (GetPost W (1, 0))) := fun W t h => by
    have := get_any [rtA, rtB] ⟨32, 8, kA⟩ kA_bytes t W h
    rw [aw_get] at this; exact this
  have HC4 : Hid (∀ (W : World) t, Rd W t [rtA, rtB] → Calls Tryd.prog 5 #[t] W fun e w' => e = .returned (.bool true) ∧ Below W.heap.size W w') := fun W t h => by
    have := right_any [rtA, rtB] t W h
    rw [aw_right] at this; exact this
  have HC5 : Hid (∀ (W : World) t, Rd W t [rtA, rtB] → Calls Tryd.prog 13 #[t, .agg (pc ⟨32, 8, kA⟩)] W (ListPost W [rtA, rtB])) := fun W t h => by
    have := under_any [rtA, rtB] ⟨32, 8, kA⟩ kA_bytes t W h
    rw [aw_under] at this; exact this
  have HC6 : Hid (∀ W : World, Calls Tryd.prog 8 #[.slice (some ⟨W.heap.size, 0, none⟩) 2 2] (W.alloc (.cells (fl [rtB, rtB]).toArray 32)) (SortPost (W.alloc (.cells (fl [rtB, rtB]).toArray 32)) [rtB, rtB])) := fun W =>
    sort_any [rtB, rtB] _ _ (rd_new W [rtB, rtB] (by decide)) (by decide)
  clear r1 r2 hb0 hz0 c1 hbx T
  go_enter Tryd.func4, Tryd.ntmps4
  go_wp2_with fail
  refine C1.out.mono ?_
  rintro e w1 ⟨t, rfl, ho, h1⟩
  have HO := Lib.hid ho
  have H1 := Lib.hid h1
  have HR := Lib.hid ho.rd
  clear s1 s2 l1 l2 C1 ho h1 b1 b2 b4 b5 b6 b7 b8 b9
  go_wp2_with fail
  refine (HC2.out w1 t HR.out).mono ?_
  rintro e w2 ⟨rfl, h2⟩
  have s3 := run_routeStore_new rtB w2
  have H2 : Hid (Below w1.heap.size w1 (w2.alloc (.cells (rc rtB) 32))) := h2.alloc h2.size _
  have T2 : ∀ W, Below (w2.alloc (.cells (rc rtB) 32)).heap.size (w2.alloc (.cells (rc rtB) 32)) W → (preLoad ⟨w.heap.size, 0, none⟩).run Tryd.prog W = .ok (.agg (pc ⟨32, 8, kA⟩)) W ∧ (routeLoad ⟨w2.heap.size, 0, none⟩).run Tryd.prog W = .ok (.agg (rc rtB)) W ∧ W.cell? ⟨w2.heap.size, 18, none⟩ = some (.int .u16 2) ∧ Rd W t [rtA, rtB] ∧ Below w.heap.size w W := fun W h => by
    have h3 := H2.out.trans (h.mono H2.out.size)
    obtain ⟨g1, g2⟩ := HT.out W (H1.out.trans (h3.mono H1.out.size))
    have hc := (newRoute w2 rtB).below h (by simp)
    refine ⟨g1, run_routeLoad hc, ?_, HR.out.later h3, g2⟩
    have := hc.hop
    rwa [add_here] at this
  have HT2 := Lib.hid T2
  obtain ⟨g1, g2, g3, g4, g5⟩ := T2 _ (Below.refl _ _)
  have G4 := Lib.hid g4
  clear T2 h2 g4 g5
  go_wp2_with fail
  refine (HC3.out _ t G4.out).mono ?_
  rintro e w3 ⟨rfl, h3⟩
  clear g1 g2 g3 s3 G4
  obtain ⟨g1, g2, g3, g4, g5⟩ := HT2.out _ h3
  have H3 := Lib.hid h3
  have G4 := Lib.hid g4
  clear h3 g4 g5
  go_wp2_with fail
  refine (HC4.out _ t G4.out).mono ?_
  rintro e w4 ⟨rfl, h4⟩
  clear g1 g2 g3 G4
  have H4 := Lib.hid (H3.out.trans (h4.mono H3.out.size))
  obtain ⟨g1, g2, g3, g4, g5⟩ := HT2.out _ H4.out
  have G4 := Lib.hid g4
  clear h4 g4 g5 H3
  go_wp2_with fail
  refine (HC5.out _ t G4.out).mono ?_
  rintro e w5 ⟨v5, rfl, ho5, h5⟩
  obtain ⟨a5, c5, hv5, -⟩ := rd_len ho5.rd
  simp only [List.length_cons, List.length_nil, Nat.zero_add, Nat.reduceAdd] at hv5
  subst hv5
  clear g1 g2 g3 G4 ho5
  have H5 := Lib.hid (H4.out.trans (h5.mono H4.out.size))
  obtain ⟨g1, g2, g3, g4, g5⟩ := HT2.out _ H5.out
  clear h5 g4 g5 H4
  go_wp2_with fail
  refine (HC6.out w5).mono ?_
  rintro e w6 ⟨v6, out, rfl, ho6, hs6, h6⟩
  have e6 := aw_sort hs6
  subst e6
  obtain ⟨a6, c6, hv6, -⟩ := rd_len ho6.rd
  simp only [List.length_cons, List.length_nil, Nat.zero_add] at hv6
  subst hv6
  have H6 := Lib.hid (H5.out.trans (((Below.refl _ w5).alloc (Nat.le_refl _) (.cells (fl [rtB, rtB]).toArray 32)).trans (h6.mono (by simp)) |>.mono H5.out.size))
  obtain ⟨-, -, -, -, g5⟩ := HT2.out _ H6.out
  have G5 := Lib.hid g5
  clear g1 g2 g3 ho6 hs6 h6 g5 H6 H5
  go_wp2
  go_ret
  exact ⟨rfl, G5.out⟩
end Go.Proofs.YtpjojbiiceedjaaDoor
