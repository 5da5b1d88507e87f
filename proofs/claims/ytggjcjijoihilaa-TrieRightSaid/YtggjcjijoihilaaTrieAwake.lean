/- bywaylaw04.awake hands back true. -/
import Derived.Test.YtggjcjijoihilaaTrieFind
import Derived.Test.YtggjcjijoihilaaTabOpen
namespace Go.Proofs.Ytggjcjijoihilaa
open Go.RowKit Go.Sort Go.Shelf
attribute [local go_sem ↓] loadVar_key loadVar_pre loadVar_route storeVar_pre storeVar_route build_pre build_route build_key buildSlice_row loadVar_trie storeVar_trie

theorem run_trieStore_new (bits : Int) (v : Value) (h1 : v.oneCell' = true) (W : World) (Z : Array Value) (hZ : Z.size = 2) : (trieStore ⟨W.heap.size, 0, none⟩ (.agg (tc bits v))).run Try.prog (W.alloc (.cells Z 52)) = .ok () (W.alloc (.cells (tc bits v) 52)) := by
  have h := run_storeVar_row (P := Try.prog) (W.alloc (.cells Z 52)) W.heap.size 52 52 Z (tc bits v) (Go.heap_alloc_new W _) infoTrie hZ (tc_one bits h1)
  rw [World.setRow_alloc_new] at h
  exact h
theorem stands_of {t : List Rt} {bits : Int} (hr : rightB t = true) (hk : mayB (keysP bits) = true) (hl : (treeL t bits).ws.length ≤ 512) : Stands (treeL t bits) bits :=
  ⟨Tr.adds_ok bits t tr0 tr0_ok, hk, treeL_fit ((right_iff t).1 hr).2 hk, hl⟩
theorem walk_one {T : Tr} {k : Nat → Nat} {m m' : Nat} (h : WalkTo T k m) (h' : WalkTo T k m') : m = m' := by
  rcases Nat.lt_trichotomy m m' with h1 | h1 | h1
  · exact absurd (h'.on (m + 1) (by omega)) h.off
  · exact h1
  · exact absurd (h.on (m' + 1) (by omega)) h'.off

/-! ### The values -/
def kW : Nat → Nat := few [10]
def kW1 : Nat → Nat := few [10, 127]
def kW2 : Nat → Nat := few [10, 128]
def kW3 : Nat → Nat := few [11]
theorem kW_bytes : Bytes16 kW := few_bytes _ (by decide)
theorem kW1_bytes : Bytes16 kW1 := few_bytes _ (by decide)
theorem kW2_bytes : Bytes16 kW2 := few_bytes _ (by decide)
theorem kW3_bytes : Bytes16 kW3 := few_bytes _ (by decide)
def rtW : Rt := ⟨⟨32, 9, kW⟩, 7, kW_bytes, few_out _ (by decide), by decide⟩
def tW : Tr := treeL [rtW] 32
theorem tW_right : rightB [rtW] = true := by kernel_rfl
theorem tW_keys : mayB (keysP 32) = true := by kernel_rfl
theorem tW_ws : tW.ws = [[], [0], [0, 10]] := by kernel_rfl
theorem tW_stands : Stands tW 32 := stands_of tW_right tW_keys (by show tW.ws.length ≤ 512; rw [tW_ws]; decide)
theorem tW_build : buildL [rtW] 32 = (32, tW.nodes, 0) := by
  unfold buildL
  rw [if_pos ⟨tW_right, tW_keys⟩]
  show (if tW.ws.length ≤ 512 then (32, tW.nodes, 0) else (0, [], 5)) = _
  rw [if_pos tW_stands.few]
theorem w1_may : mayB (wholeP kW1 32) = true := by kernel_rfl
theorem w2_may : mayB (wholeP kW2 32) = true := by kernel_rfl
theorem w3_may : mayB (wholeP kW3 32) = true := by kernel_rfl
theorem w1_to : WalkTo tW kW1 2 := ⟨fun s hs => by
  rw [tW_ws]
  have h : s = 0 ∨ s = 1 ∨ s = 2 := by omega
  rcases h with rfl | rfl | rfl <;> decide +kernel, by rw [tW_ws]; decide +kernel⟩
theorem w2_to : WalkTo tW kW2 2 := ⟨fun s hs => by
  rw [tW_ws]
  have h : s = 0 ∨ s = 1 ∨ s = 2 := by omega
  rcases h with rfl | rfl | rfl <;> decide +kernel, by rw [tW_ws]; decide +kernel⟩
theorem w3_to : WalkTo tW kW3 1 := ⟨fun s hs => by
  rw [tW_ws]
  have h : s = 0 ∨ s = 1 := by omega
  rcases h with rfl | rfl <;> decide +kernel, by rw [tW_ws]; decide +kernel⟩
theorem w1_best : foundS (bestS tW kW1 3) = (9, 7, 0) := by kernel_rfl
theorem w2_best : foundS (bestS tW kW2 3) = (0, 0, 6) := by kernel_rfl
theorem tW_deep : deepL tW = 3 := by unfold deepL depths; rw [tW_ws]; rfl

theorem run_keyW (w : World) : (keyBuild #[(0, .int .u8 10)]).run Try.prog w = .ok (.agg (kc kW)) w := by kernel_rfl
theorem run_keyW1 (w : World) : (keyBuild #[(0, .int .u8 10), (1, .int .u8 127)]).run Try.prog w = .ok (.agg (kc kW1)) w := by kernel_rfl
theorem run_keyW2 (w : World) : (keyBuild #[(0, .int .u8 10), (1, .int .u8 128)]).run Try.prog w = .ok (.agg (kc kW2)) w := by kernel_rfl
theorem run_keyW3 (w : World) : (keyBuild #[(0, .int .u8 11)]).run Try.prog w = .ok (.agg (kc kW3)) w := by kernel_rfl

set_option maxHeartbeats 1000000 in
set_option maxRecDepth 100000 in
theorem awake4_any (w : World) : Calls Try.prog 23 #[] w fun e w' => e = .returned (.bool true) ∧ Below w.heap.size w w' := by
  have b1 := run_keyW
  have b2 := run_keyW1
  have b3 := run_keyW2
  have b4 := run_keyW3
  have b5 := run_preBuild 32 9 kW
  have b6 : ∀ W : World, (routeBuild #[(0, .agg (pc ⟨32, 9, kW⟩)), (1, .int .u16 7)]).run Try.prog W = .ok (.agg (rc rtW)) W := run_routeBuild rtW
  have b7 := run_rowBuild rtW w
  have hal : Below w.heap.size w (w.alloc (.cells (rc rtW) 34)) := (Below.refl _ _).alloc (Nat.le_refl _) _
  have hrd : Rd (w.alloc (.cells (rc rtW) 34)) (.slice (some ⟨w.heap.size, 0, none⟩) 1 1) [rtW] := by
    have h := rd_new w [rtW] (by decide)
    rw [fl_one] at h
    exact h
  have C1 := build_any [rtW] 32 (.slice (some ⟨w.heap.size, 0, none⟩) 1 1) _ hrd
  rw [tW_build] at C1
  unfold BuildPost at C1
  have HC1 := Lib.hid C1
  have HAL := Lib.hid hal
  have F1 : Hid (∀ W v base, OwnN W base v tW.nodes → Calls Try.prog 29 #[.agg (tc 32 v), .agg (kc kW1)] W fun e w' => e = .returned (.tuple #[.int .i64 9, .int .u16 7, .int .i64 0]) ∧ Below W.heap.size W w') := fun W v base h => by
    refine (find_any tW 32 tW_stands kW1 kW1_bytes v W base h).mono ?_
    rintro e w' ⟨hb, ⟨hm, -⟩ | ⟨-, m, hw, he⟩⟩
    · rw [w1_may] at hm; cases hm
    · obtain rfl := walk_one hw w1_to
      rw [w1_best] at he
      exact ⟨he, hb⟩
  have F2 : Hid (∀ W v base, OwnN W base v tW.nodes → Calls Try.prog 29 #[.agg (tc 32 v), .agg (kc kW2)] W fun e w' => e = .returned (.tuple #[.int .i64 0, .int .u16 0, .int .i64 6]) ∧ Below W.heap.size W w') := fun W v base h => by
    refine (find_any tW 32 tW_stands kW2 kW2_bytes v W base h).mono ?_
    rintro e w' ⟨hb, ⟨hm, -⟩ | ⟨-, m, hw, he⟩⟩
    · rw [w2_may] at hm; cases hm
    · obtain rfl := walk_one hw w2_to
      rw [w2_best] at he
      exact ⟨he, hb⟩
  have R1 : Hid (∀ W v base, OwnN W base v tW.nodes → Calls Try.prog 28 #[.agg (tc 32 v)] W fun e w' => e = .returned (.bool true) ∧ Below W.heap.size W w') := fun W v base h =>
    tright_any tW 32 tW_stands v W (h.rd (by rw [tW.nodes_length, tW_ws]; decide))
  have D1 : Hid (∀ W v base, OwnN W base v tW.nodes → Calls Try.prog 32 #[.agg (tc 32 v)] W fun e w' => e = .returned (.int .i64 3) ∧ Below W.heap.size W w') := fun W v base h => by
    have := deep_any tW 32 tW_stands v W (h.rd (by rw [tW.nodes_length, tW_ws]; decide))
    rw [tW_deep] at this
    exact this
  have V1 : Hid (∀ W v base, OwnN W base v tW.nodes → Calls Try.prog 31 #[.agg (tc 32 v), .agg (kc kW3)] W fun e w' => (∃ a c, e = .returned (.slice a 2 c)) ∧ Below W.heap.size W w') := fun W v base h => by
    refine (walk_any tW 32 tW_stands kW3 kW3_bytes v W base h).mono ?_
    rintro e w' ⟨hb, ⟨hm, -⟩ | ⟨-, v2, m, he, hw, ho⟩⟩
    · rw [w3_may] at hm; cases hm
    · obtain rfl := walk_one hw w3_to
      obtain ⟨g, c, hv⟩ := ho.form (by rw [wayN_length]; omega)
      rw [wayN_length] at hv
      subst hv
      exact ⟨⟨_, _, he⟩, hb⟩
  clear C1 hal hrd
  go_enter Try.func23, Try.ntmps23
  go_wp2_with fail
  refine HC1.out.mono ?_
  rintro e w1 ⟨v, rfl, ho, h1⟩
  obtain ⟨g, cap, hv, -, -⟩ := ho.form (by rw [tW.nodes_length, tW_ws]; decide)
  rw [tW.nodes_length, tW_ws] at hv
  have hv3 : v = .slice (some ⟨g, 0, none⟩) 3 cap := hv
  subst hv3
  have st := run_trieStore_new 32 (.slice (some ⟨g, 0, none⟩) 3 cap) rfl w1
  have hal1 : Below w1.heap.size w1 (w1.alloc (.cells (tc 32 (.slice (some ⟨g, 0, none⟩) 3 cap)) 52)) := (Below.refl _ _).alloc (Nat.le_refl _) _
  have hbx := Go.heap_alloc_new w1 (.cells (tc 32 (.slice (some ⟨g, 0, none⟩) 3 cap)) 52)
  obtain ⟨w2, hw2⟩ : ∃ w2, w1.alloc (.cells (tc 32 (.slice (some ⟨g, 0, none⟩) 3 cap)) 52) = w2 := ⟨_, rfl⟩
  obtain ⟨b, hb⟩ : ∃ b, w1.heap.size = b := ⟨_, rfl⟩
  have ho2 := ho.later hal1
  rw [hw2] at hal1 hbx ho2 st
  rw [hb] at hbx st
  have hbl := (Array.getElem?_eq_some_iff.1 hbx).1
  have hb1 : Below w.heap.size w w1 := HAL.out.trans (h1.mono HAL.out.size)
  have hb2 : Below w.heap.size w w2 := hb1.trans (hal1.mono hb1.size)
  have HTR : Hid (∀ W, Below w2.heap.size w2 W → (trieLoad ⟨b, 0, none⟩).run Try.prog W = .ok (.agg (tc 32 (.slice (some ⟨g, 0, none⟩) 3 cap))) W ∧ OwnN W (w.alloc (.cells (rc rtW) 34)).heap.size (.slice (some ⟨g, 0, none⟩) 3 cap) tW.nodes ∧ W.cell? ⟨b, 1, none⟩ = some (.slice (some ⟨g, 0, none⟩) 3 cap) ∧ Below w.heap.size w W) := fun W h => by
    have hx := (h.block _ hbl).trans hbx
    exact ⟨run_trieLoad hx, ho2.later h, by rw [cell_of hx]; rfl, hb2.trans (h.mono hb2.size)⟩
  have HW2 := Lib.hid hw2
  have HBB := Lib.hid hb
  clear b1 b5 b6 b7 ho h1 hv hal1 hbx ho2 hbl hb1 hb2
  obtain ⟨l1, -, -, -⟩ := HTR.out w2 (Below.refl _ _)
  go_wp2_with fail
  refine (F1.out w2 _ _ (HTR.out w2 (Below.refl _ _)).2.1).mono ?_
  rintro e w3 ⟨rfl, h3⟩
  have H3 := Lib.hid h3
  obtain ⟨l2, -, -, -⟩ := HTR.out w3 h3
  clear h3 l1
  go_wp2_with fail
  refine (F2.out w3 _ _ (HTR.out w3 H3.out).2.1).mono ?_
  rintro e w4 ⟨rfl, h4⟩
  have H4 := Lib.hid (H3.out.trans (h4.mono H3.out.size))
  obtain ⟨l3, -, c3, -⟩ := HTR.out w4 H4.out
  clear h4 l2
  go_wp2_with fail
  refine (R1.out w4 _ _ (HTR.out w4 H4.out).2.1).mono ?_
  rintro e w5 ⟨rfl, h5⟩
  have H5 := Lib.hid (H4.out.trans (h5.mono H4.out.size))
  obtain ⟨l4, -, -, -⟩ := HTR.out w5 H5.out
  clear h5 l3 c3
  go_wp2_with fail
  refine (D1.out w5 _ _ (HTR.out w5 H5.out).2.1).mono ?_
  rintro e w6 ⟨rfl, h6⟩
  have H6 := Lib.hid (H5.out.trans (h6.mono H5.out.size))
  obtain ⟨l5, -, -, -⟩ := HTR.out w6 H6.out
  clear h6 l4
  go_wp2_with fail
  refine (V1.out w6 _ _ (HTR.out w6 H6.out).2.1).mono ?_
  rintro e w7 ⟨⟨a7, c7, rfl⟩, h7⟩
  have FIN := Lib.hid (HTR.out w7 (H6.out.trans (h7.mono H6.out.size))).2.2.2
  clear h7 l5
  go_wp2
  go_ret
  exact ⟨rfl, FIN.out⟩
end Go.Proofs.Ytggjcjijoihilaa
