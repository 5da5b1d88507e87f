/- trie.Right and trie.Deep of a table's trie. -/
import Derived.Test.YtggjcjijoihilaaTrieSteps
namespace Go.Proofs.Ytggjcjijoihilaa
open Go.RowKit Go.Sort Go.Shelf
attribute [local go_sem ↓] loadVar_trie storeVar_trie

/-- A trie's value whose nodes read so, and which keeps to what a table's does. -/
structure Stands (T : Tr) (bits : Int) : Prop where
  ok : T.Ok
  keys : mayB (keysP bits) = true
  fit : T.Fit (bits.toNat / 4)
  few : T.ws.length ≤ 512

theorem OwnI.form {w : World} {base : Nat} {v : Value} {xs : List Nat} (h : OwnI w base v xs) (hn : 0 < xs.length) : ∃ g cap, v = .slice (some ⟨g, 0, none⟩) xs.length cap := by
  rcases h.2 with ⟨-, h0⟩ | ⟨g, cap, cur, h1, -⟩
  · omega
  · exact ⟨g, cap, h1⟩
theorem depths_length (T : Tr) : (depths T).length = T.ws.length := by simp [depths]

set_option maxHeartbeats 1000000 in
set_option maxRecDepth 100000 in
theorem tright_any (T : Tr) (bits : Int) (hS : Stands T bits) (v : Value) (w : World) (hv : RdN w v T.nodes) :
    Calls Try.prog 28 #[.agg (tc bits v)] w fun e w' => e = .returned (.bool true) ∧ Below w.heap.size w w' := by
  have hb0 : Below w.heap.size w (w.alloc (.cells (tc bits v) 52)) := (Below.refl _ _).alloc (Nat.le_refl _) _
  have hx0 : (w.alloc (.cells (tc bits v) 52)).heap[w.heap.size]? = some (.cells (tc bits v) 52 (0, 0)) := Go.heap_alloc_new w _
  have lt := run_trieLoad hx0
  have C := steps_any T hS.ok bits hS.keys hS.fit hS.few v _ (hv.later hb0)
  obtain ⟨W0, hW0⟩ : ∃ W0, w.alloc (.cells (tc bits v) 52) = W0 := ⟨_, rfl⟩
  rw [hW0] at lt C hb0
  have HC := Lib.hid C
  have HB := Lib.hid hb0
  have hp := hS.ok.pos
  rw [← depths_length] at hp
  have HP := Lib.hid hp
  unfold IntsPost at HC
  clear C hb0 hx0 hv hp hS
  go_enter Try.func28, Try.ntmps28
  go_wp2_with fail
  refine HC.out.mono ?_
  rintro e w1 ⟨vs, rfl, ho, h1⟩
  obtain ⟨g, cap, rfl⟩ := ho.form HP.out
  have HF := Lib.hid (HB.out.trans (h1.mono HB.out.size))
  clear h1 ho
  go_wp2
  go_ret
  exact ⟨rfl, HF.out⟩

def deepL (T : Tr) : Nat := (depths T).foldl max 0
set_option maxHeartbeats 1000000 in
set_option maxRecDepth 100000 in
theorem deep_any (T : Tr) (bits : Int) (hS : Stands T bits) (v : Value) (w : World) (hv : RdN w v T.nodes) :
    Calls Try.prog 32 #[.agg (tc bits v)] w fun e w' => e = .returned (.int .i64 (deepL T : Nat)) ∧ Below w.heap.size w w' := by
  have hb0 : Below w.heap.size w (w.alloc (.cells (tc bits v) 52)) := (Below.refl _ _).alloc (Nat.le_refl _) _
  have hx0 : (w.alloc (.cells (tc bits v) 52)).heap[w.heap.size]? = some (.cells (tc bits v) 52 (0, 0)) := Go.heap_alloc_new w _
  have lt := run_trieLoad hx0
  have C := steps_any T hS.ok bits hS.keys hS.fit hS.few v _ (hv.later hb0)
  obtain ⟨W0, hW0⟩ : ∃ W0, w.alloc (.cells (tc bits v) 52) = W0 := ⟨_, rfl⟩
  rw [hW0] at lt C hb0
  have HC := Lib.hid C
  have HB := Lib.hid hb0
  have hp := hS.ok.pos
  rw [← depths_length] at hp
  have hl := hS.few
  rw [← depths_length] at hl
  obtain ⟨xs, hxs⟩ : ∃ xs, depths T = xs := ⟨_, rfl⟩
  unfold deepL
  rw [hxs] at hp hl HC ⊢
  obtain ⟨n, hn⟩ : ∃ n, xs.length = n := ⟨_, rfl⟩
  have HP := Lib.hid hp
  have HN := Lib.hid hn
  rw [hn] at hl
  have hnI : (n : Int) ≤ 512 := by omega
  unfold IntsPost at HC
  clear C hb0 hx0 hv hp hS hl hn hxs
  go_enter Try.func32, Try.ntmps32
  go_wp2_with fail
  refine HC.out.mono ?_
  rintro e w1 ⟨vs, rfl, ho, h1⟩
  obtain ⟨g, cap, rfl⟩ := ho.form HP.out
  rw [HN.out] at ho
  have HF := Lib.hid (HB.out.trans (h1.mono HB.out.size))
  have HO := Lib.hid ho
  rw [HN.out]
  clear h1 ho
  go_wp2
  go_loopw [3, 5, 9] (fun m _ t9 wr => ∃ i : Nat, i ≤ n ∧ t9 = .int .i64 i ∧ m = .int .i64 ((xs.take i).foldl max 0 : Nat) ∧ wr = w1) (fun _ _ t9 _ => n - (intOf t9).toNat)
  case atStart => exact ⟨0, Nat.zero_le _, rfl, rfl, rfl⟩
  case round =>
    obtain ⟨i, hi, rfl, rfl, rfl⟩ := hrel
    by_cases hlt : i < n
    · have hltI : (i : Int) < n := by omega
      have hi0 : (0 : Int) ≤ i := by omega
      obtain ⟨x, hx⟩ : ∃ x, xs[i]? = some x := ⟨xs[i]'(by rw [HN.out]; exact hlt), List.getElem?_eq_getElem _⟩
      have hc := HO.out.cell HN.out.symm hx
      have hs : (xs.take (i + 1)).foldl max 0 = max ((xs.take i).foldl max 0) x := by rw [List.take_add_one, hx, List.foldl_append]; rfl
      obtain ⟨m, hm⟩ : ∃ m, (xs.take i).foldl max 0 = m := ⟨_, rfl⟩
      rw [hm] at hs ⊢
      have hmax : max (m : Int) (x : Int) = ((max m x : Nat) : Int) := by omega
      have HS := Lib.hid hs
      clear hx hs hm
      go_wp2
      go_roundw
      case rel => exact ⟨i + 1, by omega, by go_num, by rw [HS.out], by first | trivial | rfl⟩
      case measure => simp [intOf]; omega
    · obtain rfl : i = n := by omega
      have hall : xs.take i = xs := List.take_of_length_le (by rw [HN.out]; exact Nat.le_refl _)
      rw [hall]
      clear hall
      go_wp2
      go_ret
      exact ⟨rfl, HF.out⟩
end Go.Proofs.Ytggjcjijoihilaa
