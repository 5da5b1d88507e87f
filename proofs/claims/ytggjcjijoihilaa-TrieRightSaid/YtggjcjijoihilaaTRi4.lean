/- The statement TrieRight, walked: every call of it hands back true. -/
import Derived.Test.YtggjcjijoihilaaTRightB
namespace Go.Proofs.Ytggjcjijoihilaa.trieRight
open Go.RowKit Go.Sort Go.Shelf
attribute [local go_sem ↓] loadVar_trie storeVar_trie

theorem build_zero {l : List Rt} {bits : Int} (h : (buildL l bits).2.2 = 0) : rightB l = true ∧ mayB (keysP bits) = true ∧ (treeL l bits).ws.length ≤ 512 ∧ buildL l bits = (bits, (treeL l bits).nodes, 0) := by
  unfold buildL at h ⊢
  by_cases h1 : rightB l = true ∧ mayB (keysP bits) = true
  · rw [if_pos h1] at h ⊢
    by_cases h2 : (treeL l bits).ws.length ≤ 512
    · rw [if_pos h2]; exact ⟨h1.1, h1.2, h2, rfl⟩
    · rw [if_neg h2] at h; simp at h
  · rw [if_neg h1] at h; simp at h
theorem build_few (l : List Rt) (bits : Int) : (buildL l bits).2.1.length ≤ 512 := by
  unfold buildL
  split
  · split
    · rename_i h; show (treeL l bits).nodes.length ≤ 512; rw [Tr.nodes_length]; exact h
    · simp
  · simp
theorem run_trieStore_new (bits : Int) (v : Value) (h1 : v.oneCell' = true) (W : World) : (trieStore ⟨W.heap.size, 0, none⟩ (.agg (tc bits v))).run Try.prog (W.alloc (.cells #[.int .i64 0, .slice none 0 0] 52)) = .ok () (W.alloc (.cells (tc bits v) 52)) := by
  have h := run_trieStore (W := W.alloc (.cells (tc 0 (.slice none 0 0)) 52)) (b2 := bits) (v2 := v) (Go.heap_alloc_new W _) h1
  rw [World.setRow_alloc_new] at h
  exact h

set_option maxHeartbeats 2000000 in
set_option maxRecDepth 100000 in
theorem walk (t : List Rt) (bits : Int) (a : Option Addr) (n cap : Nat) (w : World) (hR : Rd w (.slice a n cap) t) (hn : n = t.length) (hl : t.length ≤ 40) :
    Calls Try.prog 4 #[.slice a n cap, .int .i64 bits] w fun e w' => e = .returned (.bool true) ∧ Below w.heap.size w w' := by
  have H1 := Lib.hid (awake4_any w)
  have H2 : Hid (∀ W, Calls Try.prog 24 #[.slice a n cap] W fun e w' => e = .returned (.bool true) ∧ W = w') := fun W => by
    have := few_any a n cap W
    rw [decide_eq_true (show (n : Int) ≤ 40 by omega)] at this
    exact this
  have HFW := Lib.hid (build_few t bits)
  have HBZ := Lib.hid (build_zero (l := t) (bits := bits))
  have H3 : Hid (∀ W, Below w.heap.size w W → Calls Try.prog 25 #[.slice a n cap, .int .i64 bits] W (BuildPost W (buildL t bits))) := fun W h => build_any t bits _ W (hR.later h)
  have H4 : Hid (∀ W, Below w.heap.size w W → Calls Try.prog 26 #[.slice a n cap, .int .i64 bits] W (BuildPost W (buildL t bits))) := fun W h => rbuild_any t hl bits _ W (hR.later h)
  clear hR hn hl
  obtain ⟨bx, ns, ex, hx⟩ : ∃ bx ns ex, buildL t bits = (bx, ns, ex) := ⟨_, _, _, rfl⟩
  rw [hx] at H3 H4 HFW HBZ
  unfold BuildPost at H3 H4
  have HX := Lib.hid hx
  clear hx
  go_enter Try.func4, Try.ntmps4
  go_wp2_with fail
  refine H1.out.mono ?_
  rintro e1 w1 ⟨rfl, h1⟩
  have B1 := Lib.hid h1
  clear h1
  go_wp2_with fail
  refine (H2.out w1).mono ?_
  rintro e2 w2 ⟨rfl, rfl⟩
  go_wp2_with fail
  refine (H3.out w1 B1.out).mono ?_
  rintro e3 w3 ⟨va, rfl, oa, h3⟩
  have B3 := Lib.hid (B1.out.trans (h3.mono B1.out.size))
  have OA := Lib.hid oa
  have sa := run_trieStore_new bx va oa.one w3
  have ha : Below w3.heap.size w3 (w3.alloc (.cells (tc bx va) 52)) := (Below.refl _ _).alloc (Nat.le_refl _) _
  have xa : (w3.alloc (.cells (tc bx va) 52)).heap[w3.heap.size]? = some (.cells (tc bx va) 52 (0, 0)) := Go.heap_alloc_new w3 _
  obtain ⟨w4, hw4⟩ : ∃ w4, w3.alloc (.cells (tc bx va) 52) = w4 := ⟨_, rfl⟩
  rw [hw4] at sa ha xa
  have B4 := Lib.hid (B3.out.trans (ha.mono B3.out.size))
  have OA4 := Lib.hid (OA.out.later ha)
  have XA := Lib.hid xa
  clear h3 oa ha xa hw4
  go_wp2_with fail
  refine (H4.out w4 B4.out).mono ?_
  rintro e5 w5 ⟨vb, rfl, ob, h5⟩
  have B5 := Lib.hid (B4.out.trans (h5.mono B4.out.size))
  have OB := Lib.hid ob
  have OA5 := Lib.hid (OA4.out.later h5)
  have XA5 : Hid (w5.heap[w3.heap.size]? = some (.cells (tc bx va) 52 (0, 0))) := (h5.block _ (Array.getElem?_eq_some_iff.1 XA.out).1).trans XA.out
  have sb := run_trieStore_new bx vb ob.one w5
  have hb : Below w5.heap.size w5 (w5.alloc (.cells (tc bx vb) 52)) := (Below.refl _ _).alloc (Nat.le_refl _) _
  have xb : (w5.alloc (.cells (tc bx vb) 52)).heap[w5.heap.size]? = some (.cells (tc bx vb) 52 (0, 0)) := Go.heap_alloc_new w5 _
  obtain ⟨w6, hw6⟩ : ∃ w6, w5.alloc (.cells (tc bx vb) 52) = w6 := ⟨_, rfl⟩
  rw [hw6] at sb hb xb
  have B6 := Lib.hid (B5.out.trans (hb.mono B5.out.size))
  have OA6 := Lib.hid (OA5.out.later hb)
  have OB6 := Lib.hid (OB.out.later hb)
  have XA6 : Hid (w6.heap[w3.heap.size]? = some (.cells (tc bx va) 52 (0, 0))) := (hb.block _ (Array.getElem?_eq_some_iff.1 XA5.out).1).trans XA5.out
  have la := run_trieLoad XA6.out
  have lb := run_trieLoad xb
  have H5 := Lib.hid (tsame_yes ns bx va vb w6 OA6.out.rdz OB6.out.rdz HFW.out)
  clear h5 ob hb xb hw6 sa
  by_cases he : ex = 0
  · have HR : Hid (∀ W, Below w6.heap.size w6 W → (trieLoad ⟨w3.heap.size, 0, none⟩).run Try.prog W = .ok (.agg (tc bx va)) W ∧ Calls Try.prog 28 #[.agg (tc bx va)] W fun e w' => e = .returned (.bool true) ∧ Below W.heap.size W w') := fun W h => by
      obtain ⟨z1, z2, z3, z4⟩ := HBZ.out he
      have h7 := OA6.out.later h
      have e2 := z4
      simp only [Prod.mk.injEq] at e2
      obtain ⟨e3, e4, -⟩ := e2
      refine ⟨run_trieLoad ((h.block _ (Array.getElem?_eq_some_iff.1 XA6.out).1).trans XA6.out), ?_⟩
      have hS := stands_of z1 z2 z3
      rw [e4] at h7
      rw [e3]
      exact tright_any (treeL t bits) bits hS va W (h7.rd (by rw [Tr.nodes_length]; exact hS.1.pos))
    subst he
    go_wp2_with fail
    refine H5.out.mono ?_
    rintro e7 w7 ⟨rfl, h7⟩
    have B7 := Lib.hid (B6.out.trans (h7.mono B6.out.size))
    have l7 := (HR.out w7 h7).1
    have H7 := Lib.hid (HR.out w7 h7).2
    clear h7 la lb
    go_wp2_with fail
    refine H7.out.mono ?_
    rintro e8 w8 ⟨rfl, h8⟩
    have B8 := Lib.hid (B7.out.trans (h8.mono B7.out.size))
    clear h8
    go_wp2
    go_ret
    exact ⟨rfl, B8.out⟩
  · have q1 : (ex != 0) = true := by simp [he]
    have q2 : (ex == ex) = true := by simp
    clear he
    go_wp2_with fail
    refine H5.out.mono ?_
    rintro e7 w7 ⟨rfl, h7⟩
    have B7 := Lib.hid (B6.out.trans (h7.mono B6.out.size))
    clear h7 la lb
    go_wp2
    go_ret
    exact ⟨rfl, B7.out⟩

set_option maxHeartbeats 400000 in
theorem walk_no (bits : Int) (a : Option Addr) (n cap : Nat) (w : World) (hn : ¬ n ≤ 40) :
    Calls Try.prog 4 #[.slice a n cap, .int .i64 bits] w fun e w' => e = .returned (.bool true) ∧ Below w.heap.size w w' := by
  have H1 := Lib.hid (awake4_any w)
  have H2 : Hid (∀ W, Calls Try.prog 24 #[.slice a n cap] W fun e w' => e = .returned (.bool false) ∧ W = w') := fun W => by
    have := few_any a n cap W
    rw [decide_eq_false (show ¬ (n : Int) ≤ 40 by omega)] at this
    exact this
  clear hn
  go_enter Try.func4, Try.ntmps4
  go_wp2_with fail
  refine H1.out.mono ?_
  rintro e1 w1 ⟨rfl, h1⟩
  have B1 := Lib.hid h1
  clear h1
  go_wp2_with fail
  refine (H2.out w1).mono ?_
  rintro e2 w2 ⟨rfl, rfl⟩
  go_wp2
  go_ret
  exact ⟨rfl, B1.out⟩
theorem walkAll (t : List Rt) (bits : Int) (v : Value) (w : World) (hR : Rd w v t) :
    Calls Try.prog 4 #[v, .int .i64 bits] w fun e w' => e = .returned (.bool true) ∧ Below w.heap.size w w' := by
  obtain ⟨a, cap, hv, -⟩ := rd_len hR
  subst hv
  by_cases h : t.length ≤ 40
  · exact walk t bits a _ cap w hR rfl h
  · exact walk_no bits a _ cap w h
end Go.Proofs.Ytggjcjijoihilaa.trieRight
