/- The statement TrieBest, walked: every call of it hands back true. -/
import Derived.Test.YtjppingppdmeoaaTrieAwake
import Derived.Test.YtjppingppdmeoaaTBestP
import Derived.Test.YtjppingppdmeoaaTDeepP
namespace Go.Proofs.Ytjppingppdmeoaa.trieBest
open Go.RowKit Go.Sort Go.Shelf
attribute [local go_sem ↓] loadVar_key loadVar_pre loadVar_route storeVar_pre storeVar_route loadVar_trie storeVar_trie

theorem slice_of {w : World} {base : Nat} {v : Value} {ns : List Nd} (h : OwnN w base v ns) : ∃ a cap, v = .slice a ns.length cap := by
  rcases h.2 with ⟨h1, h2⟩ | ⟨g, cap, cur, h1, -⟩
  · exact ⟨none, 0, by rw [h1, h2]⟩
  · exact ⟨_, cap, h1⟩
theorem steps_few {l : List Rt} (h : Good l) (bits : Int) : ∀ r ∈ l, r.pre.bits = bits → stepsR r ≤ 32 := fun r hr _ => by
  obtain ⟨m1, m2, m3, -⟩ := (mayB_iff r.pre r.hk).1 (h.may r hr)
  unfold stepsR lastN
  omega
/-- There is no room only for more than ten routes. -/
theorem full_long {l : List Rt} (h : Good l) (bits : Int) (hf : ¬ (treeL l bits).ws.length ≤ 512) : 10 < l.length := by
  have h1 := adds_few bits l tr0 1 (Nat.le_refl _)
  have h2 := allA_few bits l 32 (steps_few h bits) 1
  have h3 : (treeL l bits).ws.length ≤ allA bits 1 l := h1
  omega
theorem best_zero {l : List Rt} {k : Nat → Nat} {bits : Int} (hr : rightB l = true) (hm : mayB (wholeP k bits) = false) : bestL l k bits = (zrt, 1) := by
  unfold bestL; rw [hr, hm]; rfl
/-- What Find hands back of a table's trie is what the table's Best does. -/
theorem find_best {l : List Rt} (hr : rightB l = true) (hl : l.length ≤ 256) {k : Nat → Nat} (hk : Bytes16 k) {bits : Int} {x : Rt} {e : Int} (he : bestL l k bits = (x, e)) {w : World} {en : Ending} {w' : World} (h : FindPost w (treeL l bits) k bits en w') :
    en = .returned (.tuple #[.int .i64 x.pre.len, .int .u16 x.hop, .int .i64 e]) ∧ Below w.heap.size w w' := by
  obtain ⟨hb, ⟨h1, h2⟩ | ⟨h1, m, hm, h2⟩⟩ := h
  · rw [best_zero hr h1] at he
    simp only [Prod.mk.injEq] at he
    obtain ⟨rfl, rfl⟩ := he
    exact ⟨h2, hb⟩
  · obtain ⟨n, hn, hf⟩ := tree_best ((right_iff l).1 hr).2 hl hk h1 hm
    rw [he] at hn hf
    rw [hf] at h2
    refine ⟨?_, hb⟩
    rw [h2]
    show _ = Ending.returned (.tuple #[.int .i64 x.pre.len, _, _])
    rw [show x.pre.len = (n : Int) from hn]

set_option maxHeartbeats 2000000 in
set_option maxRecDepth 100000 in
theorem walk_bad (l : List Rt) (k : Nat → Nat) (bits : Int) (v : Value) (w : World) (hR : Rd w v l) (hl : l.length ≤ 256) (hr : rightB l = true) (er : Int) (hb : buildL l bits = (0, [], er)) (hcase : (er = 1 ∧ bits ≠ 32 ∧ bits ≠ 128) ∨ (er = 5 ∧ 10 < l.length)) :
    Calls Try.prog 5 #[v, .agg (kc k), .int .i64 bits] w fun e w' => e = .returned (.bool true) ∧ Below w.heap.size w w' := by
  have hb0 : Below w.heap.size w (w.alloc (.cells (kc k) 24)) := (Below.refl _ _).alloc (Nat.le_refl _) _
  have hz0 : (w.alloc (.cells (kc k) 24)).heap.size = w.heap.size + 1 := by simp
  have T : ∀ W, Below (w.alloc (.cells (kc k) 24)).heap.size (w.alloc (.cells (kc k) 24)) W → Rd W v l ∧ Below w.heap.size w W := fun W h =>
    ⟨hR.later (hb0.trans (h.mono (by rw [hz0]; omega))), hb0.trans (h.mono (by rw [hz0]; omega))⟩
  have HT := Lib.hid T
  have H1 := Lib.hid (awake4_any (w.alloc (.cells (kc k) 24)))
  have H2 : Hid (∀ W, Rd W v l → Calls Try.prog 15 #[v] W fun e w' => e = .returned (.bool true) ∧ Below W.heap.size W w') := fun W h => by
    have := right_any l v W h
    rw [hr] at this; exact this
  have H3 : Hid (∀ W, Rd W v l → Calls Try.prog 25 #[v, .int .i64 bits] W (BuildPost W (0, [], er))) := fun W h => by
    have := build_any l bits v W h
    rw [hb] at this; exact this
  unfold BuildPost at H3
  obtain ⟨a, cap, hv, -⟩ := rd_len hR
  obtain ⟨n, hn⟩ : ∃ n, n = l.length := ⟨_, rfl⟩
  rw [← hn] at hv hl hcase
  have hnI : (n : Int) ≤ 256 := by omega
  have hcI : (er = 1 ∧ bits ≠ 32 ∧ bits ≠ 128) ∨ (er = 5 ∧ (10 : Int) < n) := by
    rcases hcase with h | ⟨h, h2⟩
    · exact .inl h
    · exact .inr ⟨h, by omega⟩
  have HCI := Lib.hid hcI
  subst hv
  clear hR hr hb hn hl T hb0 hz0 hcI hcase
  go_enter Try.func5, Try.ntmps5
  go_wp2_with fail
  refine H1.out.mono ?_
  rintro e1 w1 ⟨rfl, h1⟩
  have B1 := Lib.hid h1
  clear h1
  go_wp2_with fail
  refine (H2.out _ (HT.out _ B1.out).1).mono ?_
  rintro e2 w2 ⟨rfl, h2⟩
  have B2 := Lib.hid (B1.out.trans (h2.mono B1.out.size))
  clear h2
  go_wp2_with fail
  refine (H3.out _ (HT.out _ B2.out).1).mono ?_
  rintro e3 w3 ⟨v3, rfl, ho, h3⟩
  obtain ⟨a3, c3, hv3⟩ := slice_of ho
  have hv4 : v3 = .slice a3 0 c3 := hv3
  subst hv4
  have st := run_trieStore_new 0 (.slice a3 0 c3) rfl w3
  have hbx := Go.heap_alloc_new w3 (.cells (tc 0 (.slice a3 0 c3)) 52)
  have hal : Below w3.heap.size w3 (w3.alloc (.cells (tc 0 (.slice a3 0 c3)) 52)) := (Below.refl _ _).alloc (Nat.le_refl _) _
  have hb3 := B2.out.trans (h3.mono B2.out.size)
  have FIN := Lib.hid (HT.out _ (hb3.trans (hal.mono hb3.size))).2
  clear ho h3 hv3 hbx hal hb3
  rcases HCI.out with ⟨rfl, h32, h128⟩ | ⟨rfl, h10⟩
  · have q1 : (bits != 32 && bits != 128) = true := by
      rw [Bool.and_eq_true, bne_iff_ne, bne_iff_ne]; exact ⟨h32, h128⟩
    by_cases h11 : (10 : Int) < n
    · go_wp2
      go_ret
      exact ⟨rfl, FIN.out⟩
    · go_wp2
      go_ret
      exact ⟨rfl, FIN.out⟩
  · go_wp2
    go_ret
    exact ⟨rfl, FIN.out⟩

set_option maxHeartbeats 2000000 in
set_option maxRecDepth 100000 in
theorem walk_good (l : List Rt) (k : Nat → Nat) (hk0 : Bytes16 k) (bits : Int) (v : Value) (w : World) (hR : Rd w v l) (hl : l.length ≤ 256) (hr : rightB l = true) (hk : mayB (keysP bits) = true) (hf : (treeL l bits).ws.length ≤ 512) :
    Calls Try.prog 5 #[v, .agg (kc k), .int .i64 bits] w fun e w' => e = .returned (.bool true) ∧ Below w.heap.size w w' := by
  have hb0 : Below w.heap.size w (w.alloc (.cells (kc k) 24)) := (Below.refl _ _).alloc (Nat.le_refl _) _
  have hz0 : (w.alloc (.cells (kc k) 24)).heap.size = w.heap.size + 1 := by simp
  have rk := rowAt_new w (kc k) 24
  have T : ∀ W, Below (w.alloc (.cells (kc k) 24)).heap.size (w.alloc (.cells (kc k) 24)) W → (keyLoad ⟨w.heap.size, 0, none⟩).run Try.prog W = .ok (.agg (kc k)) W ∧ Rd W v l ∧ Below w.heap.size w W := fun W h =>
    ⟨run_keyLoad (rk.below h (by rw [hz0]; omega)), hR.later (hb0.trans (h.mono (by rw [hz0]; omega))), hb0.trans (h.mono (by rw [hz0]; omega))⟩
  have HT := Lib.hid T
  have H1 := Lib.hid (awake4_any (w.alloc (.cells (kc k) 24)))
  have H2 : Hid (∀ W, Rd W v l → Calls Try.prog 15 #[v] W fun e w' => e = .returned (.bool true) ∧ Below W.heap.size W w') := fun W h => by
    have := right_any l v W h
    rw [hr] at this; exact this
  have hb : buildL l bits = (bits, (treeL l bits).nodes, 0) := by unfold buildL; rw [if_pos ⟨hr, hk⟩, if_pos hf]
  have H3 : Hid (∀ W, Rd W v l → Calls Try.prog 25 #[v, .int .i64 bits] W (BuildPost W (bits, (treeL l bits).nodes, 0))) := fun W h => by
    have := build_any l bits v W h
    rw [hb] at this; exact this
  unfold BuildPost at H3
  have hS := stands_of hr hk hf
  obtain ⟨x, e, he⟩ : ∃ x e, bestL l k bits = (x, e) := ⟨_, _, rfl⟩
  have H4 : Hid (∀ W, Rd W v l → Calls Try.prog 11 #[v, .agg (kc k), .int .i64 bits] W (BestPost W (x, e))) := fun W h => by
    rw [← he]; exact best_any l k hk0 bits _ W h
  have H5 : Hid (∀ W u base, OwnN W base u (treeL l bits).nodes → Calls Try.prog 29 #[.agg (tc bits u), .agg (kc k)] W fun en w' => en = .returned (.tuple #[.int .i64 x.pre.len, .int .u16 x.hop, .int .i64 e]) ∧ Below W.heap.size W w') := fun W u base h =>
    (find_any (treeL l bits) bits hS k hk0 u W base h).mono fun en w' h => find_best hr hl hk0 he h
  have hN : (treeL l bits).nodes.length = (treeL l bits).ws.length := Tr.nodes_length _
  have hpos := hS.ok.pos
  obtain ⟨ns, hns⟩ : ∃ ns, (treeL l bits).nodes = ns := ⟨_, rfl⟩
  obtain ⟨N, hNN⟩ : ∃ N, (treeL l bits).ws.length = N := ⟨_, rfl⟩
  rw [hns] at H3 H5 hN
  rw [hNN] at hN hpos
  have HN := Lib.hid hN
  have HPS := Lib.hid hpos
  obtain ⟨a, cap, hv, -⟩ := rd_len hR
  obtain ⟨n, hn⟩ : ∃ n, n = l.length := ⟨_, rfl⟩
  rw [← hn] at hv hl
  have hnI : (n : Int) ≤ 256 := by omega
  subst hv
  clear hR hr hb hn hl T hb0 hz0 rk hS hf hk hN hpos hNN hns he
  go_enter Try.func5, Try.ntmps5
  go_wp2_with fail
  refine H1.out.mono ?_
  rintro e1 w1 ⟨rfl, h1⟩
  have B1 := Lib.hid h1
  clear h1
  go_wp2_with fail
  refine (H2.out _ (HT.out _ B1.out).2.1).mono ?_
  rintro e2 w2 ⟨rfl, h2⟩
  have B2 := Lib.hid (B1.out.trans (h2.mono B1.out.size))
  clear h2
  go_wp2_with fail
  refine (H3.out _ (HT.out _ B2.out).2.1).mono ?_
  rintro e3 w3 ⟨v3, rfl, ho, h3⟩
  obtain ⟨g, c3, hv3, -, -⟩ := ho.form (by rw [HN.out]; exact HPS.out)
  rw [HN.out] at hv3
  subst hv3
  have st := run_trieStore_new bits (.slice (some ⟨g, 0, none⟩) N c3) rfl w3
  have hbx := Go.heap_alloc_new w3 (.cells (tc bits (.slice (some ⟨g, 0, none⟩) N c3)) 52)
  have hal : Below w3.heap.size w3 (w3.alloc (.cells (tc bits (.slice (some ⟨g, 0, none⟩) N c3)) 52)) := (Below.refl _ _).alloc (Nat.le_refl _) _
  obtain ⟨w4, hw4⟩ : ∃ w4, w3.alloc (.cells (tc bits (.slice (some ⟨g, 0, none⟩) N c3)) 52) = w4 := ⟨_, rfl⟩
  have ho4 := ho.later hal
  obtain ⟨b, hbb⟩ : ∃ b, w3.heap.size = b := ⟨_, rfl⟩
  have hb3 := B2.out.trans (h3.mono B2.out.size)
  have hb4 := hb3.trans (hal.mono hb3.size)
  rw [hw4] at hbx ho4 st hb4
  rw [hbb] at hbx st
  have B4 := Lib.hid hb4
  have HO4 := Lib.hid ho4
  have HBX := Lib.hid hbx
  obtain ⟨lk, -, -⟩ := HT.out _ B4.out
  clear ho h3 hal hb3 hb4 ho4 hbx
  go_wp2_with fail
  refine (H4.out _ (HT.out _ B4.out).2.1).mono ?_
  rintro e5 w5 ⟨rfl, h5⟩
  have st5 := run_routeStore_new x w5
  have hal5 : Below w5.heap.size w5 (w5.alloc (.cells (rc x) 34)) := (Below.refl _ _).alloc (Nat.le_refl _) _
  have NX5 := newRoute w5 x
  obtain ⟨w6, hw6⟩ : ∃ w6, w5.alloc (.cells (rc x) 34) = w6 := ⟨_, rfl⟩
  obtain ⟨c, hcc⟩ : ∃ c, w5.heap.size = c := ⟨_, rfl⟩
  have h6 := h5.trans (hal5.mono h5.size)
  rw [hw6] at h6 st5 NX5
  rw [hcc] at st5 NX5
  have HO6 := Lib.hid (HO4.out.later h6)
  have HBX6 := Lib.hid ((h6.block _ (Array.getElem?_eq_some_iff.1 HBX.out).1).trans HBX.out)
  have B6 := Lib.hid (B4.out.trans (h6.mono B4.out.size))
  have NX := Lib.hid NX5
  clear h5 hal5 NX5 h6 st lk
  have lt := run_trieLoad HBX6.out
  obtain ⟨lk, -, -⟩ := HT.out _ B6.out
  go_wp2_with fail
  refine (H5.out _ _ _ HO6.out).mono ?_
  rintro e7 w7 ⟨rfl, h7⟩
  have B7 := Lib.hid (B6.out.trans (h7.mono B6.out.size))
  have FIN := Lib.hid (HT.out _ B7.out).2.2
  have NC := NX.out.below h7 (by rw [← hcc, ← hw6]; simp)
  clear lt lk st5
  have k1 : w7.cell? ⟨c, 1, none⟩ = some (.int .i64 x.pre.len) := by
    have := NC 1 (.int .i64 x.pre.len) (by unfold rl pc; rfl)
    rw [show (⟨c, 0, none⟩ : Addr).add 1 = ⟨c, 1, none⟩ from rfl] at this
    exact this
  have k2 : w7.cell? ⟨c, 18, none⟩ = some (.int .u16 x.hop) := by
    have := NC 18 (.int .u16 x.hop) (by unfold rl pc; rfl)
    rw [show (⟨c, 0, none⟩ : Addr).add 18 = ⟨c, 18, none⟩ from rfl] at this
    exact this
  clear NC
  go_wp2
  go_ret
  exact ⟨rfl, FIN.out⟩

set_option maxHeartbeats 1000000 in
set_option maxRecDepth 100000 in
theorem walk_no (l : List Rt) (n : Nat) (k : Nat → Nat) (bits : Int) (a : Option Addr) (cap : Nat) (w : World) (hR : Rd w (.slice a n cap) l) (hn : n ≤ maxLen) (hno : ¬ n ≤ 256 ∨ rightB l = false) :
    Calls Try.prog 5 #[.slice a n cap, .agg (kc k), .int .i64 bits] w fun e w' => e = .returned (.bool true) ∧ Below w.heap.size w w' := by
  have hb0 : Below w.heap.size w (w.alloc (.cells (kc k) 24)) := (Below.refl _ _).alloc (Nat.le_refl _) _
  have hz0 : (w.alloc (.cells (kc k) 24)).heap.size = w.heap.size + 1 := by simp
  have T : ∀ W, Below (w.alloc (.cells (kc k) 24)).heap.size (w.alloc (.cells (kc k) 24)) W → Rd W (.slice a n cap) l ∧ Below w.heap.size w W := fun W h =>
    ⟨hR.later (hb0.trans (h.mono (by rw [hz0]; omega))), hb0.trans (h.mono (by rw [hz0]; omega))⟩
  have HT := Lib.hid T
  have H1 := Lib.hid (awake4_any (w.alloc (.cells (kc k) 24)))
  unfold maxLen at hn
  by_cases h1 : n ≤ 256
  · have h1I : (n : Int) ≤ 256 := by omega
    have hr : rightB l = false := hno.resolve_left (fun h => h h1)
    have H2 : Hid (∀ W, Rd W (.slice a n cap) l → Calls Try.prog 15 #[.slice a n cap] W fun e w' => e = .returned (.bool false) ∧ Below W.heap.size W w') := fun W h => by
      have := right_any l _ W h
      rw [hr] at this; exact this
    clear hno hr h1 hn hR T hb0 hz0
    go_enter Try.func5, Try.ntmps5
    go_wp2_with fail
    refine H1.out.mono ?_
    rintro e1 w1 ⟨rfl, h1⟩
    have HW1 := Lib.hid h1
    clear h1
    go_wp2_with fail
    refine (H2.out _ (HT.out _ HW1.out).1).mono ?_
    rintro e1 w2 ⟨rfl, h2⟩
    have FIN := Lib.hid (HT.out _ (HW1.out.trans (h2.mono HW1.out.size))).2
    clear h2
    go_wp2
    go_ret
    exact ⟨rfl, FIN.out⟩
  · have h1I : (256 : Int) < n := by omega
    clear hno h1 hn hR T hb0 hz0
    go_enter Try.func5, Try.ntmps5
    go_wp2_with fail
    refine H1.out.mono ?_
    rintro e1 w1 ⟨rfl, h1⟩
    have FIN := Lib.hid (HT.out _ h1).2
    clear h1
    go_wp2
    go_ret
    exact ⟨rfl, FIN.out⟩

theorem walkAll (l : List Rt) (k : Nat → Nat) (hk0 : Bytes16 k) (bits : Int) (v : Value) (w : World) (hR : Rd w v l) :
    Calls Try.prog 5 #[v, .agg (kc k), .int .i64 bits] w fun e w' => e = .returned (.bool true) ∧ Below w.heap.size w w' := by
  by_cases h : l.length ≤ 256 ∧ rightB l = true
  · obtain ⟨h1, h2⟩ := h
    cases hk : mayB (keysP bits) with
    | false =>
      refine walk_bad l k bits v w hR h1 h2 1 (by unfold buildL; rw [if_neg (by rw [hk]; simp)]) (.inl ⟨rfl, ?_, ?_⟩)
      · intro e; rw [(keysP_iff bits).2 (.inl e)] at hk; cases hk
      · intro e; rw [(keysP_iff bits).2 (.inr e)] at hk; cases hk
    | true =>
      by_cases hf : (treeL l bits).ws.length ≤ 512
      · exact walk_good l k hk0 bits v w hR h1 h2 hk hf
      · exact walk_bad l k bits v w hR h1 h2 5 (by unfold buildL; rw [if_pos ⟨h2, hk⟩, if_neg hf]) (.inr ⟨rfl, full_long ((right_iff l).1 h2).2 bits hf⟩)
  · obtain ⟨a, cap, hv, h1⟩ := rd_len hR
    have hno : ¬ l.length ≤ 256 ∨ rightB l = false := by
      by_cases g : l.length ≤ 256
      · exact .inr (by cases h2 : rightB l with
          | false => rfl
          | true => exact absurd ⟨g, h2⟩ h)
      · exact .inl g
    rw [hv] at hR
    rw [hv]
    exact walk_no l _ k bits a cap w hR h1 hno
end Go.Proofs.Ytjppingppdmeoaa.trieBest
