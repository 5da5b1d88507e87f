/- The statement TrieWays, walked: every call of it hands back true. -/
import Derived.Test.YtggjcjijoihilaaTWaysR
import Derived.Test.YtggjcjijoihilaaTDeepP
import Derived.Test.YtggjcjijoihilaaSlots
import Derived.Deep.RegionHeld3
import Derived.Deep.CutBlock
import Derived.BigRegion
namespace Go.Proofs.Ytggjcjijoihilaa.trieWays
open Go.RowKit Go.Sort Go.Shelf
attribute [local go_sem ↓] loadVar_key loadVar_pre loadVar_route storeVar_pre storeVar_route loadVar_trie storeVar_trie make_marks

theorem slice_of {w : World} {base : Nat} {v : Value} {ns : List Nd} (h : OwnN w base v ns) : ∃ a cap, v = .slice a ns.length cap := by
  rcases h.2 with ⟨h1, h2⟩ | ⟨g, cap, cur, h1, -⟩
  · exact ⟨none, 0, by rw [h1, h2]⟩
  · exact ⟨_, cap, h1⟩

set_option maxHeartbeats 2000000 in
set_option maxRecDepth 100000 in
theorem walk_bad (l : List Rt) (k q : Nat → Nat) (bits : Int) (v : Value) (w : World) (hR : Rd w v l) (hl : l.length ≤ 60) (hr : rightB l = true) (er : Int) (he : (er != 0) = true) (hb : buildL l bits = (0, [], er)) :
    Calls Try.prog 6 #[v, .agg (kc k), .agg (kc q), .int .i64 bits] w fun e w' => e = .returned (.bool true) ∧ Below w.heap.size w w' := by
  have hb1 : Below w.heap.size w (w.alloc (.cells (kc k) 24)) := (Below.refl _ _).alloc (Nat.le_refl _) _
  have hb0 : Below w.heap.size w ((w.alloc (.cells (kc k) 24)).alloc (.cells (kc q) 24)) := hb1.alloc (by simp) _
  have hz0 : ((w.alloc (.cells (kc k) 24)).alloc (.cells (kc q) 24)).heap.size = w.heap.size + 2 := by simp
  obtain ⟨W0, hW0⟩ : ∃ W0, (w.alloc (.cells (kc k) 24)).alloc (.cells (kc q) 24) = W0 := ⟨_, rfl⟩
  rw [hW0] at hb0 hz0
  have T : ∀ W, Below W0.heap.size W0 W → Rd W v l ∧ Below w.heap.size w W := fun W h =>
    ⟨hR.later (hb0.trans (h.mono (by rw [hz0]; omega))), hb0.trans (h.mono (by rw [hz0]; omega))⟩
  have HT := Lib.hid T
  have H1 := Lib.hid (awake4_any W0)
  have H2 : Hid (∀ W, Rd W v l → Calls Try.prog 15 #[v] W fun e w' => e = .returned (.bool true) ∧ Below W.heap.size W w') := fun W h => by
    have := right_any l v W h
    rw [hr] at this; exact this
  have H3 : Hid (∀ W, Rd W v l → Calls Try.prog 25 #[v, .int .i64 bits] W (BuildPost W (0, [], er))) := fun W h => by
    have := build_any l bits v W h
    rw [hb] at this; exact this
  unfold BuildPost at H3
  obtain ⟨a, cap, hv, -⟩ := rd_len hR
  obtain ⟨n, hn⟩ : ∃ n, n = l.length := ⟨_, rfl⟩
  rw [← hn] at hv hl
  have hnI : (n : Int) ≤ 60 := by omega
  subst hv
  clear hR hr hb hn hl T hb0 hb1 hz0
  go_enter Try.func6, Try.ntmps6
  try rw [hW0]
  go_wp2_with fail
  refine H1.out.mono ?_
  rintro e1 w1 ⟨rfl, h1⟩
  have B1 := Lib.hid h1
  clear h1
  go_wp2_with fail
  refine (H2.out _ (HT.out _ B1.out).1).mono ?_
  rintro e2 w2 ⟨rfl, h2⟩
  have B2 := Lib.hid (B1.out.trans (h2.mono B1.out.size))
  clear h2
  go_wp2_with fail
  refine (H3.out _ (HT.out _ B2.out).1).mono ?_
  rintro e3 w3 ⟨v3, rfl, ho, h3⟩
  obtain ⟨a3, c3, hv3⟩ := slice_of ho
  have hv4 : v3 = .slice a3 0 c3 := hv3
  subst hv4
  have st := run_trieStore_new 0 (.slice a3 0 c3) rfl w3
  have hal : Below w3.heap.size w3 (w3.alloc (.cells (tc 0 (.slice a3 0 c3)) 52)) := (Below.refl _ _).alloc (Nat.le_refl _) _
  have hb3 := B2.out.trans (h3.mono B2.out.size)
  have HB4 := Lib.hid (hb3.trans (hal.mono hb3.size))
  obtain ⟨b, hbb⟩ : ∃ b, w3.heap.size = b := ⟨_, rfl⟩
  obtain ⟨w4, hw4⟩ : ∃ w4, w3.alloc (.cells (tc 0 (.slice a3 0 c3)) 52) = w4 := ⟨_, rfl⟩
  rw [hbb, hw4] at st
  rw [hw4] at HB4
  have FIN := Lib.hid (HT.out _ HB4.out.drew).2
  clear ho h3 hv3 hal hb3
  go_wp2
  refine wp_region_held_drew (S := (fun _ => True)) (by kernel_rfl) (trivial) (fun hHeld => ?_)
  refine wpAnyH_take (i := 0) (oi := { dst := some 35, op := Go.Op.move (Go.Operand.tmp 10), type := 30, pos := "law.go:96", after := #[], guard := none }) (v := ?v0a) rfl (by kernel_rfl) (by kernel_rfl) (by kernel_rfl) (fun _ _ _ h => h) (Or.inl ⟨by rfl, ?hy0a⟩) (by assumption) ?rest0a
  case hy0a => intro w hSw; (try dsimp only at hSw); go_simp; try with_reducible rfl
  try simp only [Act.put, List.setIfInBounds_toArray, List.set_cons_zero, List.set_cons_succ]
  refine wpAnyH_take (i := 1) (oi := { dst := some 36, op := Go.Op.binOp Go.BinOp.neq 30 (Go.Operand.tmp 35) (Go.Operand.const (Go.Value.int Go.IntKind.i64 0)) 30, type := 4, pos := "law.go:96", after := #[{ on := 0, ground := Go.Ground.data }], guard := none }) (v := ?v1a) rfl (by kernel_rfl) (by kernel_rfl) (by kernel_rfl) (fun _ _ _ h => h) (Or.inl ⟨by rfl, ?hy1a⟩) (by assumption) ?rest1a
  case hy1a => intro w hSw; (try dsimp only at hSw); go_simp; try with_reducible rfl
  try simp only [Act.put, List.setIfInBounds_toArray, List.set_cons_zero, List.set_cons_succ]
  refine wpAnyH_take (i := 2) (oi := { dst := some 37, op := Go.Op.move (Go.Operand.tmp 36), type := 4, pos := "law.go:96", after := #[{ on := 1, ground := Go.Ground.data }], guard := none }) (v := ?v2a) rfl (by kernel_rfl) (by kernel_rfl) (by kernel_rfl) (fun _ _ _ h => h) (Or.inl ⟨by rfl, ?hy2a⟩) (by assumption) ?rest2a
  case hy2a => intro w hSw; (try dsimp only at hSw); go_simp; try with_reducible rfl
  try simp only [Act.put, List.setIfInBounds_toArray, List.set_cons_zero, List.set_cons_succ]
  refine wpAnyH_take (i := 3) (oi := { dst := some 38, op := Go.Op.load 24 (Go.Operand.tmp 5), type := 24, pos := "law.go:96", after := #[{ on := 2, ground := Go.Ground.guard }], guard := some (2, false) }) rfl (by kernel_rfl) (by kernel_rfl) (by kernel_rfl) (fun _ _ _ h => h) (Or.inr ⟨by rfl, rfl⟩) (by assumption) ?_
  try simp only [Act.put, List.setIfInBounds_toArray, List.set_cons_zero, List.set_cons_succ]
  refine wpAnyH_take (i := 4) (oi := { dst := some 39, op := Go.Op.move (Go.Operand.tmp 3), type := 3, pos := "law.go:96", after := #[{ on := 2, ground := Go.Ground.guard }], guard := some (2, false) }) rfl (by kernel_rfl) (by kernel_rfl) (by kernel_rfl) (fun _ _ _ h => h) (Or.inr ⟨by rfl, rfl⟩) (by assumption) ?_
  try simp only [Act.put, List.setIfInBounds_toArray, List.set_cons_zero, List.set_cons_succ]
  refine wpAnyH_take (i := 5) (oi := { dst := some 40, op := Go.Op.call { callee := Go.Callee.value (Go.Operand.func 30), args := #[Go.Operand.tmp 38, Go.Operand.tmp 39], argTypes := #[24, 3] }, type := 24, pos := "law.go:96", after := #[{ on := 3, ground := Go.Ground.data }, { on := 4, ground := Go.Ground.data }, { on := 2, ground := Go.Ground.chain }, { on := 2, ground := Go.Ground.guard }], guard := some (2, false) }) rfl (by kernel_rfl) (by kernel_rfl) (by kernel_rfl) (fun _ _ _ h => h) (Or.inr ⟨by rfl, rfl⟩) (by assumption) ?_
  try simp only [Act.put, List.setIfInBounds_toArray, List.set_cons_zero, List.set_cons_succ]
  refine wpAnyH_take (i := 6) (oi := { dst := some 41, op := Go.Op.load 24 (Go.Operand.tmp 5), type := 24, pos := "law.go:96", after := #[{ on := 2, ground := Go.Ground.guard }], guard := some (2, false) }) rfl (by kernel_rfl) (by kernel_rfl) (by kernel_rfl) (fun _ _ _ h => h) (Or.inr ⟨by rfl, rfl⟩) (by assumption) ?_
  try simp only [Act.put, List.setIfInBounds_toArray, List.set_cons_zero, List.set_cons_succ]
  refine wpAnyH_take (i := 7) (oi := { dst := some 42, op := Go.Op.binOp Go.BinOp.neq 24 (Go.Operand.tmp 40) (Go.Operand.tmp 41) 24, type := 4, pos := "law.go:96", after := #[{ on := 5, ground := Go.Ground.data }, { on := 6, ground := Go.Ground.data }, { on := 2, ground := Go.Ground.guard }], guard := some (2, false) }) rfl (by kernel_rfl) (by kernel_rfl) (by kernel_rfl) (fun _ _ _ h => h) (Or.inr ⟨by rfl, rfl⟩) (by assumption) ?_
  try simp only [Act.put, List.setIfInBounds_toArray, List.set_cons_zero, List.set_cons_succ]
  refine wpAnyH_take (i := 8) (oi := { dst := some 43, op := Go.Op.pick (Go.Operand.tmp 37) (Go.Operand.const (Go.Value.bool true)) (Go.Operand.tmp 42), type := 4, pos := "law.go:96", after := #[{ on := 2, ground := Go.Ground.data }, { on := 7, ground := Go.Ground.data }], guard := none }) (v := ?v8a) rfl (by kernel_rfl) (by kernel_rfl) (by kernel_rfl) (fun _ _ _ h => h) (Or.inl ⟨by rfl, ?hy8a⟩) (by assumption) ?rest8a
  case hy8a => intro w hSw; (try dsimp only at hSw); go_simp; try with_reducible rfl
  try simp only [Act.put, List.setIfInBounds_toArray, List.set_cons_zero, List.set_cons_succ]
  refine wpAnyH_take (i := 9) (oi := { dst := some 44, op := Go.Op.move (Go.Operand.tmp 43), type := 4, pos := "law.go:96", after := #[{ on := 8, ground := Go.Ground.data }, { on := 5, ground := Go.Ground.chain }], guard := none }) (v := ?v9a) rfl (by kernel_rfl) (by kernel_rfl) (by kernel_rfl) (fun _ _ _ h => h) (Or.inl ⟨by rfl, ?hy9a⟩) (by assumption) ?rest9a
  case hy9a => intro w hSw; (try dsimp only at hSw); go_simp; try with_reducible rfl
  try simp only [Act.put, List.setIfInBounds_toArray, List.set_cons_zero, List.set_cons_succ]
  refine wpAnyH_take (i := 10) (oi := { dst := some 45, op := Go.Op.load 24 (Go.Operand.tmp 6), type := 24, pos := "law.go:96", after := #[{ on := 9, ground := Go.Ground.guard }], guard := some (9, false) }) rfl (by kernel_rfl) (by kernel_rfl) (by kernel_rfl) (fun _ _ _ h => h) (Or.inr ⟨by rfl, rfl⟩) (by assumption) ?_
  try simp only [Act.put, List.setIfInBounds_toArray, List.set_cons_zero, List.set_cons_succ]
  refine wpAnyH_take (i := 11) (oi := { dst := some 46, op := Go.Op.move (Go.Operand.tmp 3), type := 3, pos := "law.go:96", after := #[{ on := 9, ground := Go.Ground.guard }], guard := some (9, false) }) rfl (by kernel_rfl) (by kernel_rfl) (by kernel_rfl) (fun _ _ _ h => h) (Or.inr ⟨by rfl, rfl⟩) (by assumption) ?_
  try simp only [Act.put, List.setIfInBounds_toArray, List.set_cons_zero, List.set_cons_succ]
  refine wpAnyH_take (i := 12) (oi := { dst := some 47, op := Go.Op.call { callee := Go.Callee.value (Go.Operand.func 30), args := #[Go.Operand.tmp 45, Go.Operand.tmp 46], argTypes := #[24, 3] }, type := 24, pos := "law.go:96", after := #[{ on := 10, ground := Go.Ground.data }, { on := 11, ground := Go.Ground.data }, { on := 9, ground := Go.Ground.chain }, { on := 9, ground := Go.Ground.guard }], guard := some (9, false) }) rfl (by kernel_rfl) (by kernel_rfl) (by kernel_rfl) (fun _ _ _ h => h) (Or.inr ⟨by rfl, rfl⟩) (by assumption) ?_
  try simp only [Act.put, List.setIfInBounds_toArray, List.set_cons_zero, List.set_cons_succ]
  refine wpAnyH_take (i := 13) (oi := { dst := some 48, op := Go.Op.load 24 (Go.Operand.tmp 6), type := 24, pos := "law.go:96", after := #[{ on := 9, ground := Go.Ground.guard }], guard := some (9, false) }) rfl (by kernel_rfl) (by kernel_rfl) (by kernel_rfl) (fun _ _ _ h => h) (Or.inr ⟨by rfl, rfl⟩) (by assumption) ?_
  try simp only [Act.put, List.setIfInBounds_toArray, List.set_cons_zero, List.set_cons_succ]
  refine wpAnyH_take (i := 14) (oi := { dst := some 49, op := Go.Op.binOp Go.BinOp.neq 24 (Go.Operand.tmp 47) (Go.Operand.tmp 48) 24, type := 4, pos := "law.go:96", after := #[{ on := 12, ground := Go.Ground.data }, { on := 13, ground := Go.Ground.data }, { on := 9, ground := Go.Ground.guard }], guard := some (9, false) }) rfl (by kernel_rfl) (by kernel_rfl) (by kernel_rfl) (fun _ _ _ h => h) (Or.inr ⟨by rfl, rfl⟩) (by assumption) ?_
  try simp only [Act.put, List.setIfInBounds_toArray, List.set_cons_zero, List.set_cons_succ]
  refine wpAnyH_take (i := 15) (oi := { dst := some 50, op := Go.Op.pick (Go.Operand.tmp 44) (Go.Operand.const (Go.Value.bool true)) (Go.Operand.tmp 49), type := 4, pos := "law.go:96", after := #[{ on := 9, ground := Go.Ground.data }, { on := 14, ground := Go.Ground.data }], guard := none }) (v := ?v15a) rfl (by kernel_rfl) (by kernel_rfl) (by kernel_rfl) (fun _ _ _ h => h) (Or.inl ⟨by rfl, ?hy15a⟩) (by assumption) ?rest15a
  case hy15a => intro w hSw; (try dsimp only at hSw); go_simp; try with_reducible rfl
  try simp only [Act.put, List.setIfInBounds_toArray, List.set_cons_zero, List.set_cons_succ]
  refine wpAnyH_done (by kernel_rfl) ?_ _
  clear st
  go_wp2
  go_ret
  exact ⟨rfl, FIN.out⟩

def keyNeq (x y : Value) : Sem Value := binOp .neq 24 x y
theorem binOp_keyNeq (x y : Value) : binOp .neq 24 x y = keyNeq x y := rfl
theorem run_keyNeq (a b : Nat → Nat) (w : World) : (keyNeq (.agg (kc a)) (.agg (kc b))).run Try.prog w = .ok (.bool (!keyEq a b)) w := by
  unfold keyNeq
  rw [run_neq_struct, run_eqKey_top]; rfl
attribute [local go_sem ↓] binOp_keyNeq

theorem walk_way {T : Tr} {bits : Int} (hS : Stands T bits) {x : Nat → Nat} (hx : Bytes16 x) (hw : mayB (wholeP x bits) = true) (u : Value) (W : World) (base : Nat) (h : OwnN W base u T.nodes) :
    Calls Try.prog 31 #[.agg (tc bits u), .agg (kc x)] W fun e w' => ∃ g cap m, e = .returned (.slice (some ⟨g, 0, none⟩) (m + 1) cap) ∧ WalkTo T x m ∧ OwnI w' W.heap.size (.slice (some ⟨g, 0, none⟩) (m + 1) cap) (wayN T x m) ∧ Below W.heap.size W w' := by
  refine (walk_any T bits hS x hx u W base h).mono ?_
  rintro e w' ⟨hb, ⟨h1, -⟩ | ⟨-, v, m, rfl, h2, h3⟩⟩
  · rw [hw] at h1; cases h1
  · obtain ⟨g, cap, rfl⟩ := h3.form (by rw [wayN_length]; omega)
    rw [wayN_length] at h3 ⊢
    exact ⟨g, cap, m, rfl, h2, h3, hb⟩

set_option maxHeartbeats 4000000 in
set_option maxRecDepth 100000 in
theorem walk_good (l : List Rt) (k q : Nat → Nat) (hk0 : Bytes16 k) (hq0 : Bytes16 q) (bits : Int) (v : Value) (w : World) (hR : Rd w v l) (hl : l.length ≤ 60) (hr : rightB l = true) (hk : mayB (keysP bits) = true) (hf : (treeL l bits).ws.length ≤ 512) :
    Calls Try.prog 6 #[v, .agg (kc k), .agg (kc q), .int .i64 bits] w fun e w' => e = .returned (.bool true) ∧ Below w.heap.size w w' := by
  have hb1 : Below w.heap.size w (w.alloc (.cells (kc k) 24)) := (Below.refl _ _).alloc (Nat.le_refl _) _
  have hb0 : Below w.heap.size w ((w.alloc (.cells (kc k) 24)).alloc (.cells (kc q) 24)) := hb1.alloc (by simp) _
  have hz0 : ((w.alloc (.cells (kc k) 24)).alloc (.cells (kc q) 24)).heap.size = w.heap.size + 2 := by simp
  have hz1 : (w.alloc (.cells (kc k) 24)).heap.size = w.heap.size + 1 := by simp
  have rk := (rowAt_new w (kc k) 24).below (B := w.heap.size + 1) (w' := (w.alloc (.cells (kc k) 24)).alloc (.cells (kc q) 24)) (by rw [← hz1]; exact (Below.refl _ _).alloc (Nat.le_refl _) _) (by omega)
  have rq := rowAt_new (w.alloc (.cells (kc k) 24)) (kc q) 24
  rw [hz1] at rq
  obtain ⟨W0, hW0⟩ : ∃ W0, (w.alloc (.cells (kc k) 24)).alloc (.cells (kc q) 24) = W0 := ⟨_, rfl⟩
  rw [hW0] at hb0 hz0 rk rq
  have T : ∀ W, Below W0.heap.size W0 W → (keyLoad ⟨w.heap.size, 0, none⟩).run Try.prog W = .ok (.agg (kc k)) W ∧ (keyLoad ⟨w.heap.size + 1, 0, none⟩).run Try.prog W = .ok (.agg (kc q)) W ∧ Rd W v l ∧ Below w.heap.size w W := fun W h =>
    ⟨run_keyLoad (rk.below h (by rw [hz0]; omega)), run_keyLoad (rq.below h (by rw [hz0]; omega)), hR.later (hb0.trans (h.mono (by rw [hz0]; omega))), hb0.trans (h.mono (by rw [hz0]; omega))⟩
  have HT := Lib.hid T
  have H1 := Lib.hid (awake4_any W0)
  have H2 : Hid (∀ W, Rd W v l → Calls Try.prog 15 #[v] W fun e w' => e = .returned (.bool true) ∧ Below W.heap.size W w') := fun W h => by
    have := right_any l v W h
    rw [hr] at this; exact this
  have hb : buildL l bits = (bits, (treeL l bits).nodes, 0) := by unfold buildL; rw [if_pos ⟨hr, hk⟩, if_pos hf]
  have H3 : Hid (∀ W, Rd W v l → Calls Try.prog 25 #[v, .int .i64 bits] W (BuildPost W (bits, (treeL l bits).nodes, 0))) := fun W h => by
    have := build_any l bits v W h
    rw [hb] at this; exact this
  unfold BuildPost at H3
  have hS := stands_of hr hk hf
  have hbb := (keysP_iff bits).1 hk
  have HC1 : Hid (∀ W, Calls Try.prog 30 #[.agg (kc k), .int .i64 bits] W fun e w' => ∃ q, Bytes16 q ∧ e = .returned (.agg (kc q)) ∧ (keyEq q k = true → mayB (wholeP k bits) = true) ∧ Below W.heap.size W w') := fun W => cut_whole_any k hk0 bits hbb W
  have HC2 : Hid (∀ W, Calls Try.prog 30 #[.agg (kc q), .int .i64 bits] W fun e w' => ∃ p, Bytes16 p ∧ e = .returned (.agg (kc p)) ∧ (keyEq p q = true → mayB (wholeP q bits) = true) ∧ Below W.heap.size W w') := fun W => cut_whole_any q hq0 bits hbb W
  have HWK : Hid (∀ (x : Nat → Nat), Bytes16 x → mayB (wholeP x bits) = true → ∀ u W base, OwnN W base u (treeL l bits).nodes → Calls Try.prog 31 #[.agg (tc bits u), .agg (kc x)] W fun e w' => ∃ g cap m, e = .returned (.slice (some ⟨g, 0, none⟩) (m + 1) cap) ∧ WalkTo (treeL l bits) x m ∧ OwnI w' W.heap.size (.slice (some ⟨g, 0, none⟩) (m + 1) cap) (wayN (treeL l bits) x m) ∧ Below W.heap.size W w') := fun x hx hw u W base h => walk_way hS hx hw u W base h
  have HS := Lib.hid hS
  obtain ⟨D, hD⟩ : ∃ D : Nat, D = bits.toNat / 4 := ⟨_, rfl⟩
  have hD32 : D ≤ 32 := by omega
  have hD1 : 1 ≤ D := by omega
  have hquo : Int.tdiv bits 4 = (D : Nat) := by rcases hbb with e | e <;> subst e <;> rw [hD] <;> rfl
  have hwq : wrap64 (D : Int) = (D : Int) := by unfold wrap64; omega
  obtain ⟨d, hd⟩ : ∃ d, deepA bits 1 l = d := ⟨_, rfl⟩
  have hdD : d ≤ D := by
    rw [← hd]
    refine deepA_few bits l D (fun r hr2 hb2 => ?_) 1 hD1
    obtain ⟨m1, m2, m3, -⟩ := (mayB_iff r.pre r.hk).1 (((right_iff l).1 hr).2.may r hr2)
    unfold stepsR lastN
    omega
  have HDP : Hid (∀ W u base, OwnN W base u (treeL l bits).nodes → Calls Try.prog 32 #[.agg (tc bits u)] W fun e w' => e = .returned (.int .i64 (d : Nat)) ∧ Below W.heap.size W w') := fun W u base h => by
    have := deep_any (treeL l bits) bits hS u W (h.rd (by rw [Tr.nodes_length]; exact hS.ok.pos))
    rw [(tree_deep l bits).1, hd] at this; exact this
  have HCM : Hid (∀ W, Calls Try.prog 33 #[.agg (kc k), .agg (kc q)] W fun e w' => e = .returned (.int .i64 (com k q : Nat)) ∧ Below W.heap.size W w') := fun W => (com_any k q W hk0 hq0).mono fun e w' h => h
  have HFT : Hid ((treeL l bits).Fit D) := by show Tr.Fit _ _; rw [hD]; exact hS.fit
  clear hd hD
  have hN : (treeL l bits).nodes.length = (treeL l bits).ws.length := Tr.nodes_length _
  have hpos := hS.ok.pos
  obtain ⟨ns, hns⟩ : ∃ ns, (treeL l bits).nodes = ns := ⟨_, rfl⟩
  obtain ⟨N, hNN⟩ : ∃ N, (treeL l bits).ws.length = N := ⟨_, rfl⟩
  rw [hns] at H3 HWK HDP hN
  rw [hNN] at hN hpos
  have HN := Lib.hid hN
  have HPS := Lib.hid hpos
  obtain ⟨a, cap, hv, -⟩ := rd_len hR
  obtain ⟨n, hn⟩ : ∃ n, n = l.length := ⟨_, rfl⟩
  rw [← hn] at hv hl
  have hnI : (n : Int) ≤ 60 := by omega
  have HQ0 := Lib.hid hq0
  have HK0 := Lib.hid hk0
  have HNL := Lib.hid hn
  have HNT := Lib.hid hNN
  have HMY : Hid (∀ r ∈ l, mayB r.pre = true) := ((right_iff l).1 hr).2.may
  have HN512 : Hid (N ≤ 512) := by show N ≤ 512; rw [← hNN]; exact hf
  subst hv
  clear hR hr hb hn hl T hb0 hb1 hz0 hz1 rk rq hf hk hN hpos hNN hns hS hq0 hk0
  go_enter Try.func6, Try.ntmps6
  try rw [hW0]
  go_wp2_with fail
  refine H1.out.mono ?_
  rintro e1 w1 ⟨rfl, h1⟩
  have B1 := Lib.hid h1
  clear h1
  go_wp2_with fail
  refine (H2.out _ (HT.out _ B1.out).2.2.1).mono ?_
  rintro e2 w2 ⟨rfl, h2⟩
  have B2 := Lib.hid (B1.out.trans (h2.mono B1.out.size))
  clear h2
  go_wp2_with fail
  refine (H3.out _ (HT.out _ B2.out).2.2.1).mono ?_
  rintro e3 w3 ⟨v3, rfl, ho, h3⟩
  obtain ⟨g, c3, hv3, -, -⟩ := ho.form (by rw [HN.out]; exact HPS.out)
  rw [HN.out] at hv3
  subst hv3
  have st := run_trieStore_new bits (.slice (some ⟨g, 0, none⟩) N c3) rfl w3
  have hbx := Go.heap_alloc_new w3 (.cells (tc bits (.slice (some ⟨g, 0, none⟩) N c3)) 52)
  have hal : Below w3.heap.size w3 (w3.alloc (.cells (tc bits (.slice (some ⟨g, 0, none⟩) N c3)) 52)) := (Below.refl _ _).alloc (Nat.le_refl _) _
  obtain ⟨w4, hw4⟩ : ∃ w4, w3.alloc (.cells (tc bits (.slice (some ⟨g, 0, none⟩) N c3)) 52) = w4 := ⟨_, rfl⟩
  have ho4 := ho.later hal
  obtain ⟨b, hbn⟩ : ∃ b, w3.heap.size = b := ⟨_, rfl⟩
  have hb3 := B2.out.trans (h3.mono B2.out.size)
  have hb4 := hb3.trans (hal.mono hb3.size)
  rw [hw4] at hbx ho4 st hb4
  rw [hbn] at hbx st
  have HB4 := Lib.hid hb4
  have HF : Hid (∀ W, Below w4.heap.size w4 W → (keyLoad ⟨w.heap.size, 0, none⟩).run Try.prog W = .ok (.agg (kc k)) W ∧ (keyLoad ⟨w.heap.size + 1, 0, none⟩).run Try.prog W = .ok (.agg (kc q)) W) := fun W h => by
    obtain ⟨t1, t2, -⟩ := HT.out W (HB4.out.trans (h.mono HB4.out.size))
    exact ⟨t1, t2⟩
  have HG : Hid (∀ W, Below w4.heap.size w4 W → OwnN W w2.heap.size (.slice (some ⟨g, 0, none⟩) N c3) ns ∧ W.heap[b]? = some (.cells (tc bits (.slice (some ⟨g, 0, none⟩) N c3)) 52 (0, 0)) ∧ Rd W (.slice a n cap) l ∧ Below w.heap.size w W) := fun W h =>
    ⟨ho4.later h, (h.block _ (Array.getElem?_eq_some_iff.1 hbx).1).trans hbx, (HT.out W (HB4.out.trans (h.mono HB4.out.size))).2.2⟩
  clear ho h3 hal hb3 hb4 ho4 hbx H1 H2 H3
  go_wp2
  clear st
  refine wp_region_held_drew (S := (fun w' => (keyLoad ⟨w.heap.size, 0, none⟩).run Try.prog w' = .ok (.agg (kc k)) w' ∧ (keyLoad ⟨w.heap.size + 1, 0, none⟩).run Try.prog w' = .ok (.agg (kc q)) w')) (by kernel_rfl) (HF.out _ (Below.refl w4.heap.size w4).drew) (fun hHeld => ?_)
  refine wpAnyH_take (i := 0) (oi := { dst := some 35, op := Go.Op.move (Go.Operand.tmp 10), type := 30, pos := "law.go:96", after := #[], guard := none }) (v := ?v0b) rfl (by kernel_rfl) (by kernel_rfl) (by kernel_rfl) (fun _ _ _ h => h) (Or.inl ⟨by rfl, ?hy0b⟩) (by assumption) ?rest0b
  case hy0b => intro w hSw; (try dsimp only at hSw); go_simp; try with_reducible rfl
  try simp only [Act.put, List.setIfInBounds_toArray, List.set_cons_zero, List.set_cons_succ]
  refine wpAnyH_take (i := 1) (oi := { dst := some 36, op := Go.Op.binOp Go.BinOp.neq 30 (Go.Operand.tmp 35) (Go.Operand.const (Go.Value.int Go.IntKind.i64 0)) 30, type := 4, pos := "law.go:96", after := #[{ on := 0, ground := Go.Ground.data }], guard := none }) (v := ?v1b) rfl (by kernel_rfl) (by kernel_rfl) (by kernel_rfl) (fun _ _ _ h => h) (Or.inl ⟨by rfl, ?hy1b⟩) (by assumption) ?rest1b
  case hy1b => intro w hSw; (try dsimp only at hSw); go_simp; try with_reducible rfl
  try simp only [Act.put, List.setIfInBounds_toArray, List.set_cons_zero, List.set_cons_succ]
  refine wpAnyH_take (i := 2) (oi := { dst := some 37, op := Go.Op.move (Go.Operand.tmp 36), type := 4, pos := "law.go:96", after := #[{ on := 1, ground := Go.Ground.data }], guard := none }) (v := ?v2b) rfl (by kernel_rfl) (by kernel_rfl) (by kernel_rfl) (fun _ _ _ h => h) (Or.inl ⟨by rfl, ?hy2b⟩) (by assumption) ?rest2b
  case hy2b => intro w hSw; (try dsimp only at hSw); go_simp; try with_reducible rfl
  try simp only [Act.put, List.setIfInBounds_toArray, List.set_cons_zero, List.set_cons_succ]
  refine wpAnyH_take (i := 3) (oi := { dst := some 38, op := Go.Op.load 24 (Go.Operand.tmp 5), type := 24, pos := "law.go:96", after := #[{ on := 2, ground := Go.Ground.guard }], guard := some (2, false) }) (v := ?v3b) rfl (by kernel_rfl) (by kernel_rfl) (by kernel_rfl) (fun _ _ _ h => h) (Or.inl ⟨by rfl, ?hy3b⟩) (by assumption) ?rest3b
  case hy3b => intro w hSw; (try dsimp only at hSw); go_simp; try with_reducible rfl
  try simp only [Act.put, List.setIfInBounds_toArray, List.set_cons_zero, List.set_cons_succ]
  refine wpAnyH_take (i := 4) (oi := { dst := some 39, op := Go.Op.move (Go.Operand.tmp 3), type := 3, pos := "law.go:96", after := #[{ on := 2, ground := Go.Ground.guard }], guard := some (2, false) }) (v := ?v4b) rfl (by kernel_rfl) (by kernel_rfl) (by kernel_rfl) (fun _ _ _ h => h) (Or.inl ⟨by rfl, ?hy4b⟩) (by assumption) ?rest4b
  case hy4b => intro w hSw; (try dsimp only at hSw); go_simp; try with_reducible rfl
  try simp only [Act.put, List.setIfInBounds_toArray, List.set_cons_zero, List.set_cons_succ]
  refine wpAnyH_take (i := 6) (oi := { dst := some 41, op := Go.Op.load 24 (Go.Operand.tmp 5), type := 24, pos := "law.go:96", after := #[{ on := 2, ground := Go.Ground.guard }], guard := some (2, false) }) (v := ?v6b) rfl (by kernel_rfl) (by kernel_rfl) (by kernel_rfl) (fun _ _ _ h => h) (Or.inl ⟨by rfl, ?hy6b⟩) (by assumption) ?rest6b
  case hy6b => intro w hSw; (try dsimp only at hSw); go_simp; try with_reducible rfl
  try simp only [Act.put, List.setIfInBounds_toArray, List.set_cons_zero, List.set_cons_succ]
  refine wpAnyH_ready (rs := [5]) (by kernel_rfl) (by simp) ?_
  refine AllReadyH.cons (o := { dst := some 40, op := Go.Op.call { callee := Go.Callee.value (Go.Operand.func 30), args := #[Go.Operand.tmp 38, Go.Operand.tmp 39], argTypes := #[24, 3] }, type := 24, pos := "law.go:96", after := #[{ on := 3, ground := Go.Ground.data }, { on := 4, ground := Go.Ground.data }, { on := 2, ground := Go.Ground.chain }, { on := 2, ground := Go.Ground.guard }], guard := some (2, false) }) rfl (fun K hK => ?_) AllReadyH.nil
  go_simp
  go_at_call 30
  refine (HC1.out _).mono ?_
  rintro e5 w5 ⟨k5, hk5, rfl, hm5, h5'⟩
  have h5 : Below w4.heap.size w4 w5 := (Below.refl w4.heap.size w4).drew.trans h5'
  have hne := run_keyNeq k5 k
  clear h5'
  go_simp
  refine hK.out _ _ (HF.out _ h5) (fun hHeld => ?_)
  clear hK K
  try simp only [Act.put, List.setIfInBounds_toArray, List.set_cons_zero, List.set_cons_succ]
  cases hq5 : keyEq k5 k with
  | false =>
    rw [hq5] at hne
    refine wpAnyH_take (i := 7) (oi := { dst := some 42, op := Go.Op.binOp Go.BinOp.neq 24 (Go.Operand.tmp 40) (Go.Operand.tmp 41) 24, type := 4, pos := "law.go:96", after := #[{ on := 5, ground := Go.Ground.data }, { on := 6, ground := Go.Ground.data }, { on := 2, ground := Go.Ground.guard }], guard := some (2, false) }) (v := ?v7c) rfl (by kernel_rfl) (by kernel_rfl) (by kernel_rfl) (fun _ _ _ h => h) (Or.inl ⟨by rfl, ?hy7c⟩) (by assumption) ?rest7c
    case hy7c => intro w hSw; (try dsimp only at hSw); go_simp; try with_reducible rfl
    try simp only [Act.put, List.setIfInBounds_toArray, List.set_cons_zero, List.set_cons_succ]
    refine wpAnyH_take (i := 8) (oi := { dst := some 43, op := Go.Op.pick (Go.Operand.tmp 37) (Go.Operand.const (Go.Value.bool true)) (Go.Operand.tmp 42), type := 4, pos := "law.go:96", after := #[{ on := 2, ground := Go.Ground.data }, { on := 7, ground := Go.Ground.data }], guard := none }) (v := ?v8c) rfl (by kernel_rfl) (by kernel_rfl) (by kernel_rfl) (fun _ _ _ h => h) (Or.inl ⟨by rfl, ?hy8c⟩) (by assumption) ?rest8c
    case hy8c => intro w hSw; (try dsimp only at hSw); go_simp; try with_reducible rfl
    try simp only [Act.put, List.setIfInBounds_toArray, List.set_cons_zero, List.set_cons_succ]
    refine wpAnyH_take (i := 9) (oi := { dst := some 44, op := Go.Op.move (Go.Operand.tmp 43), type := 4, pos := "law.go:96", after := #[{ on := 8, ground := Go.Ground.data }, { on := 5, ground := Go.Ground.chain }], guard := none }) (v := ?v9c) rfl (by kernel_rfl) (by kernel_rfl) (by kernel_rfl) (fun _ _ _ h => h) (Or.inl ⟨by rfl, ?hy9c⟩) (by assumption) ?rest9c
    case hy9c => intro w hSw; (try dsimp only at hSw); go_simp; try with_reducible rfl
    try simp only [Act.put, List.setIfInBounds_toArray, List.set_cons_zero, List.set_cons_succ]
    refine wpAnyH_take (i := 10) (oi := { dst := some 45, op := Go.Op.load 24 (Go.Operand.tmp 6), type := 24, pos := "law.go:96", after := #[{ on := 9, ground := Go.Ground.guard }], guard := some (9, false) }) rfl (by kernel_rfl) (by kernel_rfl) (by kernel_rfl) (fun _ _ _ h => h) (Or.inr ⟨by rfl, rfl⟩) (by assumption) ?_
    try simp only [Act.put, List.setIfInBounds_toArray, List.set_cons_zero, List.set_cons_succ]
    refine wpAnyH_take (i := 11) (oi := { dst := some 46, op := Go.Op.move (Go.Operand.tmp 3), type := 3, pos := "law.go:96", after := #[{ on := 9, ground := Go.Ground.guard }], guard := some (9, false) }) rfl (by kernel_rfl) (by kernel_rfl) (by kernel_rfl) (fun _ _ _ h => h) (Or.inr ⟨by rfl, rfl⟩) (by assumption) ?_
    try simp only [Act.put, List.setIfInBounds_toArray, List.set_cons_zero, List.set_cons_succ]
    refine wpAnyH_take (i := 12) (oi := { dst := some 47, op := Go.Op.call { callee := Go.Callee.value (Go.Operand.func 30), args := #[Go.Operand.tmp 45, Go.Operand.tmp 46], argTypes := #[24, 3] }, type := 24, pos := "law.go:96", after := #[{ on := 10, ground := Go.Ground.data }, { on := 11, ground := Go.Ground.data }, { on := 9, ground := Go.Ground.chain }, { on := 9, ground := Go.Ground.guard }], guard := some (9, false) }) rfl (by kernel_rfl) (by kernel_rfl) (by kernel_rfl) (fun _ _ _ h => h) (Or.inr ⟨by rfl, rfl⟩) (by assumption) ?_
    try simp only [Act.put, List.setIfInBounds_toArray, List.set_cons_zero, List.set_cons_succ]
    refine wpAnyH_take (i := 13) (oi := { dst := some 48, op := Go.Op.load 24 (Go.Operand.tmp 6), type := 24, pos := "law.go:96", after := #[{ on := 9, ground := Go.Ground.guard }], guard := some (9, false) }) rfl (by kernel_rfl) (by kernel_rfl) (by kernel_rfl) (fun _ _ _ h => h) (Or.inr ⟨by rfl, rfl⟩) (by assumption) ?_
    try simp only [Act.put, List.setIfInBounds_toArray, List.set_cons_zero, List.set_cons_succ]
    refine wpAnyH_take (i := 14) (oi := { dst := some 49, op := Go.Op.binOp Go.BinOp.neq 24 (Go.Operand.tmp 47) (Go.Operand.tmp 48) 24, type := 4, pos := "law.go:96", after := #[{ on := 12, ground := Go.Ground.data }, { on := 13, ground := Go.Ground.data }, { on := 9, ground := Go.Ground.guard }], guard := some (9, false) }) rfl (by kernel_rfl) (by kernel_rfl) (by kernel_rfl) (fun _ _ _ h => h) (Or.inr ⟨by rfl, rfl⟩) (by assumption) ?_
    try simp only [Act.put, List.setIfInBounds_toArray, List.set_cons_zero, List.set_cons_succ]
    refine wpAnyH_take (i := 15) (oi := { dst := some 50, op := Go.Op.pick (Go.Operand.tmp 44) (Go.Operand.const (Go.Value.bool true)) (Go.Operand.tmp 49), type := 4, pos := "law.go:96", after := #[{ on := 9, ground := Go.Ground.data }, { on := 14, ground := Go.Ground.data }], guard := none }) (v := ?v15c) rfl (by kernel_rfl) (by kernel_rfl) (by kernel_rfl) (fun _ _ _ h => h) (Or.inl ⟨by rfl, ?hy15c⟩) (by assumption) ?rest15c
    case hy15c => intro w hSw; (try dsimp only at hSw); go_simp; try with_reducible rfl
    try simp only [Act.put, List.setIfInBounds_toArray, List.set_cons_zero, List.set_cons_succ]
    refine wpAnyH_done (by kernel_rfl) ?_ _
    have FIN := Lib.hid (HG.out _ h5).2.2.2
    clear hHeld hne
    go_wp2
    go_ret
    exact ⟨rfl, FIN.out⟩
  | true =>
    rw [hq5] at hne
    refine wpAnyH_take (i := 7) (oi := { dst := some 42, op := Go.Op.binOp Go.BinOp.neq 24 (Go.Operand.tmp 40) (Go.Operand.tmp 41) 24, type := 4, pos := "law.go:96", after := #[{ on := 5, ground := Go.Ground.data }, { on := 6, ground := Go.Ground.data }, { on := 2, ground := Go.Ground.guard }], guard := some (2, false) }) (v := ?v7d) rfl (by kernel_rfl) (by kernel_rfl) (by kernel_rfl) (fun _ _ _ h => h) (Or.inl ⟨by rfl, ?hy7d⟩) (by assumption) ?rest7d
    case hy7d => intro w hSw; (try dsimp only at hSw); go_simp; try with_reducible rfl
    try simp only [Act.put, List.setIfInBounds_toArray, List.set_cons_zero, List.set_cons_succ]
    refine wpAnyH_take (i := 8) (oi := { dst := some 43, op := Go.Op.pick (Go.Operand.tmp 37) (Go.Operand.const (Go.Value.bool true)) (Go.Operand.tmp 42), type := 4, pos := "law.go:96", after := #[{ on := 2, ground := Go.Ground.data }, { on := 7, ground := Go.Ground.data }], guard := none }) (v := ?v8d) rfl (by kernel_rfl) (by kernel_rfl) (by kernel_rfl) (fun _ _ _ h => h) (Or.inl ⟨by rfl, ?hy8d⟩) (by assumption) ?rest8d
    case hy8d => intro w hSw; (try dsimp only at hSw); go_simp; try with_reducible rfl
    try simp only [Act.put, List.setIfInBounds_toArray, List.set_cons_zero, List.set_cons_succ]
    refine wpAnyH_take (i := 9) (oi := { dst := some 44, op := Go.Op.move (Go.Operand.tmp 43), type := 4, pos := "law.go:96", after := #[{ on := 8, ground := Go.Ground.data }, { on := 5, ground := Go.Ground.chain }], guard := none }) (v := ?v9d) rfl (by kernel_rfl) (by kernel_rfl) (by kernel_rfl) (fun _ _ _ h => h) (Or.inl ⟨by rfl, ?hy9d⟩) (by assumption) ?rest9d
    case hy9d => intro w hSw; (try dsimp only at hSw); go_simp; try with_reducible rfl
    try simp only [Act.put, List.setIfInBounds_toArray, List.set_cons_zero, List.set_cons_succ]
    refine wpAnyH_take (i := 10) (oi := { dst := some 45, op := Go.Op.load 24 (Go.Operand.tmp 6), type := 24, pos := "law.go:96", after := #[{ on := 9, ground := Go.Ground.guard }], guard := some (9, false) }) (v := ?v10d) rfl (by kernel_rfl) (by kernel_rfl) (by kernel_rfl) (fun _ _ _ h => h) (Or.inl ⟨by rfl, ?hy10d⟩) (by assumption) ?rest10d
    case hy10d => intro w hSw; (try dsimp only at hSw); go_simp; try with_reducible rfl
    try simp only [Act.put, List.setIfInBounds_toArray, List.set_cons_zero, List.set_cons_succ]
    refine wpAnyH_take (i := 11) (oi := { dst := some 46, op := Go.Op.move (Go.Operand.tmp 3), type := 3, pos := "law.go:96", after := #[{ on := 9, ground := Go.Ground.guard }], guard := some (9, false) }) (v := ?v11d) rfl (by kernel_rfl) (by kernel_rfl) (by kernel_rfl) (fun _ _ _ h => h) (Or.inl ⟨by rfl, ?hy11d⟩) (by assumption) ?rest11d
    case hy11d => intro w hSw; (try dsimp only at hSw); go_simp; try with_reducible rfl
    try simp only [Act.put, List.setIfInBounds_toArray, List.set_cons_zero, List.set_cons_succ]
    refine wpAnyH_take (i := 13) (oi := { dst := some 48, op := Go.Op.load 24 (Go.Operand.tmp 6), type := 24, pos := "law.go:96", after := #[{ on := 9, ground := Go.Ground.guard }], guard := some (9, false) }) (v := ?v13d) rfl (by kernel_rfl) (by kernel_rfl) (by kernel_rfl) (fun _ _ _ h => h) (Or.inl ⟨by rfl, ?hy13d⟩) (by assumption) ?rest13d
    case hy13d => intro w hSw; (try dsimp only at hSw); go_simp; try with_reducible rfl
    try simp only [Act.put, List.setIfInBounds_toArray, List.set_cons_zero, List.set_cons_succ]
    refine wpAnyH_ready (rs := [12]) (by kernel_rfl) (by simp) ?_
    refine AllReadyH.cons (o := { dst := some 47, op := Go.Op.call { callee := Go.Callee.value (Go.Operand.func 30), args := #[Go.Operand.tmp 45, Go.Operand.tmp 46], argTypes := #[24, 3] }, type := 24, pos := "law.go:96", after := #[{ on := 10, ground := Go.Ground.data }, { on := 11, ground := Go.Ground.data }, { on := 9, ground := Go.Ground.chain }, { on := 9, ground := Go.Ground.guard }], guard := some (9, false) }) rfl (fun K hK => ?_) AllReadyH.nil
    go_simp
    go_at_call 30
    refine (HC2.out _).mono ?_
    rintro e6 w6 ⟨k6, hk6, rfl, hm6, h6'⟩
    have h6 : Below w4.heap.size w4 w6 := h5.trans (h6'.mono h5.size)
    have hnf := run_keyNeq k6 q
    clear h6'
    go_simp
    refine hK.out _ _ (HF.out _ h6) (fun hHeld => ?_)
    clear hK K
    try simp only [Act.put, List.setIfInBounds_toArray, List.set_cons_zero, List.set_cons_succ]
    cases hq6 : keyEq k6 q with
    | false =>
      rw [hq6] at hnf
      refine wpAnyH_take (i := 14) (oi := { dst := some 49, op := Go.Op.binOp Go.BinOp.neq 24 (Go.Operand.tmp 47) (Go.Operand.tmp 48) 24, type := 4, pos := "law.go:96", after := #[{ on := 12, ground := Go.Ground.data }, { on := 13, ground := Go.Ground.data }, { on := 9, ground := Go.Ground.guard }], guard := some (9, false) }) (v := ?v14e) rfl (by kernel_rfl) (by kernel_rfl) (by kernel_rfl) (fun _ _ _ h => h) (Or.inl ⟨by rfl, ?hy14e⟩) (by assumption) ?rest14e
      case hy14e => intro w hSw; (try dsimp only at hSw); go_simp; try with_reducible rfl
      try simp only [Act.put, List.setIfInBounds_toArray, List.set_cons_zero, List.set_cons_succ]
      refine wpAnyH_take (i := 15) (oi := { dst := some 50, op := Go.Op.pick (Go.Operand.tmp 44) (Go.Operand.const (Go.Value.bool true)) (Go.Operand.tmp 49), type := 4, pos := "law.go:96", after := #[{ on := 9, ground := Go.Ground.data }, { on := 14, ground := Go.Ground.data }], guard := none }) (v := ?v15e) rfl (by kernel_rfl) (by kernel_rfl) (by kernel_rfl) (fun _ _ _ h => h) (Or.inl ⟨by rfl, ?hy15e⟩) (by assumption) ?rest15e
      case hy15e => intro w hSw; (try dsimp only at hSw); go_simp; try with_reducible rfl
      try simp only [Act.put, List.setIfInBounds_toArray, List.set_cons_zero, List.set_cons_succ]
      refine wpAnyH_done (by kernel_rfl) ?_ _
      have FIN := Lib.hid (HG.out _ h6).2.2.2
      clear hHeld hne hnf
      go_wp2
      go_ret
      exact ⟨rfl, FIN.out⟩
    | true =>
      rw [hq6] at hnf
      refine wpAnyH_take (i := 14) (oi := { dst := some 49, op := Go.Op.binOp Go.BinOp.neq 24 (Go.Operand.tmp 47) (Go.Operand.tmp 48) 24, type := 4, pos := "law.go:96", after := #[{ on := 12, ground := Go.Ground.data }, { on := 13, ground := Go.Ground.data }, { on := 9, ground := Go.Ground.guard }], guard := some (9, false) }) (v := ?v14f) rfl (by kernel_rfl) (by kernel_rfl) (by kernel_rfl) (fun _ _ _ h => h) (Or.inl ⟨by rfl, ?hy14f⟩) (by assumption) ?rest14f
      case hy14f => intro w hSw; (try dsimp only at hSw); go_simp; try with_reducible rfl
      try simp only [Act.put, List.setIfInBounds_toArray, List.set_cons_zero, List.set_cons_succ]
      refine wpAnyH_take (i := 15) (oi := { dst := some 50, op := Go.Op.pick (Go.Operand.tmp 44) (Go.Operand.const (Go.Value.bool true)) (Go.Operand.tmp 49), type := 4, pos := "law.go:96", after := #[{ on := 9, ground := Go.Ground.data }, { on := 14, ground := Go.Ground.data }], guard := none }) (v := ?v15f) rfl (by kernel_rfl) (by kernel_rfl) (by kernel_rfl) (fun _ _ _ h => h) (Or.inl ⟨by rfl, ?hy15f⟩) (by assumption) ?rest15f
      case hy15f => intro w hSw; (try dsimp only at hSw); go_simp; try with_reducible rfl
      try simp only [Act.put, List.setIfInBounds_toArray, List.set_cons_zero, List.set_cons_succ]
      refine wpAnyH_done (by kernel_rfl) ?_ _
      clear hHeld hne hnf
      have HMK := Lib.hid (hm5 hq5)
      have HMQ := Lib.hid (hm6 hq6)
      have HF2 : Hid (∀ W, Below w6.heap.size w6 W → (trieLoad ⟨b, 0, none⟩).run Try.prog W = .ok (.agg (tc bits (.slice (some ⟨g, 0, none⟩) N c3))) W ∧ (keyLoad ⟨w.heap.size, 0, none⟩).run Try.prog W = .ok (.agg (kc k)) W ∧ (keyLoad ⟨w.heap.size + 1, 0, none⟩).run Try.prog W = .ok (.agg (kc q)) W) := fun W h => by
        have h4 := h6.trans (h.mono h6.size)
        exact ⟨run_trieLoad (HG.out _ h4).2.1, HF.out _ h4⟩
      clear hm5 hm6 hq5 hq6
      go_wp2
      refine wp_region_held_drew (S := (fun w' => (trieLoad ⟨b, 0, none⟩).run Try.prog w' = .ok (.agg (tc bits (.slice (some ⟨g, 0, none⟩) N c3))) w' ∧ (keyLoad ⟨w.heap.size, 0, none⟩).run Try.prog w' = .ok (.agg (kc k)) w' ∧ (keyLoad ⟨w.heap.size + 1, 0, none⟩).run Try.prog w' = .ok (.agg (kc q)) w')) (by kernel_rfl) (HF2.out _ (Below.refl w6.heap.size w6).drew) (fun hHeld => ?_)
      refine wpAnyH_take (i := 0) (oi := { dst := some 51, op := Go.Op.load 52 (Go.Operand.tmp 9), type := 52, pos := "law.go:99", after := #[], guard := none }) (v := ?v0g) rfl (by kernel_rfl) (by kernel_rfl) (by kernel_rfl) (fun _ _ _ h => h) (Or.inl ⟨by rfl, ?hy0g⟩) (by assumption) ?rest0g
      case hy0g => intro w hSw; (try dsimp only at hSw); go_simp; try with_reducible rfl
      try simp only [Act.put, List.setIfInBounds_toArray, List.set_cons_zero, List.set_cons_succ]
      refine wpAnyH_take (i := 1) (oi := { dst := some 52, op := Go.Op.load 24 (Go.Operand.tmp 5), type := 24, pos := "law.go:99", after := #[], guard := none }) (v := ?v1g) rfl (by kernel_rfl) (by kernel_rfl) (by kernel_rfl) (fun _ _ _ h => h) (Or.inl ⟨by rfl, ?hy1g⟩) (by assumption) ?rest1g
      case hy1g => intro w hSw; (try dsimp only at hSw); go_simp; try with_reducible rfl
      try simp only [Act.put, List.setIfInBounds_toArray, List.set_cons_zero, List.set_cons_succ]
      refine wpAnyH_take (i := 3) (oi := { dst := some 54, op := Go.Op.load 52 (Go.Operand.tmp 9), type := 52, pos := "law.go:99", after := #[], guard := none }) (v := ?v3g) rfl (by kernel_rfl) (by kernel_rfl) (by kernel_rfl) (fun _ _ _ h => h) (Or.inl ⟨by rfl, ?hy3g⟩) (by assumption) ?rest3g
      case hy3g => intro w hSw; (try dsimp only at hSw); go_simp; try with_reducible rfl
      try simp only [Act.put, List.setIfInBounds_toArray, List.set_cons_zero, List.set_cons_succ]
      refine wpAnyH_take (i := 4) (oi := { dst := some 55, op := Go.Op.load 24 (Go.Operand.tmp 6), type := 24, pos := "law.go:99", after := #[], guard := none }) (v := ?v4g) rfl (by kernel_rfl) (by kernel_rfl) (by kernel_rfl) (fun _ _ _ h => h) (Or.inl ⟨by rfl, ?hy4g⟩) (by assumption) ?rest4g
      case hy4g => intro w hSw; (try dsimp only at hSw); go_simp; try with_reducible rfl
      try simp only [Act.put, List.setIfInBounds_toArray, List.set_cons_zero, List.set_cons_succ]
      refine wpAnyH_ready (rs := [2]) (by kernel_rfl) (by simp) ?_
      refine AllReadyH.cons (o := { dst := some 53, op := Go.Op.call { callee := Go.Callee.value (Go.Operand.func 31), args := #[Go.Operand.tmp 51, Go.Operand.tmp 52], argTypes := #[52, 24] }, type := 64, pos := "law.go:99", after := #[{ on := 0, ground := Go.Ground.data }, { on := 1, ground := Go.Ground.data }], guard := none }) rfl (fun K hK => ?_) AllReadyH.nil
      go_simp
      go_at_call 31
      refine (HWK.out k HK0.out HMK.out _ _ _ (HG.out _ h6.drew).1).mono ?_
      rintro e7 w7 ⟨gx, cx, mx, rfl, hwx, hox, h7'⟩
      have h7 : Below w6.heap.size w6 w7 := (Below.refl w6.heap.size w6).drew.trans h7'
      clear h7'
      go_simp
      refine hK.out _ _ (HF2.out _ h7) (fun hHeld => ?_)
      clear hK K
      try simp only [Act.put, List.setIfInBounds_toArray, List.set_cons_zero, List.set_cons_succ]
      refine wpAnyH_ready (rs := [5]) (by kernel_rfl) (by simp) ?_
      refine AllReadyH.cons (o := { dst := some 56, op := Go.Op.call { callee := Go.Callee.value (Go.Operand.func 31), args := #[Go.Operand.tmp 54, Go.Operand.tmp 55], argTypes := #[52, 24] }, type := 64, pos := "law.go:99", after := #[{ on := 3, ground := Go.Ground.data }, { on := 4, ground := Go.Ground.data }, { on := 2, ground := Go.Ground.chain }], guard := none }) rfl (fun K hK => ?_) AllReadyH.nil
      go_simp
      go_at_call 31
      refine (HWK.out q HQ0.out HMQ.out _ _ _ (HG.out _ (h6.trans (h7.mono h6.size))).1).mono ?_
      rintro e8 w8 ⟨gy, cy, my, rfl, hwy, hoy, h8'⟩
      have h8 : Below w6.heap.size w6 w8 := h7.trans (h8'.mono h7.size)
      have hox8 := hox.later h8'
      clear h8' hox
      go_simp
      refine hK.out _ _ (HF2.out _ h8) (fun hHeld => ?_)
      clear hK K
      try simp only [Act.put, List.setIfInBounds_toArray, List.set_cons_zero, List.set_cons_succ]
      refine wpAnyH_take (i := 6) (oi := { dst := some 11, op := Go.Op.assign (Go.Operand.tmp 53), type := 64, pos := "law.go:99", after := #[{ on := 2, ground := Go.Ground.data }, { on := 5, ground := Go.Ground.chain }, { on := 0, ground := Go.Ground.phase }, { on := 1, ground := Go.Ground.phase }, { on := 2, ground := Go.Ground.phase }, { on := 3, ground := Go.Ground.textOnly Go.Departure.lateStores }, { on := 4, ground := Go.Ground.textOnly Go.Departure.lateStores }, { on := 5, ground := Go.Ground.textOnly Go.Departure.lateStoresUnsure }], guard := none }) (v := ?v6g) rfl (by kernel_rfl) (by kernel_rfl) (by kernel_rfl) (fun _ _ _ h => h) (Or.inl ⟨by rfl, ?hy6g⟩) (by assumption) ?rest6g
      case hy6g => intro w hSw; (try dsimp only at hSw); go_simp; try with_reducible rfl
      try simp only [Act.put, List.setIfInBounds_toArray, List.set_cons_zero, List.set_cons_succ]
      refine wpAnyH_take (i := 7) (oi := { dst := some 12, op := Go.Op.assign (Go.Operand.tmp 56), type := 64, pos := "law.go:99", after := #[{ on := 5, ground := Go.Ground.data }, { on := 6, ground := Go.Ground.chain }, { on := 0, ground := Go.Ground.phase }, { on := 1, ground := Go.Ground.phase }, { on := 2, ground := Go.Ground.phase }, { on := 3, ground := Go.Ground.phase }, { on := 4, ground := Go.Ground.phase }, { on := 5, ground := Go.Ground.phase }, { on := 6, ground := Go.Ground.phase }], guard := none }) (v := ?v7g) rfl (by kernel_rfl) (by kernel_rfl) (by kernel_rfl) (fun _ _ _ h => h) (Or.inl ⟨by rfl, ?hy7g⟩) (by assumption) ?rest7g
      case hy7g => intro w hSw; (try dsimp only at hSw); go_simp; try with_reducible rfl
      try simp only [Act.put, List.setIfInBounds_toArray, List.set_cons_zero, List.set_cons_succ]
      refine wpAnyH_done (by kernel_rfl) ?_ _
      have H48 := Lib.hid (h6.trans (h8.mono h6.size))
      have OX := Lib.hid hox8
      have OY := Lib.hid hoy
      clear hHeld h7 h8 hox8 hoy h5 h6 HF2
      have lt := run_trieLoad (HG.out _ H48.out).2.1
      have hLD := way_len HFT.out hwx
      obtain ⟨L, hL⟩ : ∃ L, mx + 1 = L := ⟨_, rfl⟩
      obtain ⟨M, hM⟩ : ∃ M, my + 1 = M := ⟨_, rfl⟩
      rw [hL] at hLD OX ⊢
      rw [hM] at OY ⊢
      have HL := Lib.hid hL
      have HM := Lib.hid hM
      have HWX := Lib.hid hwx
      have HWY := Lib.hid hwy
      have hLI : (L : Int) ≤ D := by omega
      have hL1 : (1 : Int) ≤ L := by omega
      have hDI : (D : Int) ≤ 32 := by omega
      have hdI : (d : Int) ≤ D := by omega
      have q1 : decide ((L : Int) < 1) = false := decide_eq_false (by omega)
      have q2 : decide ((D : Int) < L) = false := decide_eq_false (by omega)
      have q3 : decide ((D : Int) < d) = false := decide_eq_false (by omega)
      have q4 : decide (D < L) = false := decide_eq_false (by omega)
      have q5 : decide (D < d) = false := decide_eq_false (by omega)
      have HDN : Hid (L ≤ 32) := by show _ ≤ _; omega
      clear hwx hwy hL hM hbb HC1 HC2
      go_wp2_with fail
      refine (HDP.out _ _ _ (HG.out _ H48.out).1).mono ?_
      rintro e9 w9 ⟨rfl, h9⟩
      have H49 := Lib.hid (H48.out.trans (h9.mono H48.out.size))
      replace OX := Lib.hid (OX.out.later h9)
      replace OY := Lib.hid (OY.out.later h9)
      clear h9 lt
      have HK9 : Hid (∀ W, Below w9.heap.size w9 W → Below w4.heap.size w4 W) := fun W h => H49.out.trans (h.mono H49.out.size)
      go_upto_block 0 with fail
      go_cut [8, 13] from 74 to 102 (fun _ _ wx => Hid (Below w9.heap.size w9 wx))
      case first =>
        go_wp2_with fail
        go_loopw [13] (fun i wr => ∃ i' : Nat, i' ≤ L ∧ i = .int .i64 i' ∧ Hid (Below w9.heap.size w9 wr)) (fun i _ => L - (intOf i).toNat)
        case atStart => exact ⟨0, Nat.zero_le _, rfl, Below.refl _ _⟩
        case round =>
          obtain ⟨i, hi, rfl, HW⟩ := hrel
          clear hquo hwq
          obtain ⟨lk1, lk2⟩ := HF.out wr (HK9.out wr HW.out)
          by_cases hlt : i < L
          · have hltI : (i : Int) < L := by omega
            have hi0 : (0 : Int) ≤ i := by omega
            go_wp2_with fail
            refine (HCM.out _).mono ?_
            rintro e10 w10 ⟨rfl, h10⟩
            have HW10 := Lib.hid (HW.out.trans (h10.mono HW.out.size))
            obtain ⟨c, hc⟩ : ∃ c, com k q = c := ⟨_, rfl⟩
            have hc128 : c ≤ 128 := by rw [← hc]; exact (com_is k q).1
            rw [hc]
            obtain ⟨C, hC⟩ : ∃ C : Nat, C = c / 4 := ⟨_, rfl⟩
            have hCI : (C : Int) ≤ 32 := by omega
            have HCQ : Hid ((c : Int) / 4 = (C : Int)) := by show _ = _; rw [hC]; rfl
            have hc4 : C * 4 ≤ c := by omega
            clear h10 lk1 lk2 hC
            by_cases hle : i ≤ C
            · have hleI : (i : Int) ≤ C := Int.ofNat_le.2 hle
              have hmx : i ≤ mx := by have := HL.out; omega
              obtain ⟨hiy, hpe⟩ := way_same HK0.out HQ0.out HWX.out HWY.out hmx (by have := HDN.out; omega) (by rw [hc]; omega)
              obtain ⟨z, hz⟩ : ∃ z, idx0 (treeL l bits).ws (pathN k i) = z := ⟨_, rfl⟩
              have hiM : (i : Int) < M := by have := HM.out; omega
              have ox : w10.cell? ⟨gx, i, none⟩ = some (.int .i64 (z : Nat)) := (OX.out.later HW10.out).cell (j := i) (x := z) (by rw [wayN_length]; exact HL.out.symm) (by rw [wayN_at _ _ hmx, hz])
              have oy : w10.cell? ⟨gy, i, none⟩ = some (.int .i64 (z : Nat)) := (OY.out.later HW10.out).cell (j := i) (x := z) (by rw [wayN_length]; exact HM.out.symm) (by rw [wayN_at _ _ hiy, ← hpe, hz])
              have HOX := Lib.hid (And.intro ox oy)
              have hcq := HCQ.out
              clear hc hpe hz hmx hiy ox oy hc4
              go_wp2
              refine region_slots (by kernel_rfl) (by kernel_rfl) (Gof [Gd.eq (.int .i64 (i : Int)), Gd.eq (.slice (some ⟨gy, 0, none⟩) M cy), Gd.eq (.int .i64 (M : Int)), Gd.eq (.bool false), Gd.eq (.bool false), Gd.eq (.slice (some ⟨gx, 0, none⟩) L cx), Gd.eq (.int .i64 (i : Int)), Gd.eq (.pointer (some ⟨gx, i, none⟩)), Gd.eq (.int .i64 (z : Int)), Gd.eq (.slice (some ⟨gy, 0, none⟩) M cy), Gd.eq (.int .i64 (i : Int)), Gd.eq (.pointer (some ⟨gy, i, none⟩)), Gd.eq (.int .i64 (z : Int)), Gd.eq (.bool false), Gd.eq (.bool false)]) (Gof_st _) (steps_all ?_) ?_
              · dsimp only
                refine StepsFrom.cons ?s0 (StepsFrom.cons ?s1 (StepsFrom.cons ?s2 (StepsFrom.cons ?s3 (StepsFrom.cons ?s4 (StepsFrom.cons ?s5 (StepsFrom.cons ?s6 (StepsFrom.cons ?s7 (StepsFrom.cons ?s8 (StepsFrom.cons ?s9 (StepsFrom.cons ?s10 (StepsFrom.cons ?s11 (StepsFrom.cons ?s12 (StepsFrom.cons ?s13 (StepsFrom.cons ?s14 StepsFrom.nil))))))))))))))
                case s0 =>
                  intro ac wc hU
                  have e13 : slot ac 13 = .int .i64 (i : Int) := (hU.keep 13 (by kernel_rfl)).trans rfl
                  refine step_val (wanted_none rfl) (run_move rfl) ?_
                  show (Gd.eq (.int .i64 (i : Int))).p _ wc
                  exact (by rw [eval_tmp]; exact e13)
                case s1 =>
                  intro ac wc hU
                  have e12 : slot ac 12 = .slice (some ⟨gy, 0, none⟩) M cy := (hU.keep 12 (by kernel_rfl)).trans rfl
                  refine step_val (wanted_none rfl) (run_move rfl) ?_
                  show (Gd.eq (.slice (some ⟨gy, 0, none⟩) M cy)).p _ wc
                  exact (by rw [eval_tmp]; exact e12)
                case s2 =>
                  intro ac wc hU
                  have e89 : (Gd.eq (.slice (some ⟨gy, 0, none⟩) M cy)).p (slot ac 89) wc := hU.dep 1 89 (by kernel_rfl)
                  refine step_val (wanted_none rfl) (v := .int .i64 (M : Int)) ?_ rfl
                  have e89 : slot ac 89 = .slice (some ⟨gy, 0, none⟩) M cy := e89
                  simp [execOp, resolve, invoke, builtin, eval_tmp, e89] <;> go_simp
                case s3 =>
                  intro ac wc hU
                  have e88 : (Gd.eq (.int .i64 (i : Int))).p (slot ac 88) wc := hU.dep 0 88 (by kernel_rfl)
                  have e90 : (Gd.eq (.int .i64 (M : Int))).p (slot ac 90) wc := hU.dep 2 90 (by kernel_rfl)
                  refine step_val (wanted_none rfl) (v := .bool false) ?_ rfl
                  have e88 : slot ac 88 = .int .i64 (i : Int) := e88
                  have e90 : slot ac 90 = .int .i64 (M : Int) := e90
                  simp [execOp, eval_tmp, e88, e90] <;> go_simp <;> exact Int.ofNat_lt.1 hiM
                case s4 =>
                  intro ac wc hU
                  have e91 : (Gd.eq (.bool false)).p (slot ac 91) wc := hU.dep 3 91 (by kernel_rfl)
                  refine step_val (wanted_none rfl) (run_move rfl) ?_
                  show (Gd.eq (.bool false)).p _ wc
                  exact (by rw [eval_tmp]; exact e91)
                case s5 =>
                  intro ac wc hU
                  have e11 : slot ac 11 = .slice (some ⟨gx, 0, none⟩) L cx := (hU.keep 11 (by kernel_rfl)).trans rfl
                  have e92 : (Gd.eq (.bool false)).p (slot ac 92) wc := hU.dep 4 92 (by kernel_rfl)
                  refine step_val ((wanted_some rfl rfl e92).trans rfl) (run_move rfl) ?_
                  show (Gd.eq (.slice (some ⟨gx, 0, none⟩) L cx)).p _ wc
                  exact (by rw [eval_tmp]; exact e11)
                case s6 =>
                  intro ac wc hU
                  have e13 : slot ac 13 = .int .i64 (i : Int) := (hU.keep 13 (by kernel_rfl)).trans rfl
                  have e92 : (Gd.eq (.bool false)).p (slot ac 92) wc := hU.dep 4 92 (by kernel_rfl)
                  refine step_val ((wanted_some rfl rfl e92).trans rfl) (run_move rfl) ?_
                  show (Gd.eq (.int .i64 (i : Int))).p _ wc
                  exact (by rw [eval_tmp]; exact e13)
                case s7 =>
                  intro ac wc hU
                  have e93 : (Gd.eq (.slice (some ⟨gx, 0, none⟩) L cx)).p (slot ac 93) wc := hU.dep 5 93 (by kernel_rfl)
                  have e94 : (Gd.eq (.int .i64 (i : Int))).p (slot ac 94) wc := hU.dep 6 94 (by kernel_rfl)
                  have e92 : (Gd.eq (.bool false)).p (slot ac 92) wc := hU.dep 4 92 (by kernel_rfl)
                  refine step_val ((wanted_some rfl rfl e92).trans rfl) (v := .pointer (some ⟨gx, i, none⟩)) ?_ rfl
                  have e93 : slot ac 93 = .slice (some ⟨gx, 0, none⟩) L cx := e93
                  have e94 : slot ac 94 = .int .i64 (i : Int) := e94
                  simp [execOp, eval_tmp, e93, e94] <;> go_simp
                case s8 =>
                  intro ac wc hU
                  have e95 : (Gd.eq (.pointer (some ⟨gx, i, none⟩))).p (slot ac 95) wc := hU.dep 7 95 (by kernel_rfl)
                  have e92 : (Gd.eq (.bool false)).p (slot ac 92) wc := hU.dep 4 92 (by kernel_rfl)
                  refine step_val ((wanted_some rfl rfl e92).trans rfl) (v := .int .i64 (z : Int)) ?_ rfl
                  have hc := cell_keep (HOX.out.1) hU.below
                  have e95 : slot ac 95 = .pointer (some ⟨gx, i, none⟩) := e95
                  simp [execOp, eval_tmp, e95] <;> go_simp
                case s9 =>
                  intro ac wc hU
                  have e12 : slot ac 12 = .slice (some ⟨gy, 0, none⟩) M cy := (hU.keep 12 (by kernel_rfl)).trans rfl
                  have e92 : (Gd.eq (.bool false)).p (slot ac 92) wc := hU.dep 4 92 (by kernel_rfl)
                  refine step_val ((wanted_some rfl rfl e92).trans rfl) (run_move rfl) ?_
                  show (Gd.eq (.slice (some ⟨gy, 0, none⟩) M cy)).p _ wc
                  exact (by rw [eval_tmp]; exact e12)
                case s10 =>
                  intro ac wc hU
                  have e13 : slot ac 13 = .int .i64 (i : Int) := (hU.keep 13 (by kernel_rfl)).trans rfl
                  have e92 : (Gd.eq (.bool false)).p (slot ac 92) wc := hU.dep 4 92 (by kernel_rfl)
                  refine step_val ((wanted_some rfl rfl e92).trans rfl) (run_move rfl) ?_
                  show (Gd.eq (.int .i64 (i : Int))).p _ wc
                  exact (by rw [eval_tmp]; exact e13)
                case s11 =>
                  intro ac wc hU
                  have e97 : (Gd.eq (.slice (some ⟨gy, 0, none⟩) M cy)).p (slot ac 97) wc := hU.dep 9 97 (by kernel_rfl)
                  have e98 : (Gd.eq (.int .i64 (i : Int))).p (slot ac 98) wc := hU.dep 10 98 (by kernel_rfl)
                  have e92 : (Gd.eq (.bool false)).p (slot ac 92) wc := hU.dep 4 92 (by kernel_rfl)
                  refine step_val ((wanted_some rfl rfl e92).trans rfl) (v := .pointer (some ⟨gy, i, none⟩)) ?_ rfl
                  have e97 : slot ac 97 = .slice (some ⟨gy, 0, none⟩) M cy := e97
                  have e98 : slot ac 98 = .int .i64 (i : Int) := e98
                  simp [execOp, eval_tmp, e97, e98] <;> go_simp
                case s12 =>
                  intro ac wc hU
                  have e99 : (Gd.eq (.pointer (some ⟨gy, i, none⟩))).p (slot ac 99) wc := hU.dep 11 99 (by kernel_rfl)
                  have e92 : (Gd.eq (.bool false)).p (slot ac 92) wc := hU.dep 4 92 (by kernel_rfl)
                  refine step_val ((wanted_some rfl rfl e92).trans rfl) (v := .int .i64 (z : Int)) ?_ rfl
                  have hc := cell_keep (HOX.out.2) hU.below
                  have e99 : slot ac 99 = .pointer (some ⟨gy, i, none⟩) := e99
                  simp [execOp, eval_tmp, e99] <;> go_simp
                case s13 =>
                  intro ac wc hU
                  have e96 : (Gd.eq (.int .i64 (z : Int))).p (slot ac 96) wc := hU.dep 8 96 (by kernel_rfl)
                  have e100 : (Gd.eq (.int .i64 (z : Int))).p (slot ac 100) wc := hU.dep 12 100 (by kernel_rfl)
                  have e92 : (Gd.eq (.bool false)).p (slot ac 92) wc := hU.dep 4 92 (by kernel_rfl)
                  refine step_val ((wanted_some rfl rfl e92).trans rfl) (v := .bool false) ?_ rfl
                  have e96 : slot ac 96 = .int .i64 (z : Int) := e96
                  have e100 : slot ac 100 = .int .i64 (z : Int) := e100
                  simp [execOp, eval_tmp, e96, e100] <;> go_simp
                case s14 =>
                  intro ac wc hU
                  have e92 : (Gd.eq (.bool false)).p (slot ac 92) wc := hU.dep 4 92 (by kernel_rfl)
                  have e101 : (Gd.eq (.bool false)).p (slot ac 101) wc := hU.dep 13 101 (by kernel_rfl)
                  refine step_val (wanted_none rfl) (run_pick (b := false) rfl (by rw [eval_tmp]; exact e92)) ?_
                  show (Gd.eq (.bool false)).p (if false = true then _ else _) wc
                  rw [if_neg (by decide)]
                  exact (by rw [eval_tmp]; exact e101)
              intro ac wc hU
              have hlit := act_puts hU (by kernel_rfl) [88, 89, 90, 91, 92, 93, 94, 95, 96, 97, 98, 99, 100, 101, 102] (by kernel_rfl)
              have f88 : slot ac 88 = .int .i64 (i : Int) := hU.last 0 88 (by kernel_rfl)
              have f89 : slot ac 89 = .slice (some ⟨gy, 0, none⟩) M cy := hU.last 1 89 (by kernel_rfl)
              have f90 : slot ac 90 = .int .i64 (M : Int) := hU.last 2 90 (by kernel_rfl)
              have f91 : slot ac 91 = .bool false := hU.last 3 91 (by kernel_rfl)
              have f92 : slot ac 92 = .bool false := hU.last 4 92 (by kernel_rfl)
              have f93 : slot ac 93 = .slice (some ⟨gx, 0, none⟩) L cx := hU.last 5 93 (by kernel_rfl)
              have f94 : slot ac 94 = .int .i64 (i : Int) := hU.last 6 94 (by kernel_rfl)
              have f95 : slot ac 95 = .pointer (some ⟨gx, i, none⟩) := hU.last 7 95 (by kernel_rfl)
              have f96 : slot ac 96 = .int .i64 (z : Int) := hU.last 8 96 (by kernel_rfl)
              have f97 : slot ac 97 = .slice (some ⟨gy, 0, none⟩) M cy := hU.last 9 97 (by kernel_rfl)
              have f98 : slot ac 98 = .int .i64 (i : Int) := hU.last 10 98 (by kernel_rfl)
              have f99 : slot ac 99 = .pointer (some ⟨gy, i, none⟩) := hU.last 11 99 (by kernel_rfl)
              have f100 : slot ac 100 = .int .i64 (z : Int) := hU.last 12 100 (by kernel_rfl)
              have f101 : slot ac 101 = .bool false := hU.last 13 101 (by kernel_rfl)
              have f102 : slot ac 102 = .bool false := hU.last 14 102 (by kernel_rfl)
              have HWC : Hid (Below w9.heap.size w9 wc) := HW10.out.trans (hU.below.mono HW10.out.size)
              simp only [puts, List.foldl, Act.put, List.setIfInBounds_toArray, List.set_cons_zero, List.set_cons_succ, f88, f89, f90, f91, f92, f93, f94, f95, f96, f97, f98, f99, f100, f101, f102] at hlit
              rw [hlit]
              clear hlit hU f88 f89 f90 f91 f92 f93 f94 f95 f96 f97 f98 f99 f100 f101 f102
              go_wp2
              go_roundw
              case rel => exact ⟨i + 1, by omega, by go_num, HWC⟩
              case measure => simp [intOf]; omega
            · have hleI : (C : Int) < i := Int.ofNat_lt.2 (Nat.lt_of_not_le hle)
              have hcq := HCQ.out
              clear hc hc4
              go_wp2
              go_meet
              exact HW10
          · obtain rfl : i = L := by omega
            go_wp2
            go_meet
            exact HW
      case rest =>
        obtain ⟨wp, hwp⟩ : ∃ wp, wp = wc := ⟨_, rfl⟩
        subst hwp
        have H4P := Lib.hid (HK9.out wp hcut.out)
        have cN : wp.cell? ⟨b, 1, none⟩ = some (.slice (some ⟨g, 0, none⟩) N c3) := by rw [cell_of_row wp b 1 _ _ _ (HG.out wp H4P.out).2.1]; rfl
        obtain ⟨wm, hmk, om, bm⟩ := run_marksMake N HN512.out wp
        obtain ⟨gm, hgm⟩ : ∃ gm, wp.heap.size = gm := ⟨_, rfl⟩
        have HGM : Hid (w9.heap.size ≤ gm) := by show _ ≤ _; rw [← hgm]; exact hcut.out.size
        have BM := Lib.hid (hcut.out.trans (bm.mono hcut.out.size))
        rw [hgm] at hmk om
        have hN0 : 0 < N := HPS.out
        have cz := om.cell (j := 0) (x := false) (by simp) (by simp [hN0])
        have fz := om.frozen (by simp) 0
        obtain ⟨om1, gr1⟩ := om.set (by simp) 0 true
        have BM1 := Lib.hid (BM.out.grown gr1 BM.out.size (fun k hk => by cases hk; exact HGM.out))
        have R0 : Hid (∃ xs : List Bool, xs.length = N ∧ OwnM (wm.setCell ⟨gm, 0, none⟩ (.bool true)) gm (.slice (some ⟨gm, 0, none⟩) N N) xs ∧ xs[0]? = some true ∧ Marked l bits 0 xs) := ⟨_, by simp, om1, set_at (by simp [hN0]), fun r hr => by simp at hr⟩
        have hNI : (0 : Int) < N := by omega
        have hN5 : (N : Int) ≤ 512 := by have := HN512.out; omega
        clear om bm hgm om1 gr1 hquo hwq HCM
        go_wp2
        go_loopw [15] (fun i wr => ∃ i' : Nat, i' ≤ n ∧ i = .int .i64 i' ∧ Hid (∃ xs : List Bool, xs.length = N ∧ OwnM wr gm (.slice (some ⟨gm, 0, none⟩) N N) xs ∧ xs[0]? = some true ∧ Marked l bits i' xs) ∧ Hid (Below w9.heap.size w9 wr)) (fun i _ => n - (intOf i).toNat)
        case atStart => exact ⟨0, Nat.zero_le _, rfl, R0, BM1⟩
        case round =>
          obtain ⟨i, hi, rfl, HX, HW⟩ := hrel
          obtain ⟨wo, hwo⟩ : ∃ wo, wo = wr := ⟨_, rfl⟩
          subst hwo
          have H4R := Lib.hid (HK9.out wo HW.out)
          clear cN hmk cz fz
          by_cases hlt : i < n
          · have hltI : (i : Int) < n := by omega
            have hi0 : (0 : Int) ≤ i := by omega
            obtain ⟨r, hr⟩ : ∃ r, l[i]? = some r := ⟨l[i]'(by have := HNL.out; omega), List.getElem?_eq_getElem _⟩
            obtain ⟨b0, o0, hab⟩ := rt_place (HG.out wo H4R.out).2.2.1 hr
            subst hab
            obtain ⟨c1, -⟩ := rt_at (HG.out wo H4R.out).2.2.1 hr
            obtain ⟨xs, hxl, hxo, hx0, hxm⟩ := HX.out
            have HXS := Lib.hid (And.intro hxl (And.intro hxo (And.intro hx0 hxm)))
            have HRR := Lib.hid hr
            clear hxl hxo hx0 hxm HX hr
            by_cases hrb : r.pre.bits = bits
            · rw [hrb] at c1
              have HRB := Lib.hid hrb
              have HKK : Hid (mayB (wholeP r.pre.key bits) = true) := by
                show _ = _
                rw [← HRB.out]
                exact own_whole (HMY.out r (List.mem_of_getElem? HRR.out))
              have hgw : Hid (gm < wo.heap.size) := (World.ownsRow.lt HXS.out.2.1 gm rfl).2
              clear hrb
              go_wp2
              refine region_slots (by kernel_rfl) (by kernel_rfl) (Gof [Gd.eq (.agg (tc bits (.slice (some ⟨g, 0, none⟩) N c3))), Gd.eq (.slice (some ⟨b0, o0, none⟩) n cap), Gd.eq (.int .i64 (i : Int)), Gd.eq (.pointer (some ⟨b0, o0 + i * 19, none⟩)), Gd.eq (.pointer (some ⟨b0, o0 + i * 19, none⟩)), Gd.eq (.pointer (some ⟨b0, o0 + i * 19 + 2, none⟩)), Gd.eq (.agg (kc r.pre.key)), Gd.way (treeL l bits) r.pre.key wo.heap.size, Gd.way (treeL l bits) r.pre.key wo.heap.size]) (Gof_st _) (steps_all ?_) ?_
              · dsimp only
                refine StepsFrom.cons ?s0 (StepsFrom.cons ?s1 (StepsFrom.cons ?s2 (StepsFrom.cons ?s3 (StepsFrom.cons ?s4 (StepsFrom.cons ?s5 (StepsFrom.cons ?s6 (StepsFrom.cons ?s7 (StepsFrom.cons ?s8 StepsFrom.nil))))))))
                case s0 =>
                  intro ac wc hU
                  have e9 : slot ac 9 = .pointer (some ⟨b, 0, none⟩) := (hU.keep 9 (by kernel_rfl)).trans rfl
                  refine step_val (wanted_none rfl) (v := .agg (tc bits (.slice (some ⟨g, 0, none⟩) N c3))) ?_ rfl
                  have lt := run_trieLoad (HG.out wc (H4R.out.trans (hU.below.mono H4R.out.size))).2.1
                  simp [execOp, eval_tmp, e9] <;> go_simp
                case s1 =>
                  intro ac wc hU
                  have e0 : slot ac 0 = .slice (some ⟨b0, o0, none⟩) n cap := (hU.keep 0 (by kernel_rfl)).trans rfl
                  refine step_val (wanted_none rfl) (run_move rfl) ?_
                  show (Gd.eq (.slice (some ⟨b0, o0, none⟩) n cap)).p _ wc
                  exact (by rw [eval_tmp]; exact e0)
                case s2 =>
                  intro ac wc hU
                  have e15 : slot ac 15 = .int .i64 (i : Int) := (hU.keep 15 (by kernel_rfl)).trans rfl
                  refine step_val (wanted_none rfl) (run_move rfl) ?_
                  show (Gd.eq (.int .i64 (i : Int))).p _ wc
                  exact (by rw [eval_tmp]; exact e15)
                case s3 =>
                  intro ac wc hU
                  have e124 : (Gd.eq (.slice (some ⟨b0, o0, none⟩) n cap)).p (slot ac 124) wc := hU.dep 1 124 (by kernel_rfl)
                  have e125 : (Gd.eq (.int .i64 (i : Int))).p (slot ac 125) wc := hU.dep 2 125 (by kernel_rfl)
                  refine step_val (wanted_none rfl) (v := .pointer (some ⟨b0, o0 + i * 19, none⟩)) ?_ rfl
                  have e124 : slot ac 124 = .slice (some ⟨b0, o0, none⟩) n cap := e124
                  have e125 : slot ac 125 = .int .i64 (i : Int) := e125
                  simp [execOp, eval_tmp, e124, e125] <;> go_simp
                case s4 =>
                  intro ac wc hU
                  have e126 : (Gd.eq (.pointer (some ⟨b0, o0 + i * 19, none⟩))).p (slot ac 126) wc := hU.dep 3 126 (by kernel_rfl)
                  refine step_val (wanted_none rfl) (v := .pointer (some ⟨b0, o0 + i * 19, none⟩)) ?_ rfl
                  have e126 : slot ac 126 = .pointer (some ⟨b0, o0 + i * 19, none⟩) := e126
                  simp [execOp, eval_tmp, e126] <;> go_simp
                case s5 =>
                  intro ac wc hU
                  have e127 : (Gd.eq (.pointer (some ⟨b0, o0 + i * 19, none⟩))).p (slot ac 127) wc := hU.dep 4 127 (by kernel_rfl)
                  refine step_val (wanted_none rfl) (v := .pointer (some ⟨b0, o0 + i * 19 + 2, none⟩)) ?_ rfl
                  have e127 : slot ac 127 = .pointer (some ⟨b0, o0 + i * 19, none⟩) := e127
                  simp [execOp, eval_tmp, e127] <;> go_simp
                case s6 =>
                  intro ac wc hU
                  have e128 : (Gd.eq (.pointer (some ⟨b0, o0 + i * 19 + 2, none⟩))).p (slot ac 128) wc := hU.dep 5 128 (by kernel_rfl)
                  refine step_val (wanted_none rfl) (v := .agg (kc r.pre.key)) ?_ rfl
                  have lk := (rt_at (HG.out wc (H4R.out.trans (hU.below.mono H4R.out.size))).2.2.1 HRR.out).2
                  have e128 : slot ac 128 = .pointer (some ⟨b0, o0 + i * 19 + 2, none⟩) := e128
                  simp [execOp, eval_tmp, e128] <;> go_simp
                case s7 =>
                  intro ac wc hU
                  have e123 : (Gd.eq (.agg (tc bits (.slice (some ⟨g, 0, none⟩) N c3)))).p (slot ac 123) wc := hU.dep 0 123 (by kernel_rfl)
                  have e129 : (Gd.eq (.agg (kc r.pre.key))).p (slot ac 129) wc := hU.dep 6 129 (by kernel_rfl)
                  refine step_call (wanted_none rfl) (f := 31) (args := #[(.agg (tc bits (.slice (some ⟨g, 0, none⟩) N c3))), (.agg (kc r.pre.key))]) ?_ ?_
                  · have e123 : slot ac 123 = .agg (tc bits (.slice (some ⟨g, 0, none⟩) N c3)) := e123
                    have e129 : slot ac 129 = .agg (kc r.pre.key) := e129
                    simp [execOp, resolve, invoke, eval_tmp, e123, e129] <;> go_simp
                  · refine (HWK.out r.pre.key r.hk HKK.out _ _ _ (HG.out wc (H4R.out.trans (hU.below.mono H4R.out.size))).1).mono ?_
                    rintro e w' ⟨g', cp, m, rfl, h1, h2, hb⟩; exact ⟨_, rfl, hb, ⟨g', cp, m, rfl, h1, h2.base hU.below.size⟩⟩
                case s8 =>
                  intro ac wc hU
                  have e130 : (Gd.way (treeL l bits) r.pre.key wo.heap.size).p (slot ac 130) wc := hU.dep 7 130 (by kernel_rfl)
                  refine step_val (wanted_none rfl) (run_assign rfl) ?_
                  show (Gd.way (treeL l bits) r.pre.key wo.heap.size).p _ wc
                  exact (by rw [eval_tmp]; exact e130)
              intro ac wc hU
              have hlit := act_puts hU (by kernel_rfl) [123, 124, 125, 126, 127, 128, 129, 130, 16] (by kernel_rfl)
              have f123 : slot ac 123 = .agg (tc bits (.slice (some ⟨g, 0, none⟩) N c3)) := hU.last 0 123 (by kernel_rfl)
              have f124 : slot ac 124 = .slice (some ⟨b0, o0, none⟩) n cap := hU.last 1 124 (by kernel_rfl)
              have f125 : slot ac 125 = .int .i64 (i : Int) := hU.last 2 125 (by kernel_rfl)
              have f126 : slot ac 126 = .pointer (some ⟨b0, o0 + i * 19, none⟩) := hU.last 3 126 (by kernel_rfl)
              have f127 : slot ac 127 = .pointer (some ⟨b0, o0 + i * 19, none⟩) := hU.last 4 127 (by kernel_rfl)
              have f128 : slot ac 128 = .pointer (some ⟨b0, o0 + i * 19 + 2, none⟩) := hU.last 5 128 (by kernel_rfl)
              have f129 : slot ac 129 = .agg (kc r.pre.key) := hU.last 6 129 (by kernel_rfl)
              have f130 : (Gd.way (treeL l bits) r.pre.key wo.heap.size).p (slot ac 130) wc := hU.last 7 130 (by kernel_rfl)
              have f16 : (Gd.way (treeL l bits) r.pre.key wo.heap.size).p (slot ac 16) wc := hU.last 8 16 (by kernel_rfl)
              have HWC : Hid (Below wo.heap.size wo wc) := hU.below
              simp only [puts, List.foldl, Act.put, List.setIfInBounds_toArray, List.set_cons_zero, List.set_cons_succ, f123, f124, f125, f126, f127, f128, f129] at hlit
              rw [hlit]
              clear hlit hU f123 f124 f125 f126 f127 f128 f129
              obtain ⟨gw, cw, m, hv16, hw, how⟩ := f16
              have HWAY := Lib.hid (And.intro hw how)
              have hm32 : m + 1 ≤ 32 := Nat.le_trans (way_len HFT.out hw) hD32
              have hmI : (m : Int) + 1 ≤ 32 := by omega
              rw [hv16]
              have HWC9 : Hid (Below w9.heap.size w9 wc) := HW.out.trans (HWC.mono HW.out.size)
              have LP0 : Hid (∃ ys : List Bool, ys.length = N ∧ OwnM wc gm (.slice (some ⟨gm, 0, none⟩) N N) ys ∧ Grows xs ys ∧ ∀ s, s < 0 → ∃ x, (wayN (treeL l bits) r.pre.key m)[s]? = some x ∧ ys[x]? = some true) := ⟨xs, HXS.out.1, HXS.out.2.1.later HWC, Grows.refl _, fun s hs => absurd hs (Nat.not_lt_zero _)⟩
              have OW0 : Hid (OwnI wc wo.heap.size (.slice (some ⟨gw, 0, none⟩) (m + 1) cw) (wayN (treeL l bits) r.pre.key m)) := by rw [← hv16]; exact how
              clear f130 hv16 hw how HWC c1
              go_wp2
              go_loopw [17] (fun j wx => ∃ j' : Nat, j' ≤ m + 1 ∧ j = .int .i64 j' ∧ Hid (∃ ys : List Bool, ys.length = N ∧ OwnM wx gm (.slice (some ⟨gm, 0, none⟩) N N) ys ∧ Grows xs ys ∧ ∀ s, s < j' → ∃ x, (wayN (treeL l bits) r.pre.key m)[s]? = some x ∧ ys[x]? = some true) ∧ Hid (OwnI wx wo.heap.size (.slice (some ⟨gw, 0, none⟩) (m + 1) cw) (wayN (treeL l bits) r.pre.key m)) ∧ Hid (Below w9.heap.size w9 wx)) (fun j _ => (m + 1) - (intOf j).toNat)
              case atStart => exact ⟨0, Nat.zero_le _, rfl, LP0, OW0, HWC9⟩
              case round =>
                obtain ⟨j, hj, rfl, HY, HOW, HW3⟩ := hrel
                obtain ⟨ys, hyl, hyo, hyg, hys⟩ := HY.out
                by_cases hjm : j < m + 1
                · obtain ⟨x, hxe⟩ : ∃ x, idx0 (treeL l bits).ws (pathN r.pre.key j) = x := ⟨_, rfl⟩
                  have hx : (wayN (treeL l bits) r.pre.key m)[j]? = some x := by rw [← hxe]; exact wayN_at _ _ (by omega)
                  have hxN : x < N := by
                    have := way_lt HWAY.out.1 (s := j) (by omega)
                    rw [hxe, HNT.out] at this; exact this
                  have cw1 := HOW.out.cell (by rw [wayN_length]) hx
                  obtain ⟨y, hy⟩ : ∃ y, ys[x]? = some y := ⟨_, List.getElem?_eq_getElem (by rw [hyl]; exact hxN)⟩
                  have cm := hyo.cell hyl.symm hy
                  have fm := hyo.frozen hyl.symm x
                  obtain ⟨k1, k2, k3⟩ := mark_one hyo hyl HOW.out HW3.out HGM.out hgw.out x
                  have REL := Lib.hid (show ∃ zs : List Bool, zs.length = N ∧ OwnM (wr.setCell ⟨gm, x, none⟩ (.bool true)) gm (.slice (some ⟨gm, 0, none⟩) N N) zs ∧ Grows xs zs ∧ ∀ s, s < j + 1 → ∃ x, (wayN (treeL l bits) r.pre.key m)[s]? = some x ∧ zs[x]? = some true from
                    ⟨ys.set x true, by rw [List.length_set, hyl], k1, hyg.trans (grows_set ys x), fun s hs => by
                      by_cases hsj : s = j
                      · subst hsj; exact ⟨x, hx, set_at (by rw [hyl]; exact hxN)⟩
                      · obtain ⟨x', e1, e2⟩ := hys s (by omega)
                        exact ⟨x', e1, (grows_set ys x).2 x' e2⟩⟩)
                  have K2 := Lib.hid k2
                  have K3 := Lib.hid k3
                  have hxI : (x : Int) < N := by omega
                  have hj0 : (0 : Int) ≤ j := by omega
                  have hjI : (j : Int) < (m : Int) + 1 := by omega
                  clear hyl hyo hyg hys hx hxe hy k1 k2 k3 HY
                  go_wp2
                  go_roundw
                  case rel => exact ⟨j + 1, by omega, by go_num, REL, K2, K3⟩
                  case measure => simp [intOf]; omega
                · obtain rfl : j = m + 1 := by omega
                  have REL := Lib.hid (show ∃ zs : List Bool, zs.length = N ∧ OwnM wr gm (.slice (some ⟨gm, 0, none⟩) N N) zs ∧ zs[0]? = some true ∧ Marked l bits (i + 1) zs from
                    ⟨ys, hyl, hyo, hyg.2 0 HXS.out.2.2.1, (HXS.out.2.2.2.grow hyg).next HRR.out fun _ => ⟨m, HWAY.out.1, fun x hx => by
                      obtain ⟨s, hs⟩ := List.mem_iff_getElem?.1 hx
                      have hsl := (List.getElem?_eq_some_iff.1 hs).1
                      rw [wayN_length] at hsl
                      obtain ⟨x', e1, e2⟩ := hys s hsl
                      rw [hs] at e1
                      cases e1
                      exact e2⟩⟩)
                  clear hyl hyo hyg hys HY
                  go_wp2
                  go_roundw
                  case rel => exact ⟨i + 1, by omega, by go_num, REL, HW3⟩
                  case measure => simp [intOf]; omega
            · have hrbI : (r.pre.bits == bits) = false := by rw [beq_eq_false_iff_ne]; exact hrb
              have REL : Hid (∃ xs : List Bool, xs.length = N ∧ OwnM wo gm (.slice (some ⟨gm, 0, none⟩) N N) xs ∧ xs[0]? = some true ∧ Marked l bits (i + 1) xs) := ⟨xs, HXS.out.1, HXS.out.2.1, HXS.out.2.2.1, HXS.out.2.2.2.next HRR.out fun h => absurd h hrb⟩
              clear hrb
              go_wp2
              go_roundw
              case rel => exact ⟨i + 1, by omega, by go_num, REL, HW⟩
              case measure => simp [intOf]; omega
          · obtain rfl : i = n := by omega
            obtain ⟨xs, hxl, hxo, hx0, hxm⟩ := HX.out
            have HON : Hid (∀ x, x < N → wo.cell? ⟨gm, x, none⟩ = some (.bool true)) := fun x hx => by
              have hm2 : ∀ r ∈ l, r.pre.bits = bits → ∃ m, WalkTo (treeL l bits) r.pre.key m ∧ ∀ x ∈ wayN (treeL l bits) r.pre.key m, xs[x]? = some true := fun r hr hb => hxm r (by rw [List.take_of_length_le (by rw [HNL.out]; exact Nat.le_refl _)]; exact hr) hb
              exact hxo.cell hxl.symm (all_on (fun x => xs[x]? = some true) hx0 hm2 (by rw [HNT.out]; exact hx))
            have FIN := Lib.hid (HG.out wo H4R.out).2.2.2
            clear hxl hxo hx0 hxm HX
            go_wp2
            go_loop [18] (fun j => ∃ j' : Nat, j' ≤ N ∧ j = .int .i64 j') (fun j => N - (intOf j).toNat)
            case atStart => exact ⟨0, Nat.zero_le _, rfl⟩
            case round =>
              obtain ⟨j, hj, rfl⟩ := hrel
              by_cases hjN : j < N
              · have hc := HON.out j hjN
                go_wp2
                go_round
                case rel => exact ⟨j + 1, by omega, by go_num⟩
                case measure => simp [intOf]; omega
              · obtain rfl : j = N := by omega
                go_wp2
                go_ret
                exact ⟨rfl, FIN.out⟩
set_option maxHeartbeats 1000000 in
set_option maxRecDepth 100000 in
theorem walk_no (l : List Rt) (n : Nat) (k q : Nat → Nat) (bits : Int) (a : Option Addr) (cap : Nat) (w : World) (hR : Rd w (.slice a n cap) l) (hn : n ≤ maxLen) (hno : ¬ n ≤ 60 ∨ rightB l = false) :
    Calls Try.prog 6 #[.slice a n cap, .agg (kc k), .agg (kc q), .int .i64 bits] w fun e w' => e = .returned (.bool true) ∧ Below w.heap.size w w' := by
  have hb1 : Below w.heap.size w (w.alloc (.cells (kc k) 24)) := (Below.refl _ _).alloc (Nat.le_refl _) _
  have hb0 : Below w.heap.size w ((w.alloc (.cells (kc k) 24)).alloc (.cells (kc q) 24)) := hb1.alloc (by simp) _
  have hz0 : ((w.alloc (.cells (kc k) 24)).alloc (.cells (kc q) 24)).heap.size = w.heap.size + 2 := by simp
  obtain ⟨W0, hW0⟩ : ∃ W0, (w.alloc (.cells (kc k) 24)).alloc (.cells (kc q) 24) = W0 := ⟨_, rfl⟩
  rw [hW0] at hb0 hz0
  have T : ∀ W, Below W0.heap.size W0 W → Rd W (.slice a n cap) l ∧ Below w.heap.size w W := fun W h =>
    ⟨hR.later (hb0.trans (h.mono (by rw [hz0]; omega))), hb0.trans (h.mono (by rw [hz0]; omega))⟩
  have HT := Lib.hid T
  have H1 := Lib.hid (awake4_any W0)
  unfold maxLen at hn
  by_cases h1 : n ≤ 60
  · have h1I : (n : Int) ≤ 60 := by omega
    have hr : rightB l = false := hno.resolve_left (fun h => h h1)
    have H2 : Hid (∀ W, Rd W (.slice a n cap) l → Calls Try.prog 15 #[.slice a n cap] W fun e w' => e = .returned (.bool false) ∧ Below W.heap.size W w') := fun W h => by
      have := right_any l _ W h
      rw [hr] at this; exact this
    clear hno hr h1 hn hR T hb0 hb1 hz0
    go_enter Try.func6, Try.ntmps6
    try rw [hW0]
    go_wp2_with fail
    refine H1.out.mono ?_
    rintro e1 w1 ⟨rfl, h1⟩
    have HW1 := Lib.hid h1
    clear h1
    go_wp2_with fail
    refine (H2.out _ (HT.out _ HW1.out).1).mono ?_
    rintro e1 w2 ⟨rfl, h2⟩
    have FIN := Lib.hid (HT.out _ (HW1.out.trans (h2.mono HW1.out.size))).2
    clear h2
    go_wp2
    go_ret
    exact ⟨rfl, FIN.out⟩
  · have h1I : (60 : Int) < n := by omega
    clear hno h1 hn hR T hb0 hb1 hz0
    go_enter Try.func6, Try.ntmps6
    try rw [hW0]
    go_wp2_with fail
    refine H1.out.mono ?_
    rintro e1 w1 ⟨rfl, h1⟩
    have FIN := Lib.hid (HT.out _ h1).2
    clear h1
    go_wp2
    go_ret
    exact ⟨rfl, FIN.out⟩

theorem walkAll (l : List Rt) (k q : Nat → Nat) (hk0 : Bytes16 k) (hq0 : Bytes16 q) (bits : Int) (v : Value) (w : World) (hR : Rd w v l) :
    Calls Try.prog 6 #[v, .agg (kc k), .agg (kc q), .int .i64 bits] w fun e w' => e = .returned (.bool true) ∧ Below w.heap.size w w' := by
  by_cases h : l.length ≤ 60 ∧ rightB l = true
  · obtain ⟨h1, h2⟩ := h
    cases hk : mayB (keysP bits) with
    | false => exact walk_bad l k q bits v w hR h1 h2 1 (by decide) (by unfold buildL; rw [if_neg (by rw [hk]; simp)])
    | true =>
      by_cases hf : (treeL l bits).ws.length ≤ 512
      · exact walk_good l k q hk0 hq0 bits v w hR h1 h2 hk hf
      · exact walk_bad l k q bits v w hR h1 h2 5 (by decide) (by unfold buildL; rw [if_pos ⟨h2, hk⟩, if_neg hf])
  · obtain ⟨a, cap, hv, h1⟩ := rd_len hR
    have hno : ¬ l.length ≤ 60 ∨ rightB l = false := by
      by_cases g : l.length ≤ 60
      · exact .inr (by cases h2 : rightB l with
          | false => rfl
          | true => exact absurd ⟨g, h2⟩ h)
      · exact .inl g
    rw [hv] at hR
    rw [hv]
    exact walk_no l _ k q bits a cap w hR h1 hno
end Go.Proofs.Ytggjcjijoihilaa.trieWays
