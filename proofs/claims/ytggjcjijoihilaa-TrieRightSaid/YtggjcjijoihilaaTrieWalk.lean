/- trie.Walk of a table's trie: the nodes through which a key goes. -/
import Derived.Test.YtggjcjijoihilaaTrieDeep
import Derived.Deep.RegionHeld3
namespace Go.Proofs.Ytggjcjijoihilaa
open Go.RowKit Go.Sort Go.Shelf
attribute [local go_sem ↓] loadVar_key loadVar_pre storeVar_pre build_pre loadVar_trie storeVar_trie

/-- How far a key goes. -/
structure WalkTo (T : Tr) (k : Nat → Nat) (m : Nat) : Prop where
  on : ∀ s, s ≤ m → pathN k s ∈ T.ws
  off : pathN k (m + 1) ∉ T.ws
def wayN (T : Tr) (k : Nat → Nat) (m : Nat) : List Nat := (List.range (m + 1)).map fun s => idx0 T.ws (pathN k s)
theorem wayN_length (T : Tr) (k : Nat → Nat) (m : Nat) : (wayN T k m).length = m + 1 := by simp [wayN]
theorem wayN_at (T : Tr) (k : Nat → Nat) {m s : Nat} (h : s ≤ m) : (wayN T k m)[s]? = some (idx0 T.ws (pathN k s)) := by
  unfold wayN
  rw [List.getElem?_map, List.getElem?_range (by omega)]; rfl
theorem wayN_succ (T : Tr) (k : Nat → Nat) (m : Nat) : wayN T k (m + 1) = wayN T k m ++ [idx0 T.ws (pathN k (m + 1))] := by
  unfold wayN; rw [List.range_succ, List.map_append]; rfl
def lenV : Value → Nat
  | .slice _ n _ => n
  | _ => 0
def intsBuild (n : Nat) (parts : Array (Nat × Value)) : Sem Value := Instr.buildSlice 64 n parts
theorem buildSlice_ints (n : Nat) (parts : Array (Nat × Value)) : Instr.buildSlice 64 n parts = intsBuild n parts := rfl
theorem run_intsBuild (x : Nat) (w : World) : (intsBuild 1 #[(0, .int .i64 x)]).run Try.prog w = .ok (.slice (some ⟨w.heap.size, 0, none⟩) 1 1) (w.alloc (.cells #[.int .i64 x] 3)) := by
  obtain ⟨i, h0, h1, h2, h3⟩ := info_parts infoInt
  exact run_buildSlice w 64 3 1 _ #[.int .i64 x] i _ Try.underlying64 h0 h1 (by rw [h2]; decide) (by rw [h2]; decide) (by rw [h2]; kernel_rfl)
attribute [local go_sem ↓] buildSlice_ints

theorem cellsAt_one (w : World) (x : Value) : CellsAt (w.alloc (.cells #[x] 3)) ⟨w.heap.size, 0, none⟩ [x] := fun j u hu => by
  have hadd : (⟨w.heap.size, 0, none⟩ : Addr).add j = ⟨w.heap.size, j, none⟩ := by unfold Addr.add; split <;> simp_all
  rw [hadd, World.cell?_alloc_at _ _ _ _ rfl]; simpa using hu
def WalkPost (w : World) (T : Tr) (k : Nat → Nat) (bits : Int) (e : Ending) (w' : World) : Prop :=
  Below w.heap.size w w' ∧ ((mayB (wholeP k bits) = false ∧ e = .returned (.slice none 0 0)) ∨ (mayB (wholeP k bits) = true ∧ ∃ v m, e = .returned v ∧ WalkTo T k m ∧ OwnI w' w.heap.size v (wayN T k m)))

set_option maxHeartbeats 2000000 in
set_option maxRecDepth 100000 in
theorem walk_any (T : Tr) (bits : Int) (hS : Stands T bits) (k : Nat → Nat) (hk : Bytes16 k) (v : Value) (w : World) (base : Nat) (hv : OwnN w base v T.nodes) :
    Calls Try.prog 31 #[.agg (tc bits v), .agg (kc k)] w (WalkPost w T k bits) := by
  have hpos := hS.ok.pos
  obtain ⟨g, cap, rfl, -, -⟩ := hv.form (by rw [T.nodes_length]; exact hpos)
  obtain ⟨n, hn⟩ : ∃ n, T.nodes.length = n := ⟨_, rfl⟩
  have hnw : T.ws.length = n := by rw [← T.nodes_length]; exact hn
  have hl := hS.few
  rw [hnw] at hpos hl
  rw [hn] at hv ⊢
  have hb0 : Below w.heap.size w ((w.alloc (.cells (tc bits (.slice (some ⟨g, 0, none⟩) n cap)) 52)).alloc (.cells (kc k) 24)) := ((Below.refl _ _).alloc (Nat.le_refl _) _).alloc (by simp) _
  have hx0 : ((w.alloc (.cells (tc bits (.slice (some ⟨g, 0, none⟩) n cap)) 52)).alloc (.cells (kc k) 24)).heap[w.heap.size]? = some (.cells (tc bits (.slice (some ⟨g, 0, none⟩) n cap)) 52 (0, 0)) := by
    rw [Go.heap_alloc_old _ _ (by simp)]; exact Go.heap_alloc_new w _
  have hk0 : ((w.alloc (.cells (tc bits (.slice (some ⟨g, 0, none⟩) n cap)) 52)).alloc (.cells (kc k) 24)).heap[w.heap.size + 1]? = some (.cells (kc k) 24 (0, 0)) := by
    have := Go.heap_alloc_new (w.alloc (.cells (tc bits (.slice (some ⟨g, 0, none⟩) n cap)) 52)) (.cells (kc k) 24); simpa using this
  obtain ⟨W0, hW0⟩ : ∃ W0, (w.alloc (.cells (tc bits (.slice (some ⟨g, 0, none⟩) n cap)) 52)).alloc (.cells (kc k) 24) = W0 := ⟨_, rfl⟩
  have hz0 : W0.heap.size = w.heap.size + 2 := by rw [← hW0]; simp
  rw [hW0] at hb0 hx0 hk0
  have HT : Hid (∀ W, Below W0.heap.size W0 W → W.heap[w.heap.size]? = some (.cells (tc bits (.slice (some ⟨g, 0, none⟩) n cap)) 52 (0, 0)) ∧ W.heap[w.heap.size + 1]? = some (.cells (kc k) 24 (0, 0)) ∧ OwnN W base (.slice (some ⟨g, 0, none⟩) n cap) T.nodes ∧ Below w.heap.size w W) := fun W h =>
    ⟨(h.block _ (by omega)).trans hx0, (h.block _ (by omega)).trans hk0, hv.later (hb0.trans (h.mono (by omega))), hb0.trans (h.mono (by omega))⟩
  have c0 : W0.cell? ⟨w.heap.size, 0, none⟩ = some (.int .i64 bits) := by rw [cell_of hx0]; rfl
  have lk := run_keyLoad (rowAt_of hk0)
  have bd := run_preBuild bits bits k
  have st := run_preStore_new (wholeP k bits) W0
  have hal : Below W0.heap.size W0 (W0.alloc (.cells (pc (wholeP k bits)) 26)) := (Below.refl _ _).alloc (Nat.le_refl _) _
  obtain ⟨W1, hW1⟩ : ∃ W1, W0.alloc (.cells (pc (wholeP k bits)) 26) = W1 := ⟨_, rfl⟩
  have hp1 : W1.heap[W0.heap.size]? = some (.cells (pc (wholeP k bits)) 26 (0, 0)) := by rw [← hW1]; exact Go.heap_alloc_new W0 _
  have hz1 : W1.heap.size = W0.heap.size + 1 := by rw [← hW1]; simp
  rw [hW1] at hal st
  have C1 := tright_any T bits hS (.slice (some ⟨g, 0, none⟩) n cap) W1 (by
    have h := (HT.out W1 hal).2.2.1
    rw [← hn] at h ⊢
    exact h.rd (by rw [hn]; exact hpos))
  have C2 := fun W => may_any (wholeP k bits) hk W
  have lt := run_trieLoad (HT.out W1 hal).1
  have HC1 := Lib.hid C1
  have HAL := Lib.hid hal
  have HP1 : Hid (∀ W, Below W1.heap.size W1 W → (preLoad ⟨W0.heap.size, 0, none⟩).run Try.prog W = .ok (.agg (pc (wholeP k bits))) W) := fun W h => run_preLoad (rowAt_of ((h.block _ (by omega)).trans hp1))
  have HZ := Lib.hid hz0
  have HZ1 := Lib.hid hz1
  have HS := Lib.hid hS
  have HKB := Lib.hid hk
  have HNW := Lib.hid hnw
  have HN := Lib.hid hn
  unfold wholeP at st HP1
  clear hb0 hx0 hk0 hz0 hv C1 hal hp1 hz1 hS hk hnw hn
  unfold WalkPost
  cases hm : mayB (wholeP k bits) with
  | false =>
    simp only [hm] at C2
    have HC2 := Lib.hid C2
    unfold wholeP at HC2
    clear C2 hm
    go_enter Try.func31, Try.ntmps31
    go_wp2_with fail
    refine HC1.out.mono ?_
    rintro e w1 ⟨rfl, h1⟩
    have H1 := Lib.hid h1
    have lp := HP1.out w1 h1
    clear h1 lt
    go_wp2_with fail
    refine (HC2.out w1).mono ?_
    rintro e w2 ⟨rfl, h2⟩
    have HF := Lib.hid ((HT.out w2 (HAL.out.trans ((H1.out.trans (h2.mono H1.out.size)).mono HAL.out.size))).2.2.2)
    clear h2 lp
    go_wp2
    go_ret
    exact ⟨HF.out, .inl ⟨trivial, rfl⟩⟩
  | true =>
    simp only [hm] at C2
    have HC2 := Lib.hid C2
    unfold wholeP at HC2
    clear C2 hm
    go_enter Try.func31, Try.ntmps31
    go_wp2_with fail
    refine HC1.out.mono ?_
    rintro e w1 ⟨rfl, h1⟩
    have H1 := Lib.hid h1
    have lp := HP1.out w1 h1
    clear h1 lt
    go_wp2_with fail
    refine (HC2.out w1).mono ?_
    rintro e w2 ⟨rfl, h2⟩
    have H2 := Lib.hid (HAL.out.trans ((H1.out.trans (h2.mono H1.out.size)).mono HAL.out.size))
    have ib : (intsBuild 1 #[(0, .int .i64 0)]).run Try.prog w2 = .ok (.slice (some ⟨w2.heap.size, 0, none⟩) 1 1) (w2.alloc (.cells #[.int .i64 0] 3)) := run_intsBuild 0 w2
    have HO3 : Hid (OwnI (w2.alloc (.cells #[.int .i64 0] 3)) w2.heap.size (.slice (some ⟨w2.heap.size, 0, none⟩) 1 1) (wayN T k 0)) := by
      have e : wayN T k 0 = [0] := by
        unfold wayN
        show [idx0 T.ws []] = [0]
        rw [idx_at HS.out.ok.nodup HS.out.ok.root]
      rw [e]
      exact World.ownsRow_lit (base := w2.heap.size) (e := 3) (size := 1) w2 #[.int .i64 0] 1 (Nat.le_refl _) (by decide) rfl
    have HB3 : Hid (Below w2.heap.size w2 (w2.alloc (.cells #[.int .i64 0] 3))) := (Below.refl _ _).alloc (Nat.le_refl _) _
    obtain ⟨B2, hB2⟩ : ∃ B2, w2.heap.size = B2 := ⟨_, rfl⟩
    have HZ2 : Hid (W0.heap.size ≤ B2) := by rw [← hB2]; exact H2.out.size
    have HWB : Hid (∀ W, Below B2 w2 W → Below W0.heap.size W0 W) := fun W h => H2.out.trans (h.mono HZ2.out)
    clear h2 lp
    have HBB := Lib.hid hB2
    have HON0 : Hid (∀ u, u ≤ 0 → pathN k u ∈ T.ws) := fun u hu => by
      have : u = 0 := by omega
      subst this
      exact HS.out.ok.mem
    go_wp2
    rw [hB2] at HO3 HB3
    clear hB2 ib
    obtain ⟨i0, q0, q1, q2, q3⟩ := info_parts infoInt
    have Q0 := Lib.hid q0
    have Q1 := Lib.hid q1
    have Q2 := Lib.hid q2
    have Q3 := Lib.hid q3
    clear q0 q1 q2 q3
    go_loopw [6, 7, 8] (fun way _ _ wr => ∃ s : Nat, Hid (∀ u, u ≤ s → pathN k u ∈ T.ws) ∧ Hid (OwnI wr B2 way (wayN T k s)) ∧ Hid (Below B2 w2 wr)) (fun way _ _ _ => 40 - lenV way)
    case atStart => exact ⟨0, HON0, HO3, HB3.out⟩
    case round =>
      obtain ⟨s, HON, HO, HW⟩ := hrel
      obtain ⟨gw, capw, rfl⟩ := HO.out.form (by rw [wayN_length]; omega)
      obtain ⟨L, hL⟩ : ∃ L, (wayN T k s).length = L := ⟨_, rfl⟩
      have hLs : L = s + 1 := by rw [← hL, wayN_length]
      rw [hL] at HO ⊢
      have hmem := HON.out s (Nat.le_refl _)
      have hs31 : s ≤ 31 := by
        have h1 := HS.out.fit.deep _ hmem
        rw [pathN_length] at h1
        have h2 := (keysP_iff bits).1 HS.out.keys
        omega
      have hL1 : (L : Int) - 1 = (s : Int) := by omega
      have hLI : (L : Int) ≤ 32 := by omega
      have hsL : (s : Int) < L := by omega
      have hs0 : (0 : Int) ≤ s := by omega
      obtain ⟨i, hi⟩ : ∃ i, idx0 T.ws (pathN k s) = i := ⟨_, rfl⟩
      obtain ⟨b, hb⟩ : ∃ b, nib k s = b := ⟨_, rfl⟩
      obtain ⟨j, hj⟩ : ∃ j, idx0 T.ws (pathN k (s + 1)) = j := ⟨_, rfl⟩
      have hb16 : b < 16 := by rw [← hb]; exact nib_lt HKB.out s
      have hin : i < n := by rw [← hi, ← HNW.out]; exact idx_lt hmem
      have hat := at_idx hmem
      rw [hi] at hat
      have hnode := T.nodes_at hat
      have hnx : (T.node (pathN k s)).nx b = j := by rw [← hj, pathN_succ, hb]; rfl
      have hinI : (i : Int) < n := by omega
      have hi0 : (0 : Int) ≤ i := by omega
      have hb16I : (b : Int) < 16 := by omega
      have hb0 : (0 : Int) ≤ b := by omega
      have hgr : B2 ≤ wr.heap.size := by rw [← HBB.out]; exact HW.out.size
      have HGR := Lib.hid hgr
      have HF : Hid (∀ W, Below wr.heap.size wr W → W.cell? ⟨w.heap.size, 1, none⟩ = some (.slice (some ⟨g, 0, none⟩) n cap) ∧ W.cell? ⟨gw, s, none⟩ = some (.int .i64 (i : Nat)) ∧ (keyLoad ⟨w.heap.size + 1, 0, none⟩).run Try.prog W = .ok (.agg (kc k)) W ∧ W.cell? ⟨g, i * 48 + 32 + b, none⟩ = some (.int .i64 (j : Nat))) := fun W h => by
        obtain ⟨t1, t2, t3, -⟩ := HT.out W (HWB.out W (HW.out.trans (h.mono HGR.out)))
        refine ⟨by rw [cell_of t1]; rfl, (HO.out.later h).cell hL.symm (by rw [wayN_at T k (Nat.le_refl s), hi]), run_keyLoad (rowAt_of t2), ?_⟩
        rw [← HN.out] at t3
        have := t3.cell hnode (j := 32 + b) (by omega)
        rw [ndC_next, hnx] at this
        rw [Nat.add_assoc]; exact this
      have HST := Lib.hid (fun W => (by have h := step_any k s W HKB.out; rw [stepZ_nib _ (by omega), hb] at h; exact h : Calls Try.prog 61 #[.agg (kc k), .int .i64 s] W fun e w' => e = .returned (.int .i64 (b : Nat)) ∧ Below W.heap.size W w'))
      have HJ := Lib.hid hj
      have HLS := Lib.hid hLs
      have HLL := Lib.hid hL
      clear hmem hi hb hj hat hnode hnx hgr hLs hL
      go_wp2
      refine wp_region_held_drew (S := (fun w' => w'.cell? ⟨w.heap.size, 1, none⟩ = some (.slice (some ⟨g, 0, none⟩) n cap) ∧ w'.cell? ⟨gw, s, none⟩ = some (.int .i64 (i : Nat)) ∧ (keyLoad ⟨w.heap.size + 1, 0, none⟩).run Try.prog w' = .ok (.agg (kc k)) w' ∧ w'.cell? ⟨g, i * 48 + 32 + b, none⟩ = some (.int .i64 (j : Nat)))) (by kernel_rfl) (HF.out _ (Below.refl wr.heap.size wr).drew) (fun hHeld => ?_)
      refine wpAnyH_take (i := 0) (oi := { dst := some 27, op := Go.Op.fieldAddr 52 (Go.Operand.tmp 2) 1, type := 0, pos := "trie.go:43", after := #[], guard := none }) (v := ?v0a) rfl (by kernel_rfl) (by kernel_rfl) (by kernel_rfl) (fun _ _ _ h => h) (Or.inl ⟨by rfl, ?hy0a⟩) (by assumption) ?rest0a
      case hy0a => intro w hSw; (try dsimp only at hSw); go_simp; try with_reducible rfl
      try simp only [Act.put, List.setIfInBounds_toArray, List.set_cons_zero, List.set_cons_succ]
      refine wpAnyH_take (i := 1) (oi := { dst := some 28, op := Go.Op.load 50 (Go.Operand.tmp 27), type := 50, pos := "trie.go:43", after := #[{ on := 0, ground := Go.Ground.data }], guard := none }) (v := ?v1a) rfl (by kernel_rfl) (by kernel_rfl) (by kernel_rfl) (fun _ _ _ h => h) (Or.inl ⟨by rfl, ?hy1a⟩) (by assumption) ?rest1a
      case hy1a => intro w hSw; (try dsimp only at hSw); go_simp; try with_reducible rfl
      try simp only [Act.put, List.setIfInBounds_toArray, List.set_cons_zero, List.set_cons_succ]
      refine wpAnyH_take (i := 2) (oi := { dst := some 29, op := Go.Op.move (Go.Operand.tmp 6), type := 64, pos := "trie.go:43", after := #[], guard := none }) (v := ?v2a) rfl (by kernel_rfl) (by kernel_rfl) (by kernel_rfl) (fun _ _ _ h => h) (Or.inl ⟨by rfl, ?hy2a⟩) (by assumption) ?rest2a
      case hy2a => intro w hSw; (try dsimp only at hSw); go_simp; try with_reducible rfl
      try simp only [Act.put, List.setIfInBounds_toArray, List.set_cons_zero, List.set_cons_succ]
      refine wpAnyH_take (i := 3) (oi := { dst := some 30, op := Go.Op.move (Go.Operand.tmp 7), type := 3, pos := "trie.go:43", after := #[], guard := none }) (v := ?v3a) rfl (by kernel_rfl) (by kernel_rfl) (by kernel_rfl) (fun _ _ _ h => h) (Or.inl ⟨by rfl, ?hy3a⟩) (by assumption) ?rest3a
      case hy3a => intro w hSw; (try dsimp only at hSw); go_simp; try with_reducible rfl
      try simp only [Act.put, List.setIfInBounds_toArray, List.set_cons_zero, List.set_cons_succ]
      refine wpAnyH_take (i := 4) (oi := { dst := some 31, op := Go.Op.indexAddr 64 (Go.Operand.tmp 29) (Go.Operand.tmp 30), type := 0, pos := "trie.go:43", after := #[{ on := 2, ground := Go.Ground.data }, { on := 3, ground := Go.Ground.data }], guard := none }) (v := ?v4a) rfl (by kernel_rfl) (by kernel_rfl) (by kernel_rfl) (fun _ _ _ h => h) (Or.inl ⟨by rfl, ?hy4a⟩) (by assumption) ?rest4a
      case hy4a => intro w hSw; (try dsimp only at hSw); go_simp; try with_reducible rfl
      try simp only [Act.put, List.setIfInBounds_toArray, List.set_cons_zero, List.set_cons_succ]
      refine wpAnyH_take (i := 5) (oi := { dst := some 32, op := Go.Op.load 3 (Go.Operand.tmp 31), type := 3, pos := "trie.go:43", after := #[{ on := 4, ground := Go.Ground.data }], guard := none }) (v := ?v5a) rfl (by kernel_rfl) (by kernel_rfl) (by kernel_rfl) (fun _ _ _ h => h) (Or.inl ⟨by rfl, ?hy5a⟩) (by assumption) ?rest5a
      case hy5a => intro w hSw; (try dsimp only at hSw); go_simp; try with_reducible rfl
      try simp only [Act.put, List.setIfInBounds_toArray, List.set_cons_zero, List.set_cons_succ]
      refine wpAnyH_take (i := 6) (oi := { dst := some 33, op := Go.Op.load 24 (Go.Operand.tmp 3), type := 24, pos := "trie.go:43", after := #[], guard := none }) (v := ?v6a) rfl (by kernel_rfl) (by kernel_rfl) (by kernel_rfl) (fun _ _ _ h => h) (Or.inl ⟨by rfl, ?hy6a⟩) (by assumption) ?rest6a
      case hy6a => intro w hSw; (try dsimp only at hSw); go_simp; try with_reducible rfl
      try simp only [Act.put, List.setIfInBounds_toArray, List.set_cons_zero, List.set_cons_succ]
      refine wpAnyH_take (i := 7) (oi := { dst := some 34, op := Go.Op.move (Go.Operand.tmp 7), type := 3, pos := "trie.go:43", after := #[], guard := none }) (v := ?v7a) rfl (by kernel_rfl) (by kernel_rfl) (by kernel_rfl) (fun _ _ _ h => h) (Or.inl ⟨by rfl, ?hy7a⟩) (by assumption) ?rest7a
      case hy7a => intro w hSw; (try dsimp only at hSw); go_simp; try with_reducible rfl
      try simp only [Act.put, List.setIfInBounds_toArray, List.set_cons_zero, List.set_cons_succ]
      refine wpAnyH_take (i := 9) (oi := { dst := some 36, op := Go.Op.indexAddr 50 (Go.Operand.tmp 28) (Go.Operand.tmp 32), type := 0, pos := "trie.go:43", after := #[{ on := 1, ground := Go.Ground.data }, { on := 5, ground := Go.Ground.data }], guard := none }) (v := ?v9a) rfl (by kernel_rfl) (by kernel_rfl) (by kernel_rfl) (fun _ _ _ h => h) (Or.inl ⟨by rfl, ?hy9a⟩) (by assumption) ?rest9a
      case hy9a => intro w hSw; (try dsimp only at hSw); go_simp; try with_reducible rfl
      try simp only [Act.put, List.setIfInBounds_toArray, List.set_cons_zero, List.set_cons_succ]
      refine wpAnyH_take (i := 10) (oi := { dst := some 37, op := Go.Op.fieldAddr 104 (Go.Operand.tmp 36) 1, type := 0, pos := "trie.go:43", after := #[{ on := 9, ground := Go.Ground.data }], guard := none }) (v := ?v10a) rfl (by kernel_rfl) (by kernel_rfl) (by kernel_rfl) (fun _ _ _ h => h) (Or.inl ⟨by rfl, ?hy10a⟩) (by assumption) ?rest10a
      case hy10a => intro w hSw; (try dsimp only at hSw); go_simp; try with_reducible rfl
      try simp only [Act.put, List.setIfInBounds_toArray, List.set_cons_zero, List.set_cons_succ]
      refine wpAnyH_ready (rs := [8]) (by kernel_rfl) (by simp) ?_
      refine AllReadyH.cons (o := { dst := some 35, op := Go.Op.call { callee := Go.Callee.value (Go.Operand.func 61), args := #[Go.Operand.tmp 33, Go.Operand.tmp 34], argTypes := #[24, 3] }, type := 3, pos := "trie.go:43", after := #[{ on := 6, ground := Go.Ground.data }, { on := 7, ground := Go.Ground.data }], guard := none }) rfl (fun K hK => ?_) AllReadyH.nil
      go_simp
      go_at_call 61
      refine (HST.out _).mono ?_
      rintro e7 w7 ⟨rfl, h7'⟩
      have h7 : Below wr.heap.size wr w7 := (Below.refl wr.heap.size wr).drew.trans h7'
      go_simp
      refine hK.out _ _ (HF.out _ h7) (fun hHeld => ?_)
      clear hK K h7'
      try simp only [Act.put, List.setIfInBounds_toArray, List.set_cons_zero, List.set_cons_succ]
      refine wpAnyH_take (i := 11) (oi := { dst := some 38, op := Go.Op.indexAddr 102 (Go.Operand.tmp 37) (Go.Operand.tmp 35), type := 0, pos := "trie.go:43", after := #[{ on := 10, ground := Go.Ground.data }, { on := 8, ground := Go.Ground.data }], guard := none }) (v := ?v11a) rfl (by kernel_rfl) (by kernel_rfl) (by kernel_rfl) (fun _ _ _ h => h) (Or.inl ⟨by rfl, ?hy11a⟩) (by assumption) ?rest11a
      case hy11a => intro w hSw; (try dsimp only at hSw); go_simp; try with_reducible rfl
      try simp only [Act.put, List.setIfInBounds_toArray, List.set_cons_zero, List.set_cons_succ]
      refine wpAnyH_take (i := 12) (oi := { dst := some 39, op := Go.Op.load 3 (Go.Operand.tmp 38), type := 3, pos := "trie.go:43", after := #[{ on := 11, ground := Go.Ground.data }], guard := none }) (v := ?v12a) rfl (by kernel_rfl) (by kernel_rfl) (by kernel_rfl) (fun _ _ _ h => h) (Or.inl ⟨by rfl, ?hy12a⟩) (by assumption) ?rest12a
      case hy12a => intro w hSw; (try dsimp only at hSw); go_simp; try with_reducible rfl
      try simp only [Act.put, List.setIfInBounds_toArray, List.set_cons_zero, List.set_cons_succ]
      refine wpAnyH_take (i := 13) (oi := { dst := some 8, op := Go.Op.assign (Go.Operand.tmp 39), type := 3, pos := "trie.go:43", after := #[{ on := 12, ground := Go.Ground.data }, { on := 8, ground := Go.Ground.chain }, { on := 0, ground := Go.Ground.phase }, { on := 1, ground := Go.Ground.phase }, { on := 2, ground := Go.Ground.phase }, { on := 3, ground := Go.Ground.phase }, { on := 4, ground := Go.Ground.phase }, { on := 5, ground := Go.Ground.phase }, { on := 6, ground := Go.Ground.phase }, { on := 7, ground := Go.Ground.phase }, { on := 8, ground := Go.Ground.phase }, { on := 9, ground := Go.Ground.phase }, { on := 10, ground := Go.Ground.phase }, { on := 11, ground := Go.Ground.phase }, { on := 12, ground := Go.Ground.phase }], guard := none }) (v := ?v13a) rfl (by kernel_rfl) (by kernel_rfl) (by kernel_rfl) (fun _ _ _ h => h) (Or.inl ⟨by rfl, ?hy13a⟩) (by assumption) ?rest13a
      case hy13a => intro w hSw; (try dsimp only at hSw); go_simp; try with_reducible rfl
      try simp only [Act.put, List.setIfInBounds_toArray, List.set_cons_zero, List.set_cons_succ]
      refine wpAnyH_done (by kernel_rfl) ?_ _
      have HO7 := Lib.hid (HO.out.later h7)
      have HW7 := Lib.hid (HW.out.trans (h7.mono HGR.out))
      clear hHeld h7
      by_cases hz : j = 0
      · have hz1 : ((j : Int) == 0) = true := by rw [beq_iff_eq]; omega
        have HWT : Hid (WalkTo T k s) := ⟨HON.out, by
          have h := HJ.out
          rw [hz, pathN_succ] at h
          rw [pathN_succ]
          exact (HS.out.ok.zero _ _).1 h⟩
        have HFN := Lib.hid (HT.out w7 (HWB.out w7 HW7.out)).2.2.2
        have HOF : Hid (OwnI w7 w.heap.size (.slice (some ⟨gw, 0, none⟩) L capw) (wayN T k s)) := HO7.out.base (by have := HZ.out; have := HZ2.out; omega)
        clear hz
        go_wp2
        go_ret
        exact ⟨HFN.out, .inr ⟨trivial, _, s, rfl, HWT.out, HOF.out⟩⟩
      · have hz1 : ((j : Int) == 0) = false := by rw [beq_eq_false_iff_ne]; omega
        have hmem2 : pathN k (s + 1) ∈ T.ws := by
          rw [pathN_succ]
          have h := HJ.out
          rw [pathN_succ] at h
          cases Decidable.em (pathN k s ++ [nib k s] ∈ T.ws) with
          | inl h2 => exact h2
          | inr h2 => exact absurd (h.symm.trans ((HS.out.ok.zero _ _).2 h2)) hz
        have HON2 : Hid (∀ u, u ≤ s + 1 → pathN k u ∈ T.ws) := fun u hu => by
          by_cases e : u = s + 1
          · rw [e]; exact hmem2
          · exact HON.out u (by omega)
        have ib := run_intsBuild j w7
        have hal : Below w7.heap.size w7 (w7.alloc (.cells #[.int .i64 (j : Nat)] 3)) := (Below.refl _ _).alloc (Nat.le_refl _) _
        have hown := HO7.out.later hal
        have hnew : CellsAt (w7.alloc (.cells #[.int .i64 (j : Nat)] 3)) ⟨w7.heap.size, 0, none⟩ [.int .i64 (j : Nat)] := cellsAt_one w7 _
        have hgr7 : B2 ≤ w7.heap.size := Nat.le_trans (Nat.le_of_eq HBB.out.symm) HW7.out.size
        have hb2 : Below B2 w2 (w7.alloc (.cells #[.int .i64 (j : Nat)] 3)) := HW7.out.trans (hal.mono hgr7)
        have hgr8 : B2 ≤ (w7.alloc (.cells #[.int .i64 (j : Nat)] 3)).heap.size := Nat.le_trans hgr7 hal.size
        clear hal hgr7
        go_wp2_with (at_builtin; refine wpList_append_own _ rfl _ _ 64 rfl B2 3 i0 (.int .i64 0) 1 8 Try.underlying64 Q0.out Q1.out Q2.out Q3.out rfl (by decide) _ (wayN T k s).length (ic (wayN T k s)) rfl hown ⟨w7.heap.size, 0, none⟩ 1 1 [.int .i64 (j : Nat)] rfl rfl hnew (by simp [Value.oneCell']) (by rw [HLL.out]; simp only [maxLen]; omega) (by rw [HLL.out]; omega) hgr8 ?_)
        intro vz wz hown' hg _
        have HBZ : Hid (Below B2 w2 wz) := hb2.grown hg hgr8 (fun q hq => (World.ownsRow.lt hown q hq).1)
        have HOZ : Hid (OwnI wz B2 vz (wayN T k (s + 1))) := by
          show OwnI _ _ _ _
          rw [wayN_succ, HJ.out]
          unfold OwnI
          have e : ic (wayN T k s ++ [j]) = ic (wayN T k s) ++ [.int .i64 (j : Nat)] := by simp [ic]
          rw [e, List.length_append]
          exact hown'
        have hlen : lenV vz = s + 2 := by
          obtain ⟨gz, cz, hvz⟩ := HOZ.out.form (by rw [wayN_length]; omega)
          rw [hvz, wayN_length]; rfl
        clear hown' hg hown hnew hb2 hgr8 ib hz hmem2
        go_wp2
        go_roundw
        case rel => exact ⟨s + 1, HON2, HOZ.out, HBZ.out⟩
        case measure => rw [hlen]; show 40 - (s + 2) < 40 - L; omega
end Go.Proofs.Ytggjcjijoihilaa
