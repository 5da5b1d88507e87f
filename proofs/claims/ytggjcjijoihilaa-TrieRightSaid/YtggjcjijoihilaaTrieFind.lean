/- trie.Find of a table's trie: the slot of the longest route on the way. -/
import Derived.Test.YtggjcjijoihilaaTrieWalk
import Derived.BigQuiet
import Derived.OwnWalk
namespace Go.Proofs.Ytggjcjijoihilaa
open Go.RowKit Go.Sort Go.Shelf
attribute [local go_sem ↓] loadVar_key loadVar_pre storeVar_pre build_pre loadVar_trie storeVar_trie loadVar_slot storeVar_slot

theorem sc_one (x : Nat × Nat) : (sc x).all (·.oneCell') = true := by unfold sc; simp [Value.oneCell']
theorem run_slotStore_new (x : Nat × Nat) (W : World) (Z : Array Value) (hZ : Z.size = 2) : (slotStore ⟨W.heap.size, 0, none⟩ (.agg (sc x))).run Try.prog (W.alloc (.cells Z 100)) = .ok () (W.alloc (.cells (sc x) 100)) := by
  have h := run_storeVar_row (P := Try.prog) (W.alloc (.cells Z 100)) W.heap.size 100 100 Z (sc x) (Go.heap_alloc_new W _) infoSlot hZ (sc_one x)
  rw [World.setRow_alloc_new] at h
  exact h
theorem run_slotStore_at {W : World} {b : Nat} {y : Nat × Nat} (h : W.heap[b]? = some (.cells (sc y) 100 (0, 0))) (x : Nat × Nat) : (slotStore ⟨b, 0, none⟩ (.agg (sc x))).run Try.prog W = .ok () (W.setRow b (sc x)) :=
  run_storeVar_row (P := Try.prog) W b 100 100 (sc y) (sc x) h infoSlot rfl (sc_one x)
theorem run_slotLoad_box {w : World} {b : Nat} {x : Nat × Nat} {t : TypeId} (h : w.heap[b]? = some (.cells (sc x) t (0, 0))) : (slotLoad ⟨b, 0, none⟩).run Try.prog w = .ok (.agg (sc x)) w :=
  run_load_at (cs := [.int .i64 (x.1 : Nat), .int .u16 (x.2 : Nat)]) Try.underlying100 rfl infoSlot (fun j u hu => by
    have hadd : (⟨b, 0, none⟩ : Addr).add j = ⟨b, j, none⟩ := by unfold Addr.add; split <;> simp_all
    rw [hadd, cell_of h]; simpa [sc] using hu)
theorem run_slotLoad_own {w : World} {base g cap : Nat} {ns : List Nd} (h : OwnN w base (.slice (some ⟨g, 0, none⟩) ns.length cap) ns) {i : Nat} {nd : Nd} (hi : ns[i]? = some nd) {b : Nat} (hb : b < 16) : (slotLoad ⟨g, i * 48 + b * 2, none⟩).run Try.prog w = .ok (.agg (sc (nd.sl b))) w :=
  run_load_at (cs := [.int .i64 ((nd.sl b).1 : Nat), .int .u16 ((nd.sl b).2 : Nat)]) Try.underlying100 rfl infoSlot (fun j u hu => by
    have hj : j < 2 := by have := (List.getElem?_eq_some_iff.1 hu).1; simpa using this
    have hadd : (⟨g, i * 48 + b * 2, none⟩ : Addr).add j = ⟨g, i * 48 + b * 2 + j, none⟩ := by unfold Addr.add; split <;> simp_all
    rw [hadd, Nat.add_assoc, h.cell hi (by omega)]
    have h2 : j = 0 ∨ j = 1 := by omega
    rcases h2 with rfl | rfl
    · rw [Nat.add_zero, Nat.mul_comm, ndC_len nd hb]; simpa using hu
    · rw [Nat.mul_comm, ndC_hop nd hb]; simpa using hu)

def pickS (o x : Nat × Nat) : Nat × Nat := if o.1 < x.1 then x else o
def bestS (T : Tr) (k : Nat → Nat) (m : Nat) : Nat × Nat := (List.range m).foldl (fun o s => pickS o (T.sl (pathN k s) (nib k s))) (0, 0)
theorem bestS_succ (T : Tr) (k : Nat → Nat) (m : Nat) : bestS T k (m + 1) = pickS (bestS T k m) (T.sl (pathN k m) (nib k m)) := by
  unfold bestS; rw [List.range_succ, List.foldl_append]; rfl
def foundS (x : Nat × Nat) : Nat × Nat × Int := if x.1 = 0 then (0, 0, 6) else (x.1 - 1, x.2, 0)
def FindPost (w : World) (T : Tr) (k : Nat → Nat) (bits : Int) (e : Ending) (w' : World) : Prop :=
  Below w.heap.size w w' ∧ ((mayB (wholeP k bits) = false ∧ e = .returned (.tuple #[.int .i64 0, .int .u16 0, .int .i64 1])) ∨
    (mayB (wholeP k bits) = true ∧ ∃ m, WalkTo T k m ∧ e = .returned (.tuple #[.int .i64 ((foundS (bestS T k (m + 1))).1 : Nat), .int .u16 ((foundS (bestS T k (m + 1))).2.1 : Nat), .int .i64 (foundS (bestS T k (m + 1))).2.2])))

set_option maxHeartbeats 2000000 in
set_option maxRecDepth 100000 in
theorem find_any (T : Tr) (bits : Int) (hS : Stands T bits) (k : Nat → Nat) (hk : Bytes16 k) (v : Value) (w : World) (base : Nat) (hv : OwnN w base v T.nodes) :
    Calls Try.prog 29 #[.agg (tc bits v), .agg (kc k)] w (FindPost w T k bits) := by
  have hpos := hS.ok.pos
  obtain ⟨g, cap, rfl, -, -⟩ := hv.form (by rw [T.nodes_length]; exact hpos)
  obtain ⟨n, hn⟩ : ∃ n, T.nodes.length = n := ⟨_, rfl⟩
  have hnw : T.ws.length = n := by rw [← T.nodes_length]; exact hn
  have hl := hS.few
  rw [hnw] at hpos hl
  rw [hn] at hv ⊢
  have hb0 : Below w.heap.size w ((w.alloc (.cells (tc bits (.slice (some ⟨g, 0, none⟩) n cap)) 52)).alloc (.cells (kc k) 24)) := ((Below.refl _ _).alloc (Nat.le_refl _) _).alloc (by simp) _
  have hx0 : ((w.alloc (.cells (tc bits (.slice (some ⟨g, 0, none⟩) n cap)) 52)).alloc (.cells (kc k) 24)).heap[w.heap.size]? = some (.cells (tc bits (.slice (some ⟨g, 0, none⟩) n cap)) 52 (0, 0)) := by
    rw [Go.heap_alloc_old _ _ (by simp)]; exact Go.heap_alloc_new w _
  have hk0 : ((w.alloc (.cells (tc bits (.slice (some ⟨g, 0, none⟩) n cap)) 52)).alloc (.cells (kc k) 24)).heap[w.heap.size + 1]? = some (.cells (kc k) 24 (0, 0)) := by
    have := Go.heap_alloc_new (w.alloc (.cells (tc bits (.slice (some ⟨g, 0, none⟩) n cap)) 52)) (.cells (kc k) 24); simpa using this
  obtain ⟨W0, hW0⟩ : ∃ W0, (w.alloc (.cells (tc bits (.slice (some ⟨g, 0, none⟩) n cap)) 52)).alloc (.cells (kc k) 24) = W0 := ⟨_, rfl⟩
  have hz0 : W0.heap.size = w.heap.size + 2 := by rw [← hW0]; simp
  rw [hW0] at hb0 hx0 hk0
  have HT : Hid (∀ W, Below W0.heap.size W0 W → W.heap[w.heap.size]? = some (.cells (tc bits (.slice (some ⟨g, 0, none⟩) n cap)) 52 (0, 0)) ∧ W.heap[w.heap.size + 1]? = some (.cells (kc k) 24 (0, 0)) ∧ OwnN W base (.slice (some ⟨g, 0, none⟩) n cap) T.nodes ∧ Below w.heap.size w W) := fun W h =>
    ⟨(h.block _ (by omega)).trans hx0, (h.block _ (by omega)).trans hk0, hv.later (hb0.trans (h.mono (by omega))), hb0.trans (h.mono (by omega))⟩
  have lk := run_keyLoad (rowAt_of hk0)
  have lt := run_trieLoad hx0
  have C := walk_any T bits hS k hk (.slice (some ⟨g, 0, none⟩) n cap) W0 base (HT.out W0 (Below.refl _ _)).2.2.1
  have HC := Lib.hid C
  have HS := Lib.hid hS
  have HKB := Lib.hid hk
  have HNW := Lib.hid hnw
  have HN := Lib.hid hn
  unfold WalkPost at HC
  clear hb0 hx0 hk0 hz0 hv C hS hk hnw hn
  unfold FindPost
  go_enter Try.func29, Try.ntmps29
  go_wp2_with fail
  refine HC.out.mono ?_
  rintro e w1 ⟨h1, ⟨hm, rfl⟩ | ⟨hm, vw, m, rfl, hwt, ho⟩⟩
  · have HF := Lib.hid (HT.out w1 h1).2.2.2
    have HM := Lib.hid hm
    clear h1 lk lt hm
    go_wp2
    refine bodyPost_ret (results_tmp3 rfl _ _ _) rfl ?_
    exact ⟨HF.out, .inl ⟨HM.out, rfl⟩⟩
  · obtain ⟨gw, capw, rfl⟩ := ho.form (by rw [wayN_length]; omega)
    obtain ⟨L, hL⟩ : ∃ L, (wayN T k m).length = L := ⟨_, rfl⟩
    have hLm : L = m + 1 := by rw [← hL, wayN_length]
    rw [hL] at ho ⊢
    have hm31 : m ≤ 31 := by
      have h1 := HS.out.fit.deep _ (hwt.on m (Nat.le_refl _))
      rw [pathN_length] at h1
      have h2 := (keysP_iff bits).1 HS.out.keys
      omega
    have hz : ((L : Int) == 0) = false := by rw [beq_eq_false_iff_ne]; omega
    have hLI : (L : Int) ≤ 32 := by omega
    have HO := Lib.hid ho
    have HB1 := Lib.hid h1
    have HM := Lib.hid hm
    have HWT := Lib.hid hwt
    have HLL := Lib.hid hL
    have HLM := Lib.hid hLm
    have hal : Below w1.heap.size w1 (w1.alloc (.cells (sc (0, 0)) 100)) := (Below.refl _ _).alloc (Nat.le_refl _) _
    have hbx : (w1.alloc (.cells (sc (0, 0)) 100)).heap[w1.heap.size]? = some (.cells (sc (0, 0)) 100 (0, 0)) := Go.heap_alloc_new w1 _
    obtain ⟨w2, hw2⟩ : ∃ w2, w1.alloc (.cells (sc (0, 0)) 100) = w2 := ⟨_, rfl⟩
    obtain ⟨B, hB⟩ : ∃ B, w1.heap.size = B := ⟨_, rfl⟩
    rw [hw2] at hal hbx
    rw [hB] at hbx
    have HBX : Hid (w2.heap[B]? = some (.cells (sc (bestS T k 0)) 100 (0, 0))) := hbx
    have HA := Lib.hid hal
    have HBB := Lib.hid hB
    have HW2 : Hid (w1.alloc (.cells #[.int .i64 0, .int .u16 0] 100) = w2) := hw2
    clear ho h1 hm hwt hL hLm hal hbx lk lt hw2 hB
    go_wp2
    rw [HW2.out, HBB.out]
    have hBL : B < w2.heap.size := (Array.getElem?_eq_some_iff.1 HBX.out).1
    have hA2 := HA.out
    rw [HBB.out] at hA2
    have hB0 : W0.heap.size ≤ B := by rw [← HBB.out]; exact HB1.out.size
    have HE1 : Hid (∀ W, Below B w2 W → Below W0.heap.size W0 W) := fun W h => HB1.out.trans ((hA2.trans h).mono hB0)
    have HOW : Hid (∀ W, Below B w2 W → OwnI W W0.heap.size (.slice (some ⟨gw, 0, none⟩) L capw) (wayN T k m)) := fun W h => by
      refine HO.out.later ?_
      rw [HBB.out]
      exact hA2.trans h
    have HBL := Lib.hid hBL
    clear hBL hA2 hB0
    go_loopw [9, 10, 11, 20] (fun _ _ _ t20 wr => ∃ s : Nat, s ≤ L ∧ t20 = .int .i64 s ∧ Hid (wr.heap[B]? = some (.cells (sc (bestS T k s)) 100 (0, 0))) ∧ Hid (Below B w2 wr)) (fun _ _ _ t20 _ => L - (intOf t20).toNat)
    case atStart => exact ⟨0, Nat.zero_le _, rfl, HBX, Below.refl _ _⟩
    case round =>
      obtain ⟨s, hs, rfl, HX, HW⟩ := hrel
      by_cases hlt : s < L
      · have hltI : (s : Int) < L := by omega
        have hs0 : (0 : Int) ≤ s := by omega
        have hsm : s ≤ m := by have := HLM.out; omega
        have hmem := HWT.out.on s hsm
        obtain ⟨i, hi⟩ : ∃ i, idx0 T.ws (pathN k s) = i := ⟨_, rfl⟩
        obtain ⟨b, hb⟩ : ∃ b, nib k s = b := ⟨_, rfl⟩
        have hb16 : b < 16 := by rw [← hb]; exact nib_lt HKB.out s
        have hin : i < n := by rw [← hi, ← HNW.out]; exact idx_lt hmem
        have hat := at_idx hmem
        rw [hi] at hat
        have hnode := T.nodes_at hat
        obtain ⟨x, hx⟩ : ∃ x, T.sl (pathN k s) b = x := ⟨_, rfl⟩
        have hinI : (i : Int) < n := by omega
        have hi0 : (0 : Int) ≤ i := by omega
        have hb16I : (b : Int) < 16 := by omega
        have hb0 : (0 : Int) ≤ b := by omega
        have hway := (HOW.out wr HW.out).cell HLL.out.symm (by rw [wayN_at T k hsm, hi])
        have hBw : B < wr.heap.size := (Array.getElem?_eq_some_iff.1 HX.out).1
        have HF : Hid (∀ W, Below wr.heap.size wr W → W.cell? ⟨w.heap.size, 1, none⟩ = some (.slice (some ⟨g, 0, none⟩) n cap) ∧ (keyLoad ⟨w.heap.size + 1, 0, none⟩).run Try.prog W = .ok (.agg (kc k)) W ∧ (slotLoad ⟨g, i * 48 + b * 2, none⟩).run Try.prog W = .ok (.agg (sc x)) W) := fun W h => by
          obtain ⟨t1, t2, t3, -⟩ := HT.out W (HE1.out W (HW.out.trans (h.mono (Nat.le_of_lt hBw))))
          rw [← HN.out] at t3
          have h3 := run_slotLoad_own t3 hnode hb16
          rw [show (T.node (pathN k s)).sl b = x from hx] at h3
          exact ⟨by rw [cell_of t1]; rfl, run_keyLoad (rowAt_of t2), h3⟩
        have HST := Lib.hid (fun W => (by have h := step_any k s W HKB.out; rw [stepZ_nib _ (by have := HLM.out; omega), hb] at h; exact h : Calls Try.prog 61 #[.agg (kc k), .int .i64 s] W fun e w' => e = .returned (.int .i64 (b : Nat)) ∧ Below W.heap.size W w'))
        have HDR : Hid (Below wr.heap.size wr wr.drew) := (Below.refl wr.heap.size wr).drew
        have HSP : Hid (bestS T k (s + 1) = pickS (bestS T k s) x) := by show _ = _; rw [bestS_succ, hb, hx]
        obtain ⟨o, ho⟩ : ∃ o, bestS T k s = o := ⟨_, rfl⟩
        rw [ho] at HX HSP
        have HBW := Lib.hid hBw
        clear hmem hi hb hat hnode hx ho hBw
        go_wp2
        clear hway
        refine wp_region_held_drew (S := (fun w' => w'.cell? ⟨w.heap.size, 1, none⟩ = some (.slice (some ⟨g, 0, none⟩) n cap) ∧ (keyLoad ⟨w.heap.size + 1, 0, none⟩).run Try.prog w' = .ok (.agg (kc k)) w' ∧ (slotLoad ⟨g, i * 48 + b * 2, none⟩).run Try.prog w' = .ok (.agg (sc x)) w')) (by kernel_rfl) (HF.out _ (Below.refl wr.heap.size wr).drew) (fun hHeld => ?_)
        refine wpAnyH_take (i := 0) (oi := { dst := some 25, op := Go.Op.fieldAddr 52 (Go.Operand.tmp 2) 1, type := 0, pos := "trie.go:60", after := #[], guard := none }) (v := ?v0f) rfl (by kernel_rfl) (by kernel_rfl) (by kernel_rfl) (fun _ _ _ h => h) (Or.inl ⟨by rfl, ?hy0f⟩) (by assumption) ?rest0f
        case hy0f => intro w hSw; (try dsimp only at hSw); go_simp; try with_reducible rfl
        try simp only [Act.put, List.setIfInBounds_toArray, List.set_cons_zero, List.set_cons_succ]
        refine wpAnyH_take (i := 1) (oi := { dst := some 26, op := Go.Op.load 50 (Go.Operand.tmp 25), type := 50, pos := "trie.go:60", after := #[{ on := 0, ground := Go.Ground.data }], guard := none }) (v := ?v1f) rfl (by kernel_rfl) (by kernel_rfl) (by kernel_rfl) (fun _ _ _ h => h) (Or.inl ⟨by rfl, ?hy1f⟩) (by assumption) ?rest1f
        case hy1f => intro w hSw; (try dsimp only at hSw); go_simp; try with_reducible rfl
        try simp only [Act.put, List.setIfInBounds_toArray, List.set_cons_zero, List.set_cons_succ]
        refine wpAnyH_take (i := 2) (oi := { dst := some 27, op := Go.Op.move (Go.Operand.tmp 10), type := 3, pos := "trie.go:60", after := #[], guard := none }) (v := ?v2f) rfl (by kernel_rfl) (by kernel_rfl) (by kernel_rfl) (fun _ _ _ h => h) (Or.inl ⟨by rfl, ?hy2f⟩) (by assumption) ?rest2f
        case hy2f => intro w hSw; (try dsimp only at hSw); go_simp; try with_reducible rfl
        try simp only [Act.put, List.setIfInBounds_toArray, List.set_cons_zero, List.set_cons_succ]
        refine wpAnyH_take (i := 3) (oi := { dst := some 28, op := Go.Op.load 24 (Go.Operand.tmp 3), type := 24, pos := "trie.go:60", after := #[], guard := none }) (v := ?v3f) rfl (by kernel_rfl) (by kernel_rfl) (by kernel_rfl) (fun _ _ _ h => h) (Or.inl ⟨by rfl, ?hy3f⟩) (by assumption) ?rest3f
        case hy3f => intro w hSw; (try dsimp only at hSw); go_simp; try with_reducible rfl
        try simp only [Act.put, List.setIfInBounds_toArray, List.set_cons_zero, List.set_cons_succ]
        refine wpAnyH_take (i := 4) (oi := { dst := some 29, op := Go.Op.move (Go.Operand.tmp 9), type := 3, pos := "trie.go:60", after := #[], guard := none }) (v := ?v4f) rfl (by kernel_rfl) (by kernel_rfl) (by kernel_rfl) (fun _ _ _ h => h) (Or.inl ⟨by rfl, ?hy4f⟩) (by assumption) ?rest4f
        case hy4f => intro w hSw; (try dsimp only at hSw); go_simp; try with_reducible rfl
        try simp only [Act.put, List.setIfInBounds_toArray, List.set_cons_zero, List.set_cons_succ]
        refine wpAnyH_take (i := 6) (oi := { dst := some 31, op := Go.Op.indexAddr 50 (Go.Operand.tmp 26) (Go.Operand.tmp 27), type := 0, pos := "trie.go:60", after := #[{ on := 1, ground := Go.Ground.data }, { on := 2, ground := Go.Ground.data }], guard := none }) (v := ?v6f) rfl (by kernel_rfl) (by kernel_rfl) (by kernel_rfl) (fun _ _ _ h => h) (Or.inl ⟨by rfl, ?hy6f⟩) (by assumption) ?rest6f
        case hy6f => intro w hSw; (try dsimp only at hSw); go_simp; try with_reducible rfl
        try simp only [Act.put, List.setIfInBounds_toArray, List.set_cons_zero, List.set_cons_succ]
        refine wpAnyH_take (i := 7) (oi := { dst := some 32, op := Go.Op.fieldAddr 104 (Go.Operand.tmp 31) 0, type := 0, pos := "trie.go:60", after := #[{ on := 6, ground := Go.Ground.data }], guard := none }) (v := ?v7f) rfl (by kernel_rfl) (by kernel_rfl) (by kernel_rfl) (fun _ _ _ h => h) (Or.inl ⟨by rfl, ?hy7f⟩) (by assumption) ?rest7f
        case hy7f => intro w hSw; (try dsimp only at hSw); go_simp; try with_reducible rfl
        try simp only [Act.put, List.setIfInBounds_toArray, List.set_cons_zero, List.set_cons_succ]
        refine wpAnyH_ready (rs := [5, 10]) (by kernel_rfl) (by simp) ?_
        refine AllReadyH.cons (o := { dst := some 30, op := Go.Op.call { callee := Go.Callee.value (Go.Operand.func 61), args := #[Go.Operand.tmp 28, Go.Operand.tmp 29], argTypes := #[24, 3] }, type := 3, pos := "trie.go:60", after := #[{ on := 3, ground := Go.Ground.data }, { on := 4, ground := Go.Ground.data }], guard := none }) rfl (fun K hK => ?_) (AllReadyH.cons (o := { dst := some 11, op := Go.Op.alloc 100, type := 0, pos := "trie.go:60", after := #[], guard := none }) rfl (fun K hK => ?_) AllReadyH.nil)
        · skip
          go_simp
          go_at_call 61
          refine (HST.out _).mono ?_
          rintro e7 w7 ⟨rfl, h7'⟩
          have h7 : Below wr.drew.heap.size wr.drew w7 := h7'
          go_simp
          refine hK.out _ _ (HF.out _ (HDR.out.trans h7)) (fun hHeld => ?_)
          clear hK K h7'
          try simp only [Act.put, List.setIfInBounds_toArray, List.set_cons_zero, List.set_cons_succ]
          refine wpAnyH_take (i := 8) (oi := { dst := some 33, op := Go.Op.indexAddr 101 (Go.Operand.tmp 32) (Go.Operand.tmp 30), type := 0, pos := "trie.go:60", after := #[{ on := 7, ground := Go.Ground.data }, { on := 5, ground := Go.Ground.data }], guard := none }) (v := ?v8fa) rfl (by kernel_rfl) (by kernel_rfl) (by kernel_rfl) (fun _ _ _ h => h) (Or.inl ⟨by rfl, ?hy8fa⟩) (by assumption) ?rest8fa
          case hy8fa => intro w hSw; (try dsimp only at hSw); go_simp; try with_reducible rfl
          try simp only [Act.put, List.setIfInBounds_toArray, List.set_cons_zero, List.set_cons_succ]
          refine wpAnyH_take (i := 9) (oi := { dst := some 34, op := Go.Op.load 100 (Go.Operand.tmp 33), type := 100, pos := "trie.go:60", after := #[{ on := 8, ground := Go.Ground.data }], guard := none }) (v := ?v9fa) rfl (by kernel_rfl) (by kernel_rfl) (by kernel_rfl) (fun _ _ _ h => h) (Or.inl ⟨by rfl, ?hy9fa⟩) (by assumption) ?rest9fa
          case hy9fa => intro w hSw; (try dsimp only at hSw); go_simp; try with_reducible rfl
          try simp only [Act.put, List.setIfInBounds_toArray, List.set_cons_zero, List.set_cons_succ]
          refine wpAnyH_ready (rs := [10]) (by kernel_rfl) (by simp) ?_
          refine AllReadyH.cons (o := { dst := some 11, op := Go.Op.alloc 100, type := 0, pos := "trie.go:60", after := #[], guard := none }) rfl (fun K hK => ?_) AllReadyH.nil
          go_simp
          refine hK.out _ _ (HF.out _ (HDR.out.trans (h7.alloc h7.size _))) (fun hHeld => ?_)
          clear hK K
          try simp only [Act.put, List.setIfInBounds_toArray, List.set_cons_zero, List.set_cons_succ]
          refine wpAnyH_ready (rs := [11]) (by kernel_rfl) (by simp) ?_
          refine AllReadyH.cons (o := { dst := none, op := Go.Op.store 100 (Go.Operand.tmp 11) (Go.Operand.tmp 34), type := 0, pos := "trie.go:60", after := #[{ on := 10, ground := Go.Ground.data }, { on := 9, ground := Go.Ground.data }, { on := 5, ground := Go.Ground.chain }, { on := 0, ground := Go.Ground.phase }, { on := 1, ground := Go.Ground.phase }, { on := 2, ground := Go.Ground.phase }, { on := 3, ground := Go.Ground.phase }, { on := 4, ground := Go.Ground.phase }, { on := 5, ground := Go.Ground.phase }, { on := 6, ground := Go.Ground.phase }, { on := 7, ground := Go.Ground.phase }, { on := 8, ground := Go.Ground.phase }, { on := 9, ground := Go.Ground.phase }, { on := 10, ground := Go.Ground.phase }], guard := none }) rfl (fun K hK => ?_) AllReadyH.nil
          have hst := run_slotStore_new x w7
          go_simp
          refine hK.out _ _ (HF.out _ (HDR.out.trans (h7.alloc h7.size _))) (fun hHeld => ?_)
          clear hK K
          try simp only [Act.put, List.setIfInBounds_toArray, List.set_cons_zero, List.set_cons_succ]
          refine wpAnyH_done (by kernel_rfl) ?_ _
          have h8 : Below wr.heap.size wr (w7.alloc (.cells (sc x) 100)) := HDR.out.trans (h7.alloc h7.size _)
          have hcy : (w7.alloc (.cells (sc x) 100)).heap[w7.heap.size]? = some (.cells (sc x) 100 (0, 0)) := Go.heap_alloc_new w7 _
          obtain ⟨wy, hwy⟩ : ∃ wy, w7.alloc (.cells (sc x) 100) = wy := ⟨_, rfl⟩
          obtain ⟨c, hc⟩ : ∃ c, w7.heap.size = c := ⟨_, rfl⟩
          rw [hwy, hc]
          rw [hwy] at h8 hcy
          rw [hc] at hcy
          have hXy := (h8.block B HBW.out).trans HX.out
          have hBy := HW.out.trans (h8.mono (Nat.le_of_lt HBW.out))
          clear hHeld h7 h8 hwy hc
          have c1 : wy.cell? ⟨c, 0, none⟩ = some (.int .i64 (x.1 : Nat)) := by rw [cell_of hcy]; rfl
          have c2 : wy.cell? ⟨B, 0, none⟩ = some (.int .i64 (o.1 : Nat)) := by rw [cell_of hXy]; rfl
          have ls := run_slotLoad_box hcy
          have st := run_slotStore_at hXy x
          have HXY := Lib.hid hXy
          have HBY := Lib.hid hBy
          clear hcy hXy hBy
          by_cases hlt2 : o.1 < x.1
          · have hd : decide (((o.1 : Nat) : Int) < ((x.1 : Nat) : Int)) = true := decide_eq_true (by omega)
            have hd2 : decide (o.1 < x.1) = true := decide_eq_true hlt2
            have HP : Hid (pickS o x = x) := by show _ = _; unfold pickS; rw [if_pos hlt2]
            have HX2 : Hid ((wy.setRow B (sc x)).heap[B]? = some (.cells (sc x) 100 (0, 0))) := setRow_heap _ _ _ _ _ _ HXY.out
            have HB2 : Hid (Below B w2 (wy.setRow B (sc x))) := below_setRow HBY.out (Nat.le_refl _) _
            clear hlt2
            go_wp2
            go_roundw
            case rel => exact ⟨s + 1, by omega, by go_num, by rw [HSP.out, HP.out]; exact HX2.out, HB2.out⟩
            case measure => simp [intOf]; omega
          · have hd : decide (((o.1 : Nat) : Int) < ((x.1 : Nat) : Int)) = false := decide_eq_false (by omega)
            have hd2 : decide (o.1 < x.1) = false := decide_eq_false hlt2
            have HP : Hid (pickS o x = o) := by show _ = _; unfold pickS; rw [if_neg hlt2]
            clear hlt2
            go_wp2
            go_roundw
            case rel => exact ⟨s + 1, by omega, by go_num, by rw [HSP.out, HP.out]; exact HXY.out, HBY.out⟩
            case measure => simp [intOf]; omega
        · skip
          go_simp
          refine hK.out _ _ (HF.out _ (HDR.out.alloc HDR.out.size _)) (fun hHeld => ?_)
          clear hK K
          try simp only [Act.put, List.setIfInBounds_toArray, List.set_cons_zero, List.set_cons_succ]
          refine wpAnyH_ready (rs := [5]) (by kernel_rfl) (by simp) ?_
          refine AllReadyH.cons (o := { dst := some 30, op := Go.Op.call { callee := Go.Callee.value (Go.Operand.func 61), args := #[Go.Operand.tmp 28, Go.Operand.tmp 29], argTypes := #[24, 3] }, type := 3, pos := "trie.go:60", after := #[{ on := 3, ground := Go.Ground.data }, { on := 4, ground := Go.Ground.data }], guard := none }) rfl (fun K hK => ?_) AllReadyH.nil
          go_simp
          go_at_call 61
          refine (HST.out _).mono ?_
          rintro e7 w7 ⟨rfl, h7'⟩
          have h7 : Below (wr.drew.alloc (.cells (sc (0, 0)) 100)).heap.size (wr.drew.alloc (.cells (sc (0, 0)) 100)) w7 := h7'
          go_simp
          refine hK.out _ _ (HF.out _ ((HDR.out.alloc HDR.out.size _).trans (h7.mono (by simp [World.size_alloc])))) (fun hHeld => ?_)
          clear hK K h7'
          try simp only [Act.put, List.setIfInBounds_toArray, List.set_cons_zero, List.set_cons_succ]
          refine wpAnyH_take (i := 8) (oi := { dst := some 33, op := Go.Op.indexAddr 101 (Go.Operand.tmp 32) (Go.Operand.tmp 30), type := 0, pos := "trie.go:60", after := #[{ on := 7, ground := Go.Ground.data }, { on := 5, ground := Go.Ground.data }], guard := none }) (v := ?v8fb) rfl (by kernel_rfl) (by kernel_rfl) (by kernel_rfl) (fun _ _ _ h => h) (Or.inl ⟨by rfl, ?hy8fb⟩) (by assumption) ?rest8fb
          case hy8fb => intro w hSw; (try dsimp only at hSw); go_simp; try with_reducible rfl
          try simp only [Act.put, List.setIfInBounds_toArray, List.set_cons_zero, List.set_cons_succ]
          refine wpAnyH_take (i := 9) (oi := { dst := some 34, op := Go.Op.load 100 (Go.Operand.tmp 33), type := 100, pos := "trie.go:60", after := #[{ on := 8, ground := Go.Ground.data }], guard := none }) (v := ?v9fb) rfl (by kernel_rfl) (by kernel_rfl) (by kernel_rfl) (fun _ _ _ h => h) (Or.inl ⟨by rfl, ?hy9fb⟩) (by assumption) ?rest9fb
          case hy9fb => intro w hSw; (try dsimp only at hSw); go_simp; try with_reducible rfl
          try simp only [Act.put, List.setIfInBounds_toArray, List.set_cons_zero, List.set_cons_succ]
          refine wpAnyH_ready (rs := [11]) (by kernel_rfl) (by simp) ?_
          refine AllReadyH.cons (o := { dst := none, op := Go.Op.store 100 (Go.Operand.tmp 11) (Go.Operand.tmp 34), type := 0, pos := "trie.go:60", after := #[{ on := 10, ground := Go.Ground.data }, { on := 9, ground := Go.Ground.data }, { on := 5, ground := Go.Ground.chain }, { on := 0, ground := Go.Ground.phase }, { on := 1, ground := Go.Ground.phase }, { on := 2, ground := Go.Ground.phase }, { on := 3, ground := Go.Ground.phase }, { on := 4, ground := Go.Ground.phase }, { on := 5, ground := Go.Ground.phase }, { on := 6, ground := Go.Ground.phase }, { on := 7, ground := Go.Ground.phase }, { on := 8, ground := Go.Ground.phase }, { on := 9, ground := Go.Ground.phase }, { on := 10, ground := Go.Ground.phase }], guard := none }) rfl (fun K hK => ?_) AllReadyH.nil
          have hx7 := (h7.block wr.heap.size (by simp)).trans (Go.heap_alloc_new wr.drew (.cells (sc (0, 0)) 100))
          have hst := run_slotStore_at hx7 x
          go_simp
          refine hK.out _ _ (HF.out _ (below_setRow ((HDR.out.alloc HDR.out.size _).trans (h7.mono (by simp [World.size_alloc]))) (Nat.le_refl _) _)) (fun hHeld => ?_)
          clear hK K
          try simp only [Act.put, List.setIfInBounds_toArray, List.set_cons_zero, List.set_cons_succ]
          refine wpAnyH_done (by kernel_rfl) ?_ _
          have h8 : Below wr.heap.size wr (w7.setRow wr.heap.size (sc x)) := below_setRow ((HDR.out.alloc HDR.out.size _).trans (h7.mono (by simp [World.size_alloc]))) (Nat.le_refl _) _
          have hcy : (w7.setRow wr.heap.size (sc x)).heap[wr.heap.size]? = some (.cells (sc x) 100 (0, 0)) := setRow_heap _ _ _ _ _ _ hx7
          obtain ⟨wy, hwy⟩ : ∃ wy, w7.setRow wr.heap.size (sc x) = wy := ⟨_, rfl⟩
          rw [hwy]
          rw [hwy] at h8 hcy
          have hXy := (h8.block B HBW.out).trans HX.out
          have hBy := HW.out.trans (h8.mono (Nat.le_of_lt HBW.out))
          obtain ⟨c, hc⟩ : ∃ c, wr.heap.size = c := ⟨_, rfl⟩
          rw [hc]
          rw [hc] at hcy
          clear hHeld h7 h8 hwy hc hx7 hst
          have c1 : wy.cell? ⟨c, 0, none⟩ = some (.int .i64 (x.1 : Nat)) := by rw [cell_of hcy]; rfl
          have c2 : wy.cell? ⟨B, 0, none⟩ = some (.int .i64 (o.1 : Nat)) := by rw [cell_of hXy]; rfl
          have ls := run_slotLoad_box hcy
          have st := run_slotStore_at hXy x
          have HXY := Lib.hid hXy
          have HBY := Lib.hid hBy
          clear hcy hXy hBy
          by_cases hlt2 : o.1 < x.1
          · have hd : decide (((o.1 : Nat) : Int) < ((x.1 : Nat) : Int)) = true := decide_eq_true (by omega)
            have hd2 : decide (o.1 < x.1) = true := decide_eq_true hlt2
            have HP : Hid (pickS o x = x) := by show _ = _; unfold pickS; rw [if_pos hlt2]
            have HX2 : Hid ((wy.setRow B (sc x)).heap[B]? = some (.cells (sc x) 100 (0, 0))) := setRow_heap _ _ _ _ _ _ HXY.out
            have HB2 : Hid (Below B w2 (wy.setRow B (sc x))) := below_setRow HBY.out (Nat.le_refl _) _
            clear hlt2
            go_wp2
            go_roundw
            case rel => exact ⟨s + 1, by omega, by go_num, by rw [HSP.out, HP.out]; exact HX2.out, HB2.out⟩
            case measure => simp [intOf]; omega
          · have hd : decide (((o.1 : Nat) : Int) < ((x.1 : Nat) : Int)) = false := decide_eq_false (by omega)
            have hd2 : decide (o.1 < x.1) = false := decide_eq_false hlt2
            have HP : Hid (pickS o x = o) := by show _ = _; unfold pickS; rw [if_neg hlt2]
            clear hlt2
            go_wp2
            go_roundw
            case rel => exact ⟨s + 1, by omega, by go_num, by rw [HSP.out, HP.out]; exact HXY.out, HBY.out⟩
            case measure => simp [intOf]; omega
      · obtain rfl : s = L := by omega
        obtain ⟨o, ho⟩ : ∃ o, bestS T k s = o := ⟨_, rfl⟩
        rw [ho] at HX
        have c2 : wr.cell? ⟨B, 0, none⟩ = some (.int .i64 (o.1 : Nat)) := by rw [cell_of HX.out]; rfl
        have c3 : ∀ j, (wr.drewN j).cell? ⟨B, 0, none⟩ = some (.int .i64 (o.1 : Nat)) := fun j => c2
        have c4 : ∀ j, (wr.drewN j).cell? ⟨B, 1, none⟩ = some (.int .u16 (o.2 : Nat)) := fun j => by
          have : wr.cell? ⟨B, 1, none⟩ = some (.int .u16 (o.2 : Nat)) := by rw [cell_of HX.out]; rfl
          exact this
        have HFN := Lib.hid (HT.out wr (HE1.out wr HW.out)).2.2.2
        have HBO : Hid (bestS T k (m + 1) = o) := by show _ = _; rw [← HLM.out, ho]
        have ho63 : o.1 ≤ 1000 := by
          have h1 : ∀ s, (bestS T k s).1 ≤ 4 * s + 1 := fun s => by
            induction s with
            | zero => exact Nat.zero_le _
            | succ s ih =>
              rw [bestS_succ]
              have h2 := HS.out.fit.slot (pathN k s) (nib k s)
              rw [pathN_length] at h2
              unfold pickS
              split <;> omega
          have h2 := h1 (m + 1)
          rw [HBO.out] at h2
          omega
        have hoI : ((o.1 : Nat) : Int) ≤ 1000 := by omega
        clear ho
        by_cases hz2 : o.1 = 0
        · have hz3 : (((o.1 : Nat) : Int) == 0) = true := by rw [beq_iff_eq]; omega
          have HFO : Hid (foundS (bestS T k (m + 1)) = (0, 0, 6)) := by show _ = _; rw [HBO.out]; unfold foundS; rw [if_pos hz2]
          clear hz2
          go_wp2
          refine bodyPost_ret (results_tmp3 rfl _ _ _) rfl ?_
          exact ⟨HFN.out, .inr ⟨HM.out, m, HWT.out, by rw [HFO.out]; rfl⟩⟩
        · have hz3 : (((o.1 : Nat) : Int) == 0) = false := by rw [beq_eq_false_iff_ne]; omega
          have HFO : Hid (foundS (bestS T k (m + 1)) = (o.1 - 1, o.2, 0)) := by show _ = _; rw [HBO.out]; unfold foundS; rw [if_neg hz2]
          have hsub : IntKind.i64.wrap (((o.1 : Nat) : Int) - 1) = ((o.1 - 1 : Nat) : Int) := by rw [IntKind.wrap_i64]; omega
          have hsub2 : ((o.1 : Nat) : Int) - 1 = ((o.1 - 1 : Nat) : Int) := by omega
          clear hz2
          go_wp2
          go_quiet (fail)
          go_wp2
          refine bodyPost_ret (results_tmp3 rfl _ _ _) rfl ?_
          exact ⟨⟨HFN.out.os, HFN.out.tape, HFN.out.output, HFN.out.size, HFN.out.block⟩, .inr ⟨HM.out, m, HWT.out, by rw [HFO.out]; rfl⟩⟩
end Go.Proofs.Ytggjcjijoihilaa
