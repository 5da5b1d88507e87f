/- trie.steps of a table's trie: at how many steps each node is. -/
import Derived.Test.YtggjcjijoihilaaTrieStepP
import Derived.Deep.RegionHeld3
import Derived.BigRegion
namespace Go.Proofs.Ytggjcjijoihilaa
open Go.RowKit Go.Sort Go.Shelf

/-! ### Numbers in a row of the call's own -/
def ic (xs : List Nat) : List Value := xs.map fun x => .int .i64 (x : Nat)
def OwnI (w : World) (base : Nat) (v : Value) (xs : List Nat) : Prop := w.ownsRow base 3 1 v xs.length (ic xs)
theorem OwnI.later {w w' : World} {base : Nat} {v : Value} {xs : List Nat} (h : OwnI w base v xs) (hb : Below w.heap.size w w') : OwnI w' base v xs :=
  World.ownsRow.kept (row := none) h ⟨hb.os, hb.tape, hb.output, hb.size, fun k hk _ => hb.block k hk⟩ (by cases hv : v.ownBlock <;> simp)
theorem OwnI.base {w : World} {b b' : Nat} {v : Value} {l : List Nat} (h : OwnI w b v l) (hb : b' ≤ b) : OwnI w b' v l :=
  ⟨h.1, h.2.imp id (fun ⟨g, c, cur, h1, h2, h3⟩ => ⟨g, c, cur, h1, Nat.le_trans hb h2, h3⟩)⟩
theorem OwnI.cell {w : World} {base g n cap : Nat} {xs : List Nat} (h : OwnI w base (.slice (some ⟨g, 0, none⟩) n cap) xs) (hn : n = xs.length) {j x : Nat} (hj : xs[j]? = some x) : w.cell? ⟨g, j, none⟩ = some (.int .i64 (x : Nat)) := by
  subst hn
  have hlt := (List.getElem?_eq_some_iff.1 hj).1
  have := World.ownsRow.cellAt h j (by omega)
  rw [this]; unfold ic; rw [List.getElem?_map, hj]; rfl
theorem OwnI.frozen {w : World} {base g n cap : Nat} {xs : List Nat} (h : OwnI w base (.slice (some ⟨g, 0, none⟩) n cap) xs) (hn : n = xs.length) (j : Nat) : w.frozen? ⟨g, j, none⟩ = false := by
  subst hn; exact World.ownsRow.frozenAt h j
theorem OwnI.set {w : World} {base g n cap : Nat} {xs : List Nat} (h : OwnI w base (.slice (some ⟨g, 0, none⟩) n cap) xs) (hn : n = xs.length) (j x : Nat) :
    OwnI (w.setCell ⟨g, j, none⟩ (.int .i64 (x : Nat))) base (.slice (some ⟨g, 0, none⟩) n cap) (xs.set j x) ∧ w.grownBy (w.setCell ⟨g, j, none⟩ (.int .i64 (x : Nat))) (some g) := by
  subst hn
  have := World.ownsRow.stored h j (.int .i64 (x : Nat))
  refine ⟨?_, this.2⟩
  unfold OwnI
  rw [List.length_set]
  have e : ic (xs.set j x) = (ic xs).set j (.int .i64 (x : Nat)) := by unfold ic; rw [List.map_set]
  rw [e]; exact this.1
def intsMake (n m : Value) : Sem Value := Instr.makeSlice 64 n m
theorem make_ints (n m : Value) : Instr.makeSlice 64 n m = intsMake n m := rfl
theorem infoInt : (Try.prog.info? 3).map (fun i => (i.zero, i.size, i.bytes)) = some (some (.int .i64 0), 1, 8) := by kernel_rfl
theorem run_intsMake (n : Nat) (h : n ≤ 512) (w : World) : ∃ w', (intsMake (.int .i64 n) (.int .i64 n)).run Try.prog w = .ok (.slice (some ⟨w.heap.size, 0, none⟩) n n) w' ∧ OwnI w' w.heap.size (.slice (some ⟨w.heap.size, 0, none⟩) n n) (List.replicate n 0) ∧ Below w.heap.size w w' := by
  obtain ⟨i, h0, h1, h2, h3⟩ := info_parts infoInt
  obtain ⟨w', r1, r2, r3⟩ := run_makeSlice_full (P := Try.prog) w w.heap.size 64 3 i (.int .i64 0) 1 Try.underlying64 h0 h1 h2 .i64 .i64 n (by omega) (by rw [h3]; omega) (by simp only [maxLen]; omega) (Nat.le_refl _)
  refine ⟨w', r1, ?_, ⟨r3.os, r3.tape, r3.output, r3.size, fun k hk => r3.block k hk (by simp)⟩⟩
  unfold OwnI ic
  rw [List.length_replicate, List.map_replicate]
  have e : (madeCells (Value.int .i64 0).cells (n * 1)).toList = List.replicate n (.int .i64 0) := by rw [Nat.mul_one]; exact toList_madeCells_one _ _
  rw [e] at r2
  exact r2

/-- Nodes, as a slice of them reads in a world. -/
def RdN (w : World) (v : Value) (ns : List Nd) : Prop := ∃ a cap, v = .slice (some a) ns.length cap ∧ CellsAt w a (fn ns)
theorem RdN.later {w w' : World} {v : Value} {ns : List Nd} (h : RdN w v ns) (hb : Below w.heap.size w w') : RdN w' v ns := by
  obtain ⟨a, cap, h1, h2⟩ := h
  exact ⟨a, cap, h1, h2.later hb⟩
theorem OwnN.rd {w : World} {base : Nat} {v : Value} {ns : List Nd} (h : OwnN w base v ns) (hn : 0 < ns.length) : RdN w v ns := by
  obtain ⟨g, cap, hv, -, -⟩ := h.form hn
  exact ⟨⟨g, 0, none⟩, cap, hv, fun j u hu => World.ownsRow.cells h (g := g) (by rw [hv]; rfl) j u hu⟩
theorem CellsAt.node {w : World} {a : Addr} {ns : List Nd} (h : CellsAt w a (fn ns)) {i : Nat} {n : Nd} (hn : ns[i]? = some n) : CellsAt w (a.add (i * 48)) (ndl n) :=
  h.part fun j u hu => by
    have hj : j < 48 := by rw [← ndl_length n]; exact (List.getElem?_eq_some_iff.1 hu).1
    rw [fn_at hn hj, ← ndl_at n hj]; exact hu
def ac (n : Nd) : Array Value := ((List.range 16).map fun b => Value.int .i64 (n.nx b : Nat)).toArray
theorem ac_at (n : Nd) {b : Nat} (h : b < 16) : (ac n)[b]? = some (.int .i64 (n.nx b : Nat)) := by simp [ac, h]
theorem infoInt1 : (Try.prog.info? 3).map (·.size) = some 1 := by kernel_rfl
theorem run_index_arr (n : Nd) {b : Nat} (h : b < 16) (w : World) : (Instr.index 102 (.agg (ac n)) (.int .i64 (b : Nat))).run Try.prog w = .ok (.int .i64 (n.nx b : Nat)) w := by
  have h1 : (0 : Int) ≤ b ∧ (b : Int) < 16 := by omega
  have h2 := ac_at n h
  obtain ⟨i, q0, q1, q2, q3⟩ := info_parts infoInt
  simp [Instr.index, run_underlying Try.underlying102, run_underlying Try.underlying3, asIntOf, part, isAgg, sizeOf, typeInfo, q0, q2, h1, h2, go_sem]
  intro h3; omega
def arrLoad (a : Addr) : Sem Value := loadVar 102 a
theorem loadVar_arr (a : Addr) : loadVar 102 a = arrLoad a := rfl
theorem infoArr : (Try.prog.info? 102).map (·.size) = some 16 := by kernel_rfl
theorem run_arrLoad {w : World} {b : Nat} {n : Nd} {t : TypeId} (h : w.heap[b]? = some (.cells (nc n) t (0, 0))) : (arrLoad ⟨b, 32, none⟩).run Try.prog w = .ok (.agg (ac n)) w :=
  run_load_at (cs := (List.range 16).map fun b => Value.int .i64 (n.nx b : Nat)) Try.underlying102 rfl (by simpa using infoArr) (fun j u hu => by
    have hj : j < 16 := by have := (List.getElem?_eq_some_iff.1 hu).1; simpa using this
    have hadd : (⟨b, 32, none⟩ : Addr).add j = ⟨b, 32 + j, none⟩ := by unfold Addr.add; split <;> simp_all
    rw [hadd, cell_of h, nc_at n (by omega), ndC_next]
    simpa [hj] using hu)
def IntsPost (w : World) (xs : List Nat) (e : Ending) (w' : World) : Prop := ∃ v, e = .returned v ∧ OwnI w' w.heap.size v xs ∧ Below w.heap.size w w'
attribute [local go_sem ↓] loadVar_trie storeVar_trie loadVar_slot loadVar_node storeVar_node make_ints loadVar_arr

set_option maxHeartbeats 2000000 in
set_option maxRecDepth 100000 in
theorem steps_any (T : Tr) (hT : T.Ok) (bits : Int) (hk : mayB (keysP bits) = true) (hF : T.Fit (bits.toNat / 4)) (hl : T.ws.length ≤ 512) (v : Value) (w : World) (hv : RdN w v T.nodes) :
    Calls Try.prog 60 #[.agg (tc bits v)] w (IntsPost w (depths T)) := by
  have hb0 : Below w.heap.size w (w.alloc (.cells (tc bits v) 52)) := (Below.refl _ _).alloc (Nat.le_refl _) _
  have hx0 : (w.alloc (.cells (tc bits v) 52)).heap[w.heap.size]? = some (.cells (tc bits v) 52 (0, 0)) := Go.heap_alloc_new w _
  obtain ⟨W0, hW0⟩ : ∃ W0, w.alloc (.cells (tc bits v) 52) = W0 := ⟨_, rfl⟩
  have hz0 : W0.heap.size = w.heap.size + 1 := by rw [← hW0]; simp
  rw [hW0] at hb0 hx0
  obtain ⟨a, cap, rfl, -⟩ := id hv
  have hpos := hT.pos
  obtain ⟨n, hn⟩ : ∃ n, n = T.ws.length := ⟨_, rfl⟩
  have hnn : T.nodes.length = n := by rw [T.nodes_length, hn]
  rw [hnn] at hx0 hv hW0 ⊢
  have HT : Hid (∀ W, Below W0.heap.size W0 W → W.cell? ⟨w.heap.size, 0, none⟩ = some (.int .i64 bits) ∧ W.cell? ⟨w.heap.size, 1, none⟩ = some (.slice (some a) n cap) ∧ RdN W (.slice (some a) n cap) T.nodes ∧ Below w.heap.size w W) := fun W h => by
    have hx := (h.block w.heap.size (by omega)).trans hx0
    exact ⟨by rw [cell_of hx]; rfl, by rw [cell_of hx]; rfl, hv.later (hb0.trans (h.mono (by omega))), hb0.trans (h.mono (by omega))⟩
  rw [← hn] at hl hpos
  have C1 := keys_any bits
  simp only [hk] at C1
  have HC1 := Lib.hid C1
  have HZ := Lib.hid hz0
  have HW0 := Lib.hid hW0
  have HOK := Lib.hid hT
  have HFT := Lib.hid hF
  have HN := Lib.hid hn
  have hnI : (n : Int) ≤ 512 := by omega
  have hn1 : (1 : Int) ≤ n := by omega
  have hbits := (keysP_iff bits).1 hk
  have hb128 : bits ≤ 128 := by omega
  have hb32 : 32 ≤ bits := by omega
  have hcc := HT.out W0 (Below.refl _ _)
  obtain ⟨c0, c1, -, -⟩ := hcc
  rw [← hW0] at c0 c1
  have HL : Hid (n ≤ 512) := hl
  clear hb0 hx0 hz0 hW0 hT hF hn hnn hv C1 hk
  unfold IntsPost
  go_enter Try.func60, Try.ntmps60
  go_wp2_with fail
  rw [HW0.out]
  refine (HC1.out W0).mono ?_
  rintro e w1 ⟨rfl, h1⟩
  obtain ⟨c2, c3, -, -⟩ := HT.out w1 h1
  obtain ⟨w2, hmk, ho2, hb2⟩ := run_intsMake n hl w1
  have HB1 := Lib.hid h1
  have HB2 := Lib.hid (h1.trans (hb2.mono h1.size))
  obtain ⟨g, hg⟩ : ∃ g, w1.heap.size = g := ⟨_, rfl⟩
  rw [hg] at hmk ho2
  have HG : Hid (W0.heap.size ≤ g) := by rw [← hg]; exact h1.size
  have hff := ho2.frozen (by simp) 0
  have hcz := ho2.cell (by simp) (j := 0) (x := 0) (by rw [List.getElem?_replicate, if_pos (by omega)])
  have hset : OwnI (w2.setCell ⟨g, 0, none⟩ (.int .i64 1)) g (.slice (some ⟨g, 0, none⟩) n n) ((List.replicate n 0).set 0 1) ∧ w2.grownBy (w2.setCell ⟨g, 0, none⟩ (.int .i64 1)) (some g) := ho2.set (by simp) 0 1
  rw [show (List.replicate n 0).set 0 1 = rowA T.ws 0 0 by rw [rowA_start HOK.out, HN.out]] at hset
  have HO3 := Lib.hid hset.1
  have HB3 : Hid (Below g w2 (w2.setCell ⟨g, 0, none⟩ (.int .i64 1))) := (Below.refl g w2).grown hset.2 (by have := hb2.size; omega) (fun k hk => by simp at hk; omega)
  obtain ⟨c4, c5, -, -⟩ := HT.out _ (HB2.out.trans (HB3.out.mono HG.out))
  clear h1 c0 c1 ho2 hb2 hset hg
  obtain ⟨-, c6, -, -⟩ := HT.out w2 HB2.out
  go_wp2
  obtain ⟨w3, hw3⟩ : ∃ w3, w2.setCell ⟨g, 0, none⟩ (.int .i64 1) = w3 := ⟨_, rfl⟩
  rw [hw3] at HO3 HB3
  rw [hw3]
  have HW3 : Hid (∀ W, Below g w3 W → Below W0.heap.size W0 W) := fun W h => HB2.out.trans ((HB3.out.trans h).mono HG.out)
  clear hw3 hmk hff hcz c2 c3 c4 c5 c6
  obtain ⟨D, hD⟩ : ∃ D, D = bits.toNat / 4 := ⟨_, rfl⟩
  have hquo : Int.tdiv bits 4 = (D : Nat) := by rcases hbits with rfl | rfl <;> (rw [hD]; rfl)
  have hD32 : D ≤ 32 := by omega
  have hwq : wrap64 (D : Int) = (D : Int) := by clear hquo; unfold wrap64; omega
  have hDI : (D : Int) ≤ 32 := by clear hquo; omega
  have hwq2 : IntKind.i64.wrap (D : Int) = (D : Int) := by clear hquo hwq; rw [IntKind.wrap_i64]; omega
  have HWQ2 := Lib.hid hwq2
  clear hwq2
  have HD := Lib.hid hD
  clear hD
  go_loopw [4, 5, 7, 33, 64] (fun _ _ _ t33 _ wr => ∃ i : Nat, i ≤ n ∧ t33 = .int .i64 i ∧ Hid (OwnI wr g (.slice (some ⟨g, 0, none⟩) n n) (rowA T.ws i 0)) ∧ Hid (Below g w3 wr)) (fun _ _ _ t33 _ _ => n - (intOf t33).toNat)
  case atStart => exact ⟨0, Nat.zero_le _, rfl, HO3, Below.refl _ _⟩
  case round =>
    obtain ⟨i, hi, rfl, HO, HW⟩ := hrel
    by_cases hlt : i < n
    · have hltI : (i : Int) < n := by omega
      have hi0 : (0 : Int) ≤ i := by omega
      obtain ⟨u, hu⟩ : ∃ u, T.ws[i]? = some u := ⟨T.ws[i]'(by rw [← HN.out]; exact hlt), List.getElem?_eq_getElem _⟩
      have HU := Lib.hid hu
      obtain ⟨nd, hnd⟩ : ∃ nd, T.node u = nd := ⟨_, rfl⟩
      have hnode := T.nodes_at hu
      rw [hnd] at hnode
      obtain ⟨a2, cap2, ha2, hca⟩ := (HT.out wr (HW3.out wr HW.out)).2.2.1
      simp only [Value.slice.injEq, Option.some.injEq] at ha2
      obtain ⟨rfl, -, -⟩ := ha2
      have nl := run_nodeLoad (hca.node hnode)
      have st := run_nodeStore_new nd wr
      have hal : Below wr.heap.size wr (wr.alloc (.cells (nc nd) 104)) := (Below.refl _ _).alloc (Nat.le_refl _) _
      obtain ⟨wx, hwx⟩ : ∃ wx, wr.alloc (.cells (nc nd) 104) = wx := ⟨_, rfl⟩
      have hbox : wx.heap[wr.heap.size]? = some (.cells (nc nd) 104 (0, 0)) := by rw [← hwx]; exact Go.heap_alloc_new wr _
      rw [hwx] at hal st
      obtain ⟨d, hd⟩ : ∃ d, d = u.length + 1 := ⟨_, rfl⟩
      have hdD : d ≤ D := by have := HFT.out.deep u (List.mem_of_getElem? hu); rw [HD.out, hd]; exact this
      have hd1 : 1 ≤ d := by omega
      have hrow : ∀ b, (rowA T.ws i b)[i]? = some d := fun b => by rw [rowA_at hu, av_own HOK.out hu, hd]
      have HROW := Lib.hid hrow
      have hgr : g ≤ wr.heap.size := Nat.le_trans (Nat.le_trans (Nat.le_refl _) (Nat.le_of_lt (World.ownsRow.lt HO.out g rfl).2)) (Nat.le_refl _)
      have HOX := Lib.hid (HO.out.later hal)
      have HWX := Lib.hid (HW.out.trans (hal.mono hgr))
      have HBOX := Lib.hid hbox
      have HF : Hid (∀ W, Below wx.heap.size wx W → W.cell? ⟨g, i, none⟩ = some (.int .i64 (d : Nat)) ∧ W.cell? ⟨w.heap.size, 0, none⟩ = some (.int .i64 bits) ∧ (nodeLoad ⟨wr.heap.size, 0, none⟩).run Try.prog W = .ok (.agg (nc nd)) W) := fun W h => by
        have hg2 : g ≤ wx.heap.size := Nat.le_of_lt (World.ownsRow.lt HOX.out g rfl).2
        refine ⟨(HOX.out.later h).cell (by rw [rowA_length, HN.out]) (HROW.out 0), (HT.out W (HW3.out W (HWX.out.trans (h.mono hg2)))).1, run_nodeLoad fun j u hu => ?_⟩
        have hb := (h.block _ (Array.getElem?_eq_some_iff.1 HBOX.out).1).trans HBOX.out
        have hadd : (⟨wr.heap.size, 0, none⟩ : Addr).add j = ⟨wr.heap.size, j, none⟩ := by unfold Addr.add; split <;> simp_all
        rw [hadd, cell_of hb]; simpa [nc] using hu
      have HHO := Lib.hid (fun W => hold_any nd d (by omega) (fun b _ => by rw [← hnd, hd]; exact HFT.out.slot u b) W)
      have hd0 : ((d : Int) == 0) = false := by rw [beq_eq_false_iff_ne]; omega
      have hdq : decide (IntKind.i64.wrap (D : Int) < (d : Int)) = false := by rw [decide_eq_false_iff_not, HWQ2.out]; clear hquo hwq; omega
      have HND := Lib.hid hnd
      have HDD := Lib.hid hd
      have hdI : (d : Int) ≤ 32 := by omega
      have hdI1 : (1 : Int) ≤ d := by omega
      clear hu hnd hnode hca hal hbox hd hrow hgr
      go_wp2
      clear hwx st nl
      refine wp_region_held_drew (S := (fun w' => w'.cell? ⟨g, i, none⟩ = some (.int .i64 (d : Nat)) ∧ w'.cell? ⟨w.heap.size, 0, none⟩ = some (.int .i64 bits) ∧ (nodeLoad ⟨wr.heap.size, 0, none⟩).run Try.prog w' = .ok (.agg (nc nd)) w')) (by kernel_rfl) (HF.out _ (Below.refl wx.heap.size wx).drew) (fun hHeld => ?_)
      refine wpAnyH_take (i := 0) (oi := { dst := some 38, op := Go.Op.move (Go.Operand.tmp 3), type := 64, pos := "trie.go:126", after := #[], guard := none }) (v := ?v0a) rfl (by kernel_rfl) (by kernel_rfl) (by kernel_rfl) (fun _ _ _ h => h) (Or.inl ⟨by rfl, ?hy0a⟩) (by assumption) ?rest0a
      case hy0a => intro w hSw; (try dsimp only at hSw); go_simp; try with_reducible rfl
      try simp only [Act.put, List.setIfInBounds_toArray, List.set_cons_zero, List.set_cons_succ]
      refine wpAnyH_take (i := 1) (oi := { dst := some 39, op := Go.Op.move (Go.Operand.tmp 4), type := 3, pos := "trie.go:126", after := #[], guard := none }) (v := ?v1a) rfl (by kernel_rfl) (by kernel_rfl) (by kernel_rfl) (fun _ _ _ h => h) (Or.inl ⟨by rfl, ?hy1a⟩) (by assumption) ?rest1a
      case hy1a => intro w hSw; (try dsimp only at hSw); go_simp; try with_reducible rfl
      try simp only [Act.put, List.setIfInBounds_toArray, List.set_cons_zero, List.set_cons_succ]
      refine wpAnyH_take (i := 2) (oi := { dst := some 40, op := Go.Op.indexAddr 64 (Go.Operand.tmp 38) (Go.Operand.tmp 39), type := 0, pos := "trie.go:126", after := #[{ on := 0, ground := Go.Ground.data }, { on := 1, ground := Go.Ground.data }], guard := none }) (v := ?v2a) rfl (by kernel_rfl) (by kernel_rfl) (by kernel_rfl) (fun _ _ _ h => h) (Or.inl ⟨by rfl, ?hy2a⟩) (by assumption) ?rest2a
      case hy2a => intro w hSw; (try dsimp only at hSw); go_simp; try with_reducible rfl
      try simp only [Act.put, List.setIfInBounds_toArray, List.set_cons_zero, List.set_cons_succ]
      refine wpAnyH_take (i := 3) (oi := { dst := some 41, op := Go.Op.load 3 (Go.Operand.tmp 40), type := 3, pos := "trie.go:126", after := #[{ on := 2, ground := Go.Ground.data }], guard := none }) (v := ?v3a) rfl (by kernel_rfl) (by kernel_rfl) (by kernel_rfl) (fun _ _ _ h => h) (Or.inl ⟨by rfl, ?hy3a⟩) (by assumption) ?rest3a
      case hy3a => intro w hSw; (try dsimp only at hSw); go_simp; try with_reducible rfl
      try simp only [Act.put, List.setIfInBounds_toArray, List.set_cons_zero, List.set_cons_succ]
      refine wpAnyH_take (i := 4) (oi := { dst := some 42, op := Go.Op.binOp Go.BinOp.eql 3 (Go.Operand.tmp 41) (Go.Operand.const (Go.Value.int Go.IntKind.i64 0)) 3, type := 4, pos := "trie.go:126", after := #[{ on := 3, ground := Go.Ground.data }], guard := none }) (v := ?v4a) rfl (by kernel_rfl) (by kernel_rfl) (by kernel_rfl) (fun _ _ _ h => h) (Or.inl ⟨by rfl, ?hy4a⟩) (by assumption) ?rest4a
      case hy4a => intro w hSw; (try dsimp only at hSw); go_simp; try with_reducible rfl
      try simp only [Act.put, List.setIfInBounds_toArray, List.set_cons_zero, List.set_cons_succ]
      refine wpAnyH_take (i := 5) (oi := { dst := some 43, op := Go.Op.move (Go.Operand.tmp 42), type := 4, pos := "trie.go:126", after := #[{ on := 4, ground := Go.Ground.data }], guard := none }) (v := ?v5a) rfl (by kernel_rfl) (by kernel_rfl) (by kernel_rfl) (fun _ _ _ h => h) (Or.inl ⟨by rfl, ?hy5a⟩) (by assumption) ?rest5a
      case hy5a => intro w hSw; (try dsimp only at hSw); go_simp; try with_reducible rfl
      try simp only [Act.put, List.setIfInBounds_toArray, List.set_cons_zero, List.set_cons_succ]
      refine wpAnyH_take (i := 6) (oi := { dst := some 44, op := Go.Op.move (Go.Operand.tmp 3), type := 64, pos := "trie.go:126", after := #[{ on := 5, ground := Go.Ground.guard }], guard := some (5, false) }) (v := ?v6a) rfl (by kernel_rfl) (by kernel_rfl) (by kernel_rfl) (fun _ _ _ h => h) (Or.inl ⟨by rfl, ?hy6a⟩) (by assumption) ?rest6a
      case hy6a => intro w hSw; (try dsimp only at hSw); go_simp; try with_reducible rfl
      try simp only [Act.put, List.setIfInBounds_toArray, List.set_cons_zero, List.set_cons_succ]
      refine wpAnyH_take (i := 7) (oi := { dst := some 45, op := Go.Op.move (Go.Operand.tmp 4), type := 3, pos := "trie.go:126", after := #[{ on := 5, ground := Go.Ground.guard }], guard := some (5, false) }) (v := ?v7a) rfl (by kernel_rfl) (by kernel_rfl) (by kernel_rfl) (fun _ _ _ h => h) (Or.inl ⟨by rfl, ?hy7a⟩) (by assumption) ?rest7a
      case hy7a => intro w hSw; (try dsimp only at hSw); go_simp; try with_reducible rfl
      try simp only [Act.put, List.setIfInBounds_toArray, List.set_cons_zero, List.set_cons_succ]
      refine wpAnyH_take (i := 8) (oi := { dst := some 46, op := Go.Op.indexAddr 64 (Go.Operand.tmp 44) (Go.Operand.tmp 45), type := 0, pos := "trie.go:126", after := #[{ on := 6, ground := Go.Ground.data }, { on := 7, ground := Go.Ground.data }, { on := 5, ground := Go.Ground.guard }], guard := some (5, false) }) (v := ?v8a) rfl (by kernel_rfl) (by kernel_rfl) (by kernel_rfl) (fun _ _ _ h => h) (Or.inl ⟨by rfl, ?hy8a⟩) (by assumption) ?rest8a
      case hy8a => intro w hSw; (try dsimp only at hSw); go_simp; try with_reducible rfl
      try simp only [Act.put, List.setIfInBounds_toArray, List.set_cons_zero, List.set_cons_succ]
      refine wpAnyH_take (i := 9) (oi := { dst := some 47, op := Go.Op.load 3 (Go.Operand.tmp 46), type := 3, pos := "trie.go:126", after := #[{ on := 8, ground := Go.Ground.data }, { on := 5, ground := Go.Ground.guard }], guard := some (5, false) }) (v := ?v9a) rfl (by kernel_rfl) (by kernel_rfl) (by kernel_rfl) (fun _ _ _ h => h) (Or.inl ⟨by rfl, ?hy9a⟩) (by assumption) ?rest9a
      case hy9a => intro w hSw; (try dsimp only at hSw); go_simp; try with_reducible rfl
      try simp only [Act.put, List.setIfInBounds_toArray, List.set_cons_zero, List.set_cons_succ]
      refine wpAnyH_take (i := 10) (oi := { dst := some 48, op := Go.Op.fieldAddr 52 (Go.Operand.tmp 1) 0, type := 0, pos := "trie.go:126", after := #[{ on := 5, ground := Go.Ground.guard }], guard := some (5, false) }) (v := ?v10a) rfl (by kernel_rfl) (by kernel_rfl) (by kernel_rfl) (fun _ _ _ h => h) (Or.inl ⟨by rfl, ?hy10a⟩) (by assumption) ?rest10a
      case hy10a => intro w hSw; (try dsimp only at hSw); go_simp; try with_reducible rfl
      try simp only [Act.put, List.setIfInBounds_toArray, List.set_cons_zero, List.set_cons_succ]
      refine wpAnyH_take (i := 11) (oi := { dst := some 49, op := Go.Op.load 3 (Go.Operand.tmp 48), type := 3, pos := "trie.go:126", after := #[{ on := 10, ground := Go.Ground.data }, { on := 5, ground := Go.Ground.guard }], guard := some (5, false) }) (v := ?v11a) rfl (by kernel_rfl) (by kernel_rfl) (by kernel_rfl) (fun _ _ _ h => h) (Or.inl ⟨by rfl, ?hy11a⟩) (by assumption) ?rest11a
      case hy11a => intro w hSw; (try dsimp only at hSw); go_simp; try with_reducible rfl
      try simp only [Act.put, List.setIfInBounds_toArray, List.set_cons_zero, List.set_cons_succ]
      refine wpAnyH_take (i := 12) (oi := { dst := some 50, op := Go.Op.binOp Go.BinOp.quo 3 (Go.Operand.tmp 49) (Go.Operand.const (Go.Value.int Go.IntKind.i64 4)) 3, type := 3, pos := "trie.go:126", after := #[{ on := 11, ground := Go.Ground.data }, { on := 5, ground := Go.Ground.guard }], guard := some (5, false) }) (v := ?v12a) rfl (by kernel_rfl) (by kernel_rfl) (by kernel_rfl) (fun _ _ _ h => h) (Or.inl ⟨by rfl, ?hy12a⟩) (by assumption) ?rest12a
      case hy12a => intro w hSw; (try dsimp only at hSw); go_simp; try with_reducible rfl
      try simp only [Act.put, List.setIfInBounds_toArray, List.set_cons_zero, List.set_cons_succ]
      refine wpAnyH_take (i := 13) (oi := { dst := some 51, op := Go.Op.binOp Go.BinOp.gtr 3 (Go.Operand.tmp 47) (Go.Operand.tmp 50) 3, type := 4, pos := "trie.go:126", after := #[{ on := 9, ground := Go.Ground.data }, { on := 12, ground := Go.Ground.data }, { on := 5, ground := Go.Ground.guard }], guard := some (5, false) }) (v := ?v13a) rfl (by kernel_rfl) (by kernel_rfl) (by kernel_rfl) (fun _ _ _ h => h) (Or.inl ⟨by rfl, ?hy13a⟩) (by assumption) ?rest13a
      case hy13a => intro w hSw; (try dsimp only at hSw); go_simp; try with_reducible rfl
      try simp only [Act.put, List.setIfInBounds_toArray, List.set_cons_zero, List.set_cons_succ]
      refine wpAnyH_take (i := 14) (oi := { dst := some 52, op := Go.Op.pick (Go.Operand.tmp 43) (Go.Operand.const (Go.Value.bool true)) (Go.Operand.tmp 51), type := 4, pos := "trie.go:126", after := #[{ on := 5, ground := Go.Ground.data }, { on := 13, ground := Go.Ground.data }], guard := none }) (v := ?v14a) rfl (by kernel_rfl) (by kernel_rfl) (by kernel_rfl) (fun _ _ _ h => h) (Or.inl ⟨by rfl, ?hy14a⟩) (by assumption) ?rest14a
      case hy14a => intro w hSw; (try dsimp only at hSw); go_simp; try with_reducible rfl
      try simp only [Act.put, List.setIfInBounds_toArray, List.set_cons_zero, List.set_cons_succ]
      refine wpAnyH_take (i := 15) (oi := { dst := some 53, op := Go.Op.move (Go.Operand.tmp 52), type := 4, pos := "trie.go:126", after := #[{ on := 14, ground := Go.Ground.data }, { on := 5, ground := Go.Ground.chain }], guard := none }) (v := ?v15a) rfl (by kernel_rfl) (by kernel_rfl) (by kernel_rfl) (fun _ _ _ h => h) (Or.inl ⟨by rfl, ?hy15a⟩) (by assumption) ?rest15a
      case hy15a => intro w hSw; (try dsimp only at hSw); go_simp; try with_reducible rfl
      try simp only [Act.put, List.setIfInBounds_toArray, List.set_cons_zero, List.set_cons_succ]
      refine wpAnyH_take (i := 16) (oi := { dst := some 54, op := Go.Op.load 104 (Go.Operand.tmp 5), type := 104, pos := "trie.go:126", after := #[{ on := 15, ground := Go.Ground.guard }], guard := some (15, false) }) (v := ?v16a) rfl (by kernel_rfl) (by kernel_rfl) (by kernel_rfl) (fun _ _ _ h => h) (Or.inl ⟨by rfl, ?hy16a⟩) (by assumption) ?rest16a
      case hy16a => intro w hSw; (try dsimp only at hSw); go_simp; try with_reducible rfl
      try simp only [Act.put, List.setIfInBounds_toArray, List.set_cons_zero, List.set_cons_succ]
      refine wpAnyH_take (i := 17) (oi := { dst := some 55, op := Go.Op.move (Go.Operand.tmp 3), type := 64, pos := "trie.go:126", after := #[{ on := 15, ground := Go.Ground.guard }], guard := some (15, false) }) (v := ?v17a) rfl (by kernel_rfl) (by kernel_rfl) (by kernel_rfl) (fun _ _ _ h => h) (Or.inl ⟨by rfl, ?hy17a⟩) (by assumption) ?rest17a
      case hy17a => intro w hSw; (try dsimp only at hSw); go_simp; try with_reducible rfl
      try simp only [Act.put, List.setIfInBounds_toArray, List.set_cons_zero, List.set_cons_succ]
      refine wpAnyH_take (i := 18) (oi := { dst := some 56, op := Go.Op.move (Go.Operand.tmp 4), type := 3, pos := "trie.go:126", after := #[{ on := 15, ground := Go.Ground.guard }], guard := some (15, false) }) (v := ?v18a) rfl (by kernel_rfl) (by kernel_rfl) (by kernel_rfl) (fun _ _ _ h => h) (Or.inl ⟨by rfl, ?hy18a⟩) (by assumption) ?rest18a
      case hy18a => intro w hSw; (try dsimp only at hSw); go_simp; try with_reducible rfl
      try simp only [Act.put, List.setIfInBounds_toArray, List.set_cons_zero, List.set_cons_succ]
      refine wpAnyH_take (i := 19) (oi := { dst := some 57, op := Go.Op.indexAddr 64 (Go.Operand.tmp 55) (Go.Operand.tmp 56), type := 0, pos := "trie.go:126", after := #[{ on := 17, ground := Go.Ground.data }, { on := 18, ground := Go.Ground.data }, { on := 15, ground := Go.Ground.guard }], guard := some (15, false) }) (v := ?v19a) rfl (by kernel_rfl) (by kernel_rfl) (by kernel_rfl) (fun _ _ _ h => h) (Or.inl ⟨by rfl, ?hy19a⟩) (by assumption) ?rest19a
      case hy19a => intro w hSw; (try dsimp only at hSw); go_simp; try with_reducible rfl
      try simp only [Act.put, List.setIfInBounds_toArray, List.set_cons_zero, List.set_cons_succ]
      refine wpAnyH_take (i := 20) (oi := { dst := some 58, op := Go.Op.load 3 (Go.Operand.tmp 57), type := 3, pos := "trie.go:126", after := #[{ on := 19, ground := Go.Ground.data }, { on := 15, ground := Go.Ground.guard }], guard := some (15, false) }) (v := ?v20a) rfl (by kernel_rfl) (by kernel_rfl) (by kernel_rfl) (fun _ _ _ h => h) (Or.inl ⟨by rfl, ?hy20a⟩) (by assumption) ?rest20a
      case hy20a => intro w hSw; (try dsimp only at hSw); go_simp; try with_reducible rfl
      try simp only [Act.put, List.setIfInBounds_toArray, List.set_cons_zero, List.set_cons_succ]
      refine wpAnyH_ready (rs := [21]) (by kernel_rfl) (by simp) ?_
      refine AllReadyH.cons (o := { dst := some 59, op := Go.Op.call { callee := Go.Callee.value (Go.Operand.func 76), args := #[Go.Operand.tmp 54, Go.Operand.tmp 58], argTypes := #[104, 3] }, type := 4, pos := "trie.go:126", after := #[{ on := 16, ground := Go.Ground.data }, { on := 20, ground := Go.Ground.data }, { on := 15, ground := Go.Ground.chain }, { on := 15, ground := Go.Ground.guard }], guard := some (15, false) }) rfl (fun K hK => ?_) AllReadyH.nil
      go_simp
      go_at_call 76
      refine (HHO.out _).mono ?_
      rintro e7 w7 ⟨rfl, h7'⟩
      have h7 : Below wx.heap.size wx w7 := (Below.refl wx.heap.size wx).drew.trans h7'
      go_simp
      refine hK.out _ _ (HF.out _ h7) (fun hHeld => ?_)
      clear hK K h7'
      try simp only [Act.put, List.setIfInBounds_toArray, List.set_cons_zero, List.set_cons_succ]
      refine wpAnyH_take (i := 22) (oi := { dst := some 60, op := Go.Op.unOp Go.UnOp.not 4 (Go.Operand.tmp 59), type := 4, pos := "trie.go:126", after := #[{ on := 21, ground := Go.Ground.data }, { on := 15, ground := Go.Ground.guard }], guard := some (15, false) }) (v := ?v22a) rfl (by kernel_rfl) (by kernel_rfl) (by kernel_rfl) (fun _ _ _ h => h) (Or.inl ⟨by rfl, ?hy22a⟩) (by assumption) ?rest22a
      case hy22a => intro w hSw; (try dsimp only at hSw); go_simp; try with_reducible rfl
      try simp only [Act.put, List.setIfInBounds_toArray, List.set_cons_zero, List.set_cons_succ]
      refine wpAnyH_take (i := 23) (oi := { dst := some 61, op := Go.Op.pick (Go.Operand.tmp 53) (Go.Operand.const (Go.Value.bool true)) (Go.Operand.tmp 60), type := 4, pos := "trie.go:126", after := #[{ on := 15, ground := Go.Ground.data }, { on := 22, ground := Go.Ground.data }], guard := none }) (v := ?v23a) rfl (by kernel_rfl) (by kernel_rfl) (by kernel_rfl) (fun _ _ _ h => h) (Or.inl ⟨by rfl, ?hy23a⟩) (by assumption) ?rest23a
      case hy23a => intro w hSw; (try dsimp only at hSw); go_simp; try with_reducible rfl
      try simp only [Act.put, List.setIfInBounds_toArray, List.set_cons_zero, List.set_cons_succ]
      refine wpAnyH_done (by kernel_rfl) ?_ _
      have hg2 : g ≤ wx.heap.size := Nat.le_of_lt (World.ownsRow.lt HOX.out g rfl).2
      have HO7 := Lib.hid (HOX.out.later h7)
      have HW7 := Lib.hid (HWX.out.trans (h7.mono hg2))
      have la := run_arrLoad ((h7.block _ (Array.getElem?_eq_some_iff.1 HBOX.out).1).trans HBOX.out)
      clear hHeld hg2 h7
      go_wp2
      clear la hd0 hdq
      go_loopw [7, 64] (fun _ t64 wr => ∃ b : Nat, b ≤ 16 ∧ t64 = .int .i64 b ∧ Hid (OwnI wr g (.slice (some ⟨g, 0, none⟩) n n) (rowA T.ws i b)) ∧ Hid (Below g w3 wr)) (fun _ t64 _ => 16 - (intOf t64).toNat)
      case atStart => exact ⟨0, Nat.zero_le _, rfl, HO7, HW7⟩
      case round =>
        obtain ⟨b, hb, rfl, HOB, HWB⟩ := hrel
        by_cases hbt : b < 16
        · have hbI : (b : Int) < 16 := by omega
          have hb0 : (0 : Int) ≤ b := by omega
          have hx := run_index_arr nd hbt
          have hnx : nd.nx b = idx0 T.ws (u ++ [b]) := by rw [← HND.out]; rfl
          obtain ⟨j, hj⟩ : ∃ j, nd.nx b = j := ⟨_, rfl⟩
          rw [hj] at hx hnx
          by_cases hmem : u ++ [b] ∈ T.ws
          · obtain ⟨r1, r2, r3, r4⟩ := rowA_hit HOK.out HU.out hmem
            rw [← hnx] at r1 r2 r3 r4
            rw [← HN.out] at r4
            have hz : ((j : Int) == 0) = false := by rw [beq_eq_false_iff_ne]; omega
            have hle : ¬ (j : Int) ≤ i := by omega
            have hge : ¬ (n : Int) ≤ j := by omega
            have hjI : (j : Int) < n := by omega
            have hj0 : (0 : Int) ≤ j := by omega
            have k1 : wr.cell? ⟨g, j, none⟩ = some (.int .i64 0) := HOB.out.cell (by rw [rowA_length, HN.out]) r2
            have k2 := HOB.out.cell (by rw [rowA_length, HN.out]) (HROW.out b)
            have k3 := (HT.out wr (HW3.out wr HWB.out)).2.1
            have k4 := HOB.out.frozen (by rw [rowA_length, HN.out]) j
            have hset : OwnI (wr.setCell ⟨g, j, none⟩ (.int .i64 ((d : Int) + 1))) g (.slice (some ⟨g, 0, none⟩) n n) ((rowA T.ws i b).set j (d + 1)) ∧ wr.grownBy (wr.setCell ⟨g, j, none⟩ (.int .i64 ((d : Int) + 1))) (some g) := HOB.out.set (by rw [rowA_length, HN.out]) j (d + 1)
            have HOS : Hid (OwnI (wr.setCell ⟨g, j, none⟩ (.int .i64 ((d : Int) + 1))) g (.slice (some ⟨g, 0, none⟩) n n) (rowA T.ws i (b + 1))) := by
              rw [r1, show u.length + 2 = d + 1 by rw [HDD.out]]; exact hset.1
            have HBS : Hid (Below g w3 (wr.setCell ⟨g, j, none⟩ (.int .i64 ((d : Int) + 1)))) := HWB.out.grown hset.2 (Nat.le_of_lt (World.ownsRow.lt HOB.out g rfl).2) (fun k hk => by simp at hk; omega)
            clear r1 r2 r3 r4 hset hmem hnx hj
            go_wp2
            go_roundw
            case rel => exact ⟨b + 1, by omega, by go_num, HOS, HBS⟩
            case measure => simp [intOf]; omega
          · have r1 := rowA_miss HOK.out HU.out hmem
            have hj2 : j = 0 := by rw [hnx]; unfold idx0; rw [if_neg hmem]
            have hz : ((j : Int) == 0) = true := by rw [beq_iff_eq]; omega
            have HOS : Hid (OwnI wr g (.slice (some ⟨g, 0, none⟩) n n) (rowA T.ws i (b + 1))) := by rw [r1]; exact HOB.out
            clear r1 hmem hnx hj hj2
            go_wp2
            go_roundw
            case rel => exact ⟨b + 1, by omega, by go_num, HOS, HWB⟩
            case measure => simp [intOf]; omega
        · obtain rfl : b = 16 := by omega
          have HOS : Hid (OwnI wr g (.slice (some ⟨g, 0, none⟩) n n) (rowA T.ws (i + 1) 0)) := by rw [← rowA_next HFT.out]; exact HOB.out
          go_wp2
          go_roundw
          case rel => exact ⟨i + 1, by omega, by go_num, HOS, HWB⟩
          case measure => simp [intOf]; omega
    · obtain rfl : i = n := by omega
      have HE : Hid (OwnI wr w.heap.size (.slice (some ⟨g, 0, none⟩) i i) (depths T)) := by
        have h := HO.out
        rw [HN.out, rowA_end HOK.out] at h
        rw [HN.out]
        exact h.base (by have := HZ.out; have := HG.out; omega)
      go_wp2
      go_ret
      exact ⟨_, rfl, HE.out, (HT.out wr (HW3.out wr HW.out)).2.2.2⟩
end Go.Proofs.Ytggjcjijoihilaa
