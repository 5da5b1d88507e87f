/- trie.Build: a table's routes of so many bits as a trie. -/
import Derived.Test.YtggjcjijoihilaaTrieAdd
import Derived.Test.YtggjcjijoihilaaTabBest
namespace Go.Proofs.Ytggjcjijoihilaa
open Go.RowKit Go.Sort Go.Shelf

/-! ### Tries and builders in memory, behind names -/
def trieLoad (a : Addr) : Sem Value := loadVar 52 a
theorem loadVar_trie (a : Addr) : loadVar 52 a = trieLoad a := rfl
def trieStore (a : Addr) (v : Value) : Sem Unit := storeVar 52 a v
theorem storeVar_trie (a : Addr) (v : Value) : storeVar 52 a v = trieStore a v := rfl
def buiStore (a : Addr) (v : Value) : Sem Unit := storeVar 94 a v
theorem storeVar_bui (a : Addr) (v : Value) : storeVar 94 a v = buiStore a v := rfl
def trieBuild (parts : Array (Nat × Value)) : Sem Value := Instr.build 52 parts
theorem build_trie (parts : Array (Nat × Value)) : Instr.build 52 parts = trieBuild parts := rfl
def buiBuild (parts : Array (Nat × Value)) : Sem Value := Instr.build 94 parts
theorem build_bui (parts : Array (Nat × Value)) : Instr.build 94 parts = buiBuild parts := rfl
def nodesMake (n m : Value) : Sem Value := Instr.makeSlice 50 n m
theorem make_nodes (n m : Value) : Instr.makeSlice 50 n m = nodesMake n m := rfl
theorem run_nodesMake (w : World) : (nodesMake (.int .i64 1) (.int .i64 1)).run Try.prog w = .ok (.slice (some ⟨w.heap.size, 0, none⟩) 1 1) (w.alloc (.cells (nc nd0) 104)) := by kernel_rfl
def tc (bits : Int) (v : Value) : Array Value := #[.int .i64 bits, v]
def tzero : Array Value := tc 0 (.slice none 0 0)
theorem run_trieBuild0 (w : World) : (trieBuild #[]).run Try.prog w = .ok (.agg tzero) w := by kernel_rfl
theorem run_trieBuild (bits : Int) (a : Option Addr) (n m : Nat) (w : World) : (trieBuild #[(0, .int .i64 bits), (1, .slice a n m)]).run Try.prog w = .ok (.agg (tc bits (.slice a n m))) w := by kernel_rfl
theorem run_buiBuild (bits : Int) (a : Option Addr) (n m : Nat) (w : World) : (buiBuild #[(0, .agg (tc bits (.slice a n m)))]).run Try.prog w = .ok (.agg (tc bits (.slice a n m))) w := by kernel_rfl
theorem infoTrie : (Try.prog.info? 52).map (·.size) = some 2 := by kernel_rfl
theorem infoBui : (Try.prog.info? 94).map (·.size) = some 2 := by kernel_rfl
theorem run_trieLoad {w : World} {b : Nat} {bits : Int} {v : Value} {t : TypeId} (h : w.heap[b]? = some (.cells (tc bits v) t (0, 0))) : (trieLoad ⟨b, 0, none⟩).run Try.prog w = .ok (.agg (tc bits v)) w :=
  run_load_at (cs := [.int .i64 bits, v]) Try.underlying52 rfl infoTrie (fun j u hu => by
    have hadd : (⟨b, 0, none⟩ : Addr).add j = ⟨b, j, none⟩ := by unfold Addr.add; split <;> simp_all
    rw [hadd, cell_of h]; simpa [tc] using hu)
theorem tc_one (bits : Int) {v : Value} (h : v.oneCell' = true) : (tc bits v).all (·.oneCell') = true := by
  unfold tc
  rw [Array.all_eq_true_iff_forall_mem]
  intro x hx
  simp at hx
  rcases hx with rfl | rfl
  · rfl
  · exact h
theorem run_trieStore {W : World} {b : Nat} {bits b2 : Int} {v v2 : Value} (h : W.heap[b]? = some (.cells (tc bits v) 52 (0, 0))) (h1 : v2.oneCell' = true) : (trieStore ⟨b, 0, none⟩ (.agg (tc b2 v2))).run Try.prog W = .ok () (W.setRow b (tc b2 v2)) :=
  run_storeVar_row (P := Try.prog) W b 52 52 (tc bits v) (tc b2 v2) h infoTrie rfl (tc_one b2 h1)
theorem run_buiStore_new (bits : Int) (v : Value) (h1 : v.oneCell' = true) (W : World) (Z : Array Value) (hZ : Z.size = 2) : (buiStore ⟨W.heap.size, 0, none⟩ (.agg (tc bits v))).run Try.prog (W.alloc (.cells Z 94)) = .ok () (W.alloc (.cells (tc bits v) 94)) := by
  have h := run_storeVar_row (P := Try.prog) (W.alloc (.cells Z 94)) W.heap.size 94 94 Z (tc bits v) (Go.heap_alloc_new W _) infoBui hZ (tc_one bits h1)
  rw [World.setRow_alloc_new] at h
  exact h

attribute [local go_sem ↓] loadVar_key loadVar_pre loadVar_route storeVar_pre storeVar_route build_pre build_route loadVar_trie storeVar_trie storeVar_bui build_trie build_bui make_nodes

/-! ### Are there keys of so many bits? -/
def keysP (bits : Int) : Pre := ⟨bits, 0, zkey⟩
theorem run_preBuild1 (b : Int) (w : World) : (preBuild #[(0, .int .i64 b)]).run Try.prog w = .ok (.agg (pc (keysP b))) w := by kernel_rfl
theorem keys_any (bits : Int) (w : World) : Calls Try.prog 55 #[.int .i64 bits] w fun e w' => e = .returned (.bool (mayB (keysP bits))) ∧ Below w.heap.size w w' := by
  have bd := run_preBuild1 bits
  have C := may_any (keysP bits) zkey_bytes w
  obtain ⟨b, hb⟩ : ∃ b, b = mayB (keysP bits) := ⟨_, rfl⟩
  rw [← hb] at C ⊢
  have HC := Lib.hid C
  clear C hb
  go_enter Try.func55, Try.ntmps55
  go_wp2_with fail
  refine HC.out.mono ?_
  rintro e w1 ⟨rfl, h1⟩
  have HB := Lib.hid h1
  go_wp2
  go_ret
  exact ⟨rfl, HB.out⟩

/-! ### Build -/
def treeL (t : List Rt) (bits : Int) : Tr := Tr.adds bits tr0 t
def buildL (t : List Rt) (bits : Int) : Int × List Nd × Int :=
  if rightB t = true ∧ mayB (keysP bits) = true then (if (treeL t bits).ws.length ≤ 512 then (bits, (treeL t bits).nodes, 0) else (0, [], 5)) else (0, [], 1)
def BuildPost (w : World) (x : Int × List Nd × Int) (e : Ending) (w' : World) : Prop :=
  ∃ v, e = .returned (.tuple #[.agg (tc x.1 v), .int .i64 x.2.2]) ∧ OwnN w' w.heap.size v x.2.1 ∧ Below w.heap.size w w'
theorem ownN_nil (w : World) (base : Nat) : OwnN w base (.slice none 0 0) [] := World.ownsRow_nil _ _ _ _
theorem build_out {W : World} {b : Nat} {bits e : Int} {v : Value} (h : W.heap[b]? = some (.cells (tc bits v) 52 (0, 0))) (tmps : Array Value) (h4 : tmps.getD 4 undef = .pointer (some ⟨b, 0, none⟩)) (h5 : tmps.getD 5 undef = .int .i64 e) :
    (results Try.f25 tmps).run Try.prog W = .ok (.tuple #[.agg (tc bits v), .int .i64 e]) W := by
  have e1 : (loadVar 52 ⟨b, 0, none⟩).run Try.prog W = .ok (.agg (tc bits v)) W := run_trieLoad h
  unfold results
  rw [show Try.f25.results = #[ResultVar.cell 4 52, ResultVar.tmp 5] from rfl]
  simp only [Array.getD_eq_getD_getElem?] at h4 h5
  simp [h4, h5, asAddr, e1]
theorem adds_snoc (bits : Int) (l : List Rt) (r : Rt) : ∀ T, Tr.adds bits T (l ++ [r]) = if r.pre.bits = bits then (Tr.adds bits T l).addR r else Tr.adds bits T l := by
  induction l with
  | nil => intro T; rfl
  | cons x l ih => intro T; exact ih _
theorem adds_append (bits : Int) (l m : List Rt) : ∀ T, Tr.adds bits T (l ++ m) = Tr.adds bits (Tr.adds bits T l) m := by
  induction l with
  | nil => intro T; rfl
  | cons x l ih => intro T; exact ih _

theorem OwnN.base {w : World} {b b' : Nat} {v : Value} {l : List Nd} (h : OwnN w b v l) (hb : b' ≤ b) : OwnN w b' v l :=
  ⟨h.1, h.2.imp id (fun ⟨g, c, cur, h1, h2, h3⟩ => ⟨g, c, cur, h1, Nat.le_trans hb h2, h3⟩)⟩
theorem OwnN.one {w : World} {b : Nat} {v : Value} {l : List Nd} (h : OwnN w b v l) : v.oneCell' = true := by
  rcases h.2 with ⟨h1, -⟩ | ⟨g, cap, cur, h1, -⟩ <;> rw [h1] <;> rfl
theorem OwnN.setRow {w : World} {b k : Nat} {v : Value} {l : List Nd} (h : OwnN w b v l) (hk : k < b) (cs : Array Value) : OwnN (w.setRow k cs) b v l := by
  refine World.ownsRow.kept (row := some k) h (grown_setRow _ _ _) (.inr fun e => ?_)
  have := World.ownsRow.lt h k e
  omega
/-- What Build has laid of its answer, and writes last. -/
theorem trie_fin {w W : World} (hx : W.heap[w.heap.size]? = some (.cells tzero 52 (0, 0))) (hb : Below w.heap.size w W) (b2 : Int) (v2 : Value) :
    (W.setRow w.heap.size (tc b2 v2)).heap[w.heap.size]? = some (.cells (tc b2 v2) 52 (0, 0)) ∧ Below w.heap.size w (W.setRow w.heap.size (tc b2 v2)) :=
  ⟨setRow_heap _ _ _ _ _ _ hx, below_setRow hb (Nat.le_refl _) _⟩

set_option maxHeartbeats 2000000 in
set_option maxRecDepth 100000 in
theorem build_any (t : List Rt) (bits : Int) (v : Value) (w : World) (hR : Rd w v t) :
    Calls Try.prog 25 #[v, .int .i64 bits] w (BuildPost w (buildL t bits)) := by
  have hb0 : Below w.heap.size w (w.alloc (.cells tzero 52)) := (Below.refl _ _).alloc (Nat.le_refl _) _
  have hx0 : (w.alloc (.cells tzero 52)).heap[w.heap.size]? = some (.cells tzero 52 (0, 0)) := Go.heap_alloc_new w _
  obtain ⟨W0, hW0⟩ : ∃ W0, w.alloc (.cells tzero 52) = W0 := ⟨_, rfl⟩
  have hz0 : W0.heap.size = w.heap.size + 1 := by rw [← hW0]; simp
  rw [hW0] at hb0 hx0
  have HT : Hid (∀ W, Below W0.heap.size W0 W → W.heap[w.heap.size]? = some (.cells tzero 52 (0, 0)) ∧ Rd W v t ∧ Below w.heap.size w W) := fun W h =>
    ⟨(h.block _ (by omega)).trans hx0, hR.later (hb0.trans (h.mono (by omega))), hb0.trans (h.mono (by omega))⟩
  have C1 := fun W h => right_any t v W h
  have C2 := keys_any bits
  have b0 : ∀ w : World, (trieBuild #[]).run Try.prog w = .ok (.agg (tc 0 (.slice none 0 0))) w := run_trieBuild0
  have HW0 : Hid (w.alloc (.cells #[.int .i64 0, .slice none 0 0] 52) = W0) := hW0
  have HZ := Lib.hid hz0
  obtain ⟨X, hX⟩ : ∃ X, X = buildL t bits := ⟨_, rfl⟩
  rw [← hX]
  unfold buildL at hX
  obtain ⟨a, cap, hv, hmx⟩ := rd_len hR
  unfold BuildPost
  cases hr : rightB t with
  | false =>
    simp only [hr] at C1
    have HC1 := Lib.hid C1
    have HX : Hid (X = (0, [], 1)) := by show _ = _; rw [hX, hr]; rfl
    clear C1 C2 hr hX hb0 hx0 hz0 hW0 hR hv hmx
    go_enter Try.func25, Try.ntmps25
    go_wp2_with fail
    rw [HW0.out]
    refine (HC1.out _ (HT.out _ (Below.refl _ _)).2.1).mono ?_
    rintro e w1 ⟨rfl, h1⟩
    obtain ⟨t1, t2, t3⟩ := HT.out w1 h1
    have st := run_trieStore t1 (b2 := 0) (v2 := .slice none 0 0) rfl
    have HF := Lib.hid (trie_fin t1 t3 0 (.slice none 0 0))
    clear h1 t1 t2 t3
    go_wp2
    refine bodyPost_ret (v := .tuple #[.agg (tc 0 (.slice none 0 0)), .int .i64 1]) (build_out HF.out.1 _ rfl rfl) rfl ?_
    exact ⟨_, by rw [HX.out], by rw [HX.out]; exact ownN_nil _ _, HF.out.2⟩
  | true =>
    simp only [hr] at C1
    have HC1 := Lib.hid C1
    obtain ⟨hl256, hgood⟩ := (right_iff t).1 hr
    cases hk : mayB (keysP bits) with
    | false =>
      simp only [hk] at C2
      have HC2 := Lib.hid C2
      have HX : Hid (X = (0, [], 1)) := by show _ = _; rw [hX, hk]; simp
      clear C1 C2 hr hX hb0 hx0 hz0 hW0 hR hv hmx
      go_enter Try.func25, Try.ntmps25
      go_wp2_with fail
      rw [HW0.out]
      refine (HC1.out _ (HT.out _ (Below.refl _ _)).2.1).mono ?_
      rintro e w1 ⟨rfl, h1⟩
      have H1 := Lib.hid h1
      clear h1
      go_wp2_with fail
      refine (HC2.out w1).mono ?_
      rintro e w2 ⟨rfl, h2⟩
      obtain ⟨t1, t2, t3⟩ := HT.out w2 (H1.out.trans (h2.mono H1.out.size))
      have st := run_trieStore t1 (b2 := 0) (v2 := .slice none 0 0) rfl
      have HF := Lib.hid (trie_fin t1 t3 0 (.slice none 0 0))
      clear h2 t1 t2 t3
      go_wp2
      refine bodyPost_ret (v := .tuple #[.agg (tc 0 (.slice none 0 0)), .int .i64 1]) (build_out HF.out.1 _ rfl rfl) rfl ?_
      exact ⟨_, by rw [HX.out], by rw [HX.out]; exact ownN_nil _ _, HF.out.2⟩
    | true =>
      simp only [hk] at C2
      have HC2 := Lib.hid C2
      have HX : Hid (X = if (treeL t bits).ws.length ≤ 512 then (bits, (treeL t bits).nodes, 0) else (0, [], 5)) := by show _ = _; rw [hX, hr, hk]; rfl
      have HGD := Lib.hid hgood
      have HR := Lib.hid hR
      obtain ⟨n, hn⟩ : ∃ n, n = t.length := ⟨_, rfl⟩
      rw [← hn] at hv hl256
      have HN := Lib.hid hn
      have hnI : (n : Int) ≤ 256 := by omega
      have nm := run_nodesMake
      subst hv
      clear C1 C2 hr hk hX hb0 hx0 hz0 hW0 hR hmx hgood hn
      go_enter Try.func25, Try.ntmps25
      go_wp2_with fail
      rw [HW0.out]
      refine (HC1.out _ (HT.out _ (Below.refl _ _)).2.1).mono ?_
      rintro e w1 ⟨rfl, h1⟩
      have H1 := Lib.hid h1
      clear h1
      go_wp2_with fail
      refine (HC2.out w1).mono ?_
      rintro e w2 ⟨rfl, h2⟩
      have H2 := Lib.hid (H1.out.trans (h2.mono H1.out.size))
      clear h2
      have b1 := run_trieBuild bits (some ⟨w2.heap.size, 0, none⟩) 1 1
      have b2 := run_buiBuild bits (some ⟨w2.heap.size, 0, none⟩) 1 1
      have st := run_buiStore_new bits (.slice (some ⟨w2.heap.size, 0, none⟩) 1 1) rfl (w2.alloc (.cells (nc nd0) 104))
      have hnew := Go.heap_alloc_new (w2.alloc (.cells (nc nd0) 104)) (.cells (tc bits (.slice (some ⟨w2.heap.size, 0, none⟩) 1 1)) 94)
      rw [World.size_alloc] at st hnew
      have hal1 : Below w2.heap.size w2 (w2.alloc (.cells (nc nd0) 104)) := (Below.refl _ _).alloc (Nat.le_refl _) _
      have hal2 : Below (w2.alloc (.cells (nc nd0) 104)).heap.size (w2.alloc (.cells (nc nd0) 104)) ((w2.alloc (.cells (nc nd0) 104)).alloc (.cells (tc bits (.slice (some ⟨w2.heap.size, 0, none⟩) 1 1)) 94)) := (Below.refl _ _).alloc (Nat.le_refl _) _
      have hown : OwnN (w2.alloc (.cells (nc nd0) 104)) W0.heap.size (.slice (some ⟨w2.heap.size, 0, none⟩) 1 1) [nd0] := by
        have := World.ownsRow_lit (base := W0.heap.size) (e := 104) (size := 48) w2 (nc nd0) 1 H2.out.size (by decide) (by rw [nc_size])
        unfold OwnN
        rw [fn_one]
        exact this
      have hown2 := hown.later hal2
      have HB0 : Hid (Bui ((w2.alloc (.cells (nc nd0) 104)).alloc (.cells (tc bits (.slice (some ⟨w2.heap.size, 0, none⟩) 1 1)) 94)) (w2.heap.size + 1) W0.heap.size bits (.slice (some ⟨w2.heap.size, 0, none⟩) 1 1) [nd0]) :=
        ⟨hnew, hown2, Nat.le_succ_of_le H2.out.size⟩
      have HE0 : Hid (Below W0.heap.size W0 ((w2.alloc (.cells (nc nd0) 104)).alloc (.cells (tc bits (.slice (some ⟨w2.heap.size, 0, none⟩) 1 1)) 94))) :=
        (H2.out.trans (hal1.mono H2.out.size)).trans (hal2.mono (Nat.le_trans H2.out.size hal1.size))
      clear hnew hown hown2 hal1 hal2
      go_wp2
      obtain ⟨w3, hw3⟩ : ∃ w3, (w2.alloc (.cells (nc nd0) 104)).alloc (.cells (tc bits (.slice (some ⟨w2.heap.size, 0, none⟩) 1 1)) 94) = w3 := ⟨_, rfl⟩
      obtain ⟨B, hB⟩ : ∃ B, w2.heap.size + 1 = B := ⟨_, rfl⟩
      rw [hw3] at HB0 HE0
      rw [hB] at HB0
      rw [hw3, hB]
      clear hw3 hB b1 b2 st nm
      go_loopw [8, 24] (fun _ t24 wr => ∃ i : Nat, i ≤ n ∧ t24 = .int .i64 i ∧ Hid (∃ v2, Bui wr B W0.heap.size bits v2 (treeL (t.take i) bits).nodes) ∧ Hid ((treeL (t.take i) bits).ws.length ≤ 512) ∧ Hid (Below W0.heap.size W0 wr)) (fun _ t24 _ => n - (intOf t24).toNat)
      case atStart => exact ⟨0, Nat.zero_le _, rfl, ⟨_, by show Bui _ _ _ _ _ tr0.nodes; rw [tr0_nodes]; exact HB0.out⟩, (by show tr0.ws.length ≤ 512; decide), HE0.out⟩
      case round =>
        obtain ⟨i, hi, rfl, HBI, HLI, HE⟩ := hrel
        by_cases hlt : i < n
        · have hltI : (i : Int) < n := by omega
          have hi0 : (0 : Int) ≤ i := by omega
          obtain ⟨r, hrr⟩ : ∃ r, t[i]? = some r := ⟨t[i]'(by rw [← HN.out]; exact hlt), List.getElem?_eq_getElem _⟩
          obtain ⟨a', rfl, hca⟩ : ∃ a', a = some a' ∧ CellsAt wr a' (fl t) := by
            rcases (HT.out wr HE.out).2.1 with ⟨h, hnil⟩ | ⟨a', cap', h, _, _, hc⟩
            · exfalso; rw [hnil] at hrr; cases hrr
            · simp only [Value.slice.injEq] at h
              exact ⟨a', h.1, hc⟩
          have lr := run_routeLoad (hca.route hrr)
          have hm := HGD.out.may r (List.mem_of_getElem? hrr)
          have htake : t.take (i + 1) = t.take i ++ [r] := by rw [List.take_add_one, hrr]; rfl
          have HSP : Hid (treeL (t.take (i + 1)) bits = if r.pre.bits = bits then (treeL (t.take i) bits).addR r else treeL (t.take i) bits) := by show _ = _; unfold treeL; rw [htake, adds_snoc]
          have HALL : Hid (r.pre.bits = bits → ((treeL (t.take i) bits).addR r).ws.length ≤ (treeL t bits).ws.length) := fun hb => by
            have h1 := HSP.out
            rw [if_pos hb] at h1
            rw [← h1]
            unfold treeL
            have h2 := adds_append bits (t.take (i + 1)) (t.drop (i + 1)) tr0
            rw [List.take_append_drop] at h2
            rw [h2]
            exact Tr.adds_length bits _ _
          have hok : (treeL (t.take i) bits).Ok := Tr.adds_ok bits _ tr0 tr0_ok
          obtain ⟨T, hT⟩ : ∃ T, treeL (t.take i) bits = T := ⟨_, rfl⟩
          rw [hT] at HBI HLI HSP hok HALL
          obtain ⟨v2, hb2⟩ := HBI.out
          have st := run_routeStore_new r wr
          have hal : Below wr.heap.size wr (wr.alloc (.cells (rc r) 34)) := (Below.refl _ _).alloc (Nat.le_refl _) _
          have hbox : (wr.alloc (.cells (rc r) 34)).heap[wr.heap.size]? = some (.cells (rc r) 34 (0, 0)) := Go.heap_alloc_new wr _
          have hcb : (wr.alloc (.cells (rc r) 34)).cell? ⟨wr.heap.size, 0, none⟩ = some (.int .i64 r.pre.bits) := by rw [cell_of hbox, rc_pre r 0 (by omega), pc_bits]
          have lr2 := run_routeLoad (newRoute wr r)
          have HE1 := Lib.hid (HE.out.trans (hal.mono HE.out.size))
          have hb3 := hb2.later hal
          obtain ⟨w4, hw4⟩ : ∃ w4, wr.alloc (.cells (rc r) 34) = w4 := ⟨_, rfl⟩
          have C := add_any B W0.heap.size bits T hok HLI.out r hm v2 w4 (by rw [← hw4]; exact hb3) (by rw [← hw4]; exact Nat.le_trans HE.out.size hal.size)
          rw [hw4] at hcb lr2 HE1 hb3 st
          have HB3 := Lib.hid hb3
          have HW4 := Lib.hid hw4
          have HC := Lib.hid C
          clear hrr hca hm htake hok hT hb2 hal hbox hb3 hw4 C
          by_cases hbt : r.pre.bits = bits
          · have hq1 : (r.pre.bits == bits) = true := by rw [beq_iff_eq]; exact hbt
            have HS2 : Hid (treeL (t.take (i + 1)) bits = T.addR r) := by show _ = _; rw [HSP.out, if_pos hbt]
            have HA2 := Lib.hid (HALL.out hbt)
            clear hbt
            unfold AddPost at HC
            by_cases hfit : (T.addR r).ws.length ≤ 512
            · rw [decide_eq_true hfit] at HC
              have HFIT : Hid ((T.addR r).ws.length ≤ 512) := hfit
              clear hfit
              go_wp2_with fail
              refine HC.out.mono ?_
              rintro e w5 ⟨rfl, h5, h6⟩
              obtain ⟨v5, hb5⟩ := h5 HFIT.out
              have HB5 := Lib.hid hb5
              have HE5 := Lib.hid (HE1.out.trans h6.bel)
              clear h5 h6 hb5
              go_wp2
              go_roundw
              case rel => exact ⟨i + 1, by omega, by go_num, ⟨v5, by rw [HS2.out]; exact HB5.out⟩, by rw [HS2.out]; exact HFIT, HE5.out⟩
              case measure => simp [intOf]; omega
            · rw [decide_eq_false hfit] at HC
              have HXX : Hid (X = (0, [], 5)) := by show _ = _; rw [HX.out, if_neg (by have := HA2.out; omega)]
              clear hfit
              go_wp2_with fail
              refine HC.out.mono ?_
              rintro e w5 ⟨rfl, -, h6⟩
              obtain ⟨t1, t2, t3⟩ := HT.out w5 (HE1.out.trans h6.bel)
              have st5 := run_trieStore t1 (b2 := 0) (v2 := .slice none 0 0) rfl
              have HF := Lib.hid (trie_fin t1 t3 0 (.slice none 0 0))
              clear h6 t1 t2 t3
              go_wp2
              refine bodyPost_ret (v := .tuple #[.agg (tc 0 (.slice none 0 0)), .int .i64 5]) (build_out HF.out.1 _ rfl rfl) rfl ?_
              exact ⟨_, by rw [HXX.out], by rw [HXX.out]; exact ownN_nil _ _, HF.out.2⟩
          · have hq1 : (r.pre.bits == bits) = false := by rw [beq_eq_false_iff_ne]; exact hbt
            have HS2 : Hid (treeL (t.take (i + 1)) bits = T) := by show _ = _; rw [HSP.out, if_neg hbt]
            clear hbt
            go_wp2
            go_roundw
            case rel => exact ⟨i + 1, by omega, by go_num, ⟨v2, by rw [HS2.out]; exact HB3.out⟩, by rw [HS2.out]; exact HLI, HE1.out⟩
            case measure => simp [intOf]; omega
        · obtain rfl : i = n := by omega
          have hall : t.take i = t := List.take_of_length_le (by rw [← HN.out]; exact Nat.le_refl _)
          rw [hall] at HBI HLI
          clear hall
          have HXX : Hid (X = (bits, (treeL t bits).nodes, 0)) := by show _ = _; rw [HX.out, if_pos HLI.out]
          obtain ⟨v2, hb2⟩ := HBI.out
          obtain ⟨t1, t2, t3⟩ := HT.out wr HE.out
          have ll := run_trieLoad (bits := bits) (v := v2) hb2.box
          have st5 := run_trieStore t1 (b2 := bits) (v2 := v2) hb2.own.one
          have HF := Lib.hid (trie_fin t1 t3 bits v2)
          have HOF : Hid (OwnN (wr.setRow w.heap.size (tc bits v2)) w.heap.size v2 (treeL t bits).nodes) := (hb2.own.setRow (by have := HZ.out; omega) _).base (by have := HZ.out; omega)
          clear hb2 t1 t2 t3
          go_wp2
          refine bodyPost_ret (v := .tuple #[.agg (tc bits v2), .int .i64 0]) (build_out HF.out.1 _ rfl rfl) rfl ?_
          exact ⟨v2, by rw [HXX.out], by rw [HXX.out]; exact HOF.out, HF.out.2⟩
end Go.Proofs.Ytggjcjijoihilaa
