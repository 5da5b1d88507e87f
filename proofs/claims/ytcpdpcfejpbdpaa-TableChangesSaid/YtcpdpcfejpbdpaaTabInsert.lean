/- slices.Insert of one route into a row of the call's own. -/
import Derived.Test.YtcpdpcfejpbdpaaTabDelete
import Derived.Lib.AppendZerosOnto
import Derived.Lib.Overlaps
import Derived.Laws.NewBlocks
namespace Go.Proofs.Ytcpdpcfejpbdpaa
open Go.RowKit Go.Sort Go.Shelf
attribute [local go_sem ↓] loadVar_key loadVar_pre loadVar_route storeVar_pre storeVar_route buildSlice_row

def insL (l : List Rt) (i : Nat) (r : Rt) : List Rt := l.take i ++ r :: l.drop i
theorem insL_length (l : List Rt) (i : Nat) (r : Rt) : (insL l i r).length = l.length + 1 := by
  unfold insL; rw [List.length_append, List.length_cons, List.length_take, List.length_drop]; omega
theorem fl_ins (l : List Rt) (i : Nat) (r : Rt) : fl (insL l i r) = fl (l.take i) ++ rl r ++ fl (l.drop i) := by
  unfold insL; rw [fl_append, fl_cons, List.append_assoc]

/-- Cells moved up in place, and others laid where they stood. -/
theorem shift_cells {α : Type} (A B C R : List α) (k : Nat) (hR : R.length = k) (hC : k ≤ C.length) :
    ((A ++ B ++ C).take (A.length + k) ++ B ++ (A ++ B ++ C).drop (A.length + k + B.length)).take A.length ++ R ++ ((A ++ B ++ C).take (A.length + k) ++ B ++ (A ++ B ++ C).drop (A.length + k + B.length)).drop (A.length + k) = A ++ R ++ B ++ C.drop k := by
  have e1 : (A ++ B ++ C).take (A.length + k) = A ++ (B ++ C).take k := by
    rw [List.append_assoc, List.take_append, List.take_of_length_le (Nat.le_add_right _ _), Nat.add_sub_cancel_left]
  have e2 : (A ++ B ++ C).drop (A.length + k + B.length) = C.drop k := by
    rw [List.drop_append, List.drop_of_length_le (by rw [List.length_append]; omega), List.nil_append]
    congr 1; rw [List.length_append]; omega
  have e3 : ((B ++ C).take k).length = k := by rw [List.length_take, List.length_append]; omega
  rw [e1, e2]
  have e4 : (A ++ (B ++ C).take k ++ B ++ C.drop k).take A.length = A := by simp
  have e5 : (A ++ (B ++ C).take k ++ B ++ C.drop k).drop (A.length + k) = B ++ C.drop k := by
    rw [List.append_assoc, List.drop_append, List.drop_of_length_le (by rw [List.length_append, e3]; exact Nat.le_refl _), List.length_append, e3, Nat.sub_self, List.drop_zero, List.nil_append]
  rw [e4, e5]
  simp

theorem own_block {v : Value} {w : World} {base g cap : Nat} {l : List Rt} {rest : List Value} (hv : v = .slice (some ⟨g, 0, none⟩) l.length cap) (_ : OwnAt w base g cap l rest) : v.ownBlock = some g := by rw [hv]; rfl

set_option maxHeartbeats 4000000 in
set_option maxRecDepth 100000 in
/-- At the end. -/
theorem insert_end (l : List Rt) (v : Value) (base x : Nat) (r : Rt) (w : World) (ho : Own w base v l) (h16 : l.length ≤ 65536) (hbase : base ≤ w.heap.size)
    (hx : CellsAt w ⟨x, 0, none⟩ (rl r)) :
    Calls Try.prog 52 #[v, .int .i64 (l.length : Nat), .slice (some ⟨x, 0, none⟩) 1 1] w (MutPost w base v (l ++ [r])) := by
  obtain ⟨i0, e0, e1, e2, e3⟩ := infoR'
  have H0 := Lib.hid e0
  have H1 := Lib.hid e1
  have H2 := Lib.hid e2
  have H3 := Lib.hid e3
  have HX := Lib.hid hx
  have HO := Lib.hid ho
  rcases ho.at' with ⟨rfl, rfl⟩ | ⟨g, cap, rest, rfl, hb, hr, hs, hle, hmx⟩
  · clear e0 e1 e2 e3 hx ho
    unfold MutPost
    go_enter Try.func52, Try.ntmps52
    go_wp2_with (at_builtin; refine wpList_append_own _ rfl _ _ 22 rfl base 34 i0 (.agg (rc zrt)) 19 40 Try.underlying22 H0.out H1.out H2.out H3.out (rc_size _) (by decide) _ 0 [] rfl HO.out ⟨x, 0, none⟩ 1 1 (rl r) rfl (rl_length r) HX.out (rl_one r) (by simp [maxLen]) (by decide) hbase ?_)
    intro v' w3 hown' hg _
    have hown3 : Own w3 base v' [r] := by unfold Own; rw [fl_one]; exact hown'
    clear hown'
    go_wp2
    go_ret
    exact ⟨_, rfl, hown3, hg⟩
  · obtain ⟨n, hn⟩ : ∃ n, n = l.length := ⟨_, rfl⟩
    rw [← hn] at h16 hle ho HO ⊢
    have hleI : (n : Int) ≤ cap := by omega
    unfold maxLen at hmx
    have hcI : (cap : Int) ≤ 9223372036854775807 := by omega
    have HN := Lib.hid hn
    have h16I : (n : Int) ≤ 65536 := by omega
    clear e0 e1 e2 e3 hx hr hs hn ho
    unfold MutPost
    go_enter Try.func52, Try.ntmps52
    go_wp2_with (at_builtin; refine wpList_append_own _ rfl _ _ 22 rfl base 34 i0 (.agg (rc zrt)) 19 40 Try.underlying22 H0.out H1.out H2.out H3.out (rc_size _) (by decide) _ n (fl l) rfl (by have h := HO.out; unfold Own at h; rw [← HN.out] at h; exact h) ⟨x, 0, none⟩ 1 1 (rl r) rfl (rl_length r) HX.out (rl_one r) (by simp only [maxLen]; omega) (by omega) hbase ?_)
    all_goals
      intro v' w3 hown' hg _
      have hown3 : Own w3 base v' (l ++ [r]) := by unfold Own; rw [List.length_append, ← HN.out, fl_append, fl_one]; exact hown'
      clear hown'
      go_wp2
      go_ret
      exact ⟨_, rfl, hown3, hg⟩

set_option maxHeartbeats 4000000 in
set_option maxRecDepth 100000 in
/-- There is room: in place. -/
theorem insert_room (l : List Rt) (base g cap : Nat) (rest : List Value) (x i : Nat) (r : Rt) (w : World) (ho : OwnAt w base g cap l rest) (hi : i < l.length) (h16 : l.length ≤ 65536) (hroom : l.length + 1 ≤ cap)
    (hx : w.heap[x]? = some (.cells (rc r) 34 (0, 0))) (hxg : x ≠ g) :
    Calls Try.prog 52 #[.slice (some ⟨g, 0, none⟩) l.length cap, .int .i64 i, .slice (some ⟨x, 0, none⟩) 1 1] w (MutPost w base (.slice (some ⟨g, 0, none⟩) l.length cap) (insL l i r)) := by
  obtain ⟨hb, hr, hs, hle, hmx⟩ := ho
  obtain ⟨n, hn⟩ : ∃ n, n = l.length := ⟨_, rfl⟩
  have hlen2 := insL_length l i r
  have hfl := fl_ins l i r
  have hA : (fl (l.take i)).length = i * 19 := by rw [fl_length, List.length_take]; congr 1; omega
  have hB : (fl (l.drop i)).length = (n - i) * 19 := by rw [fl_length, List.length_drop, hn]
  have hAB : fl l = fl (l.take i) ++ fl (l.drop i) := by rw [← fl_append, List.take_append_drop]
  have onesB := fl_ones (l.drop i)
  rw [← hn] at hi h16 hroom hs hle hlen2 ⊢
  obtain ⟨L2, hL2⟩ : ∃ L2, L2 = insL l i r := ⟨_, rfl⟩
  rw [← hL2] at hlen2 hfl ⊢
  obtain ⟨A, eA⟩ : ∃ A, A = fl (l.take i) := ⟨_, rfl⟩
  obtain ⟨B, eB⟩ : ∃ B, B = fl (l.drop i) := ⟨_, rfl⟩
  rw [← eA, ← eB] at hAB hfl
  rw [← eA] at hA
  rw [← eB] at hB onesB
  rw [hAB] at hr
  have hx0 : CellsAt w ⟨x, 0, none⟩ (rl r) := fun j u hu => by
    rw [add_here, cell_of hx]; simpa [rc] using hu
  have hov : ∀ lb cb, (callFunc 60 #[.slice (some ⟨x, 0, none⟩) 1 1, .slice (some ⟨g, (i + 1) * 19, none⟩) lb cb]).run Try.prog w = .ok (.value (.bool false)) w := fun lb cb => by
    rw [run_callFunc_extern Try.func60 (by kernel_rfl) (by kernel_rfl) (by kernel_rfl) (e := Extern.SlicesOverlaps.overlaps #[22, 22] #[4]) (by kernel_rfl),
      Lib.run_overlaps_apart w 22 4 34 Try.underlying22 19 Try.sizeOf34 ⟨x, 0, none⟩ ⟨g, (i + 1) * 19, none⟩ 1 1 lb cb hxg 34 34 19 (A ++ B ++ rest).length (by simp [World.shape?, hx, rc_size]) (by
        have hr' : w.heap[g]? = _ := hr
        simp [World.shape?, hr']) (by rw [List.length_append, List.length_append, hA, hB, hs]; omega) (frozen_of hx _) (frozen_of hx _)]
    rfl
  have hcp1 := fun ty dc sc => run_copyR hr.drew ty ((i + 1) * 19) (n - i) dc ⟨g, i * 19, none⟩ (n + 1 - i) sc (n - i) B (by simp only [Nat.min_def]; split <;> omega) hB (fun j u hu => by
    rw [add_here]
    have h := hr.cells (i * 19 + j) u (by
      have hj := (List.getElem?_eq_some_iff.1 hu).1
      rw [List.getElem?_append_left (by rw [List.length_append]; omega), List.getElem?_append_right (by omega), hA, Nat.add_sub_cancel_left]; exact hu)
    rw [add_here, Nat.zero_add] at h
    exact h) (by rw [List.length_append, List.length_append, hA, hB, hs]; omega) onesB
  obtain ⟨cur1, hc1⟩ : ∃ cur1, cur1 = (A ++ B ++ rest).take ((i + 1) * 19) ++ B ++ (A ++ B ++ rest).drop ((i + 1) * 19 + B.length) := ⟨_, rfl⟩
  have hl1 : cur1.length = cap * 19 := by
    rw [hc1]
    simp only [List.length_append, List.length_take, List.length_drop, hA, hB, hs]
    omega
  have hsh := shift_cells A B rest (rl r) 19 (rl_length r) (by rw [hs]; omega)
  rw [hA, show i * 19 + 19 = (i + 1) * 19 by omega] at hsh
  rw [← hc1] at hcp1 hsh
  obtain ⟨W1, hW1⟩ : ∃ W1, W1 = w.drew.setRow g cur1.toArray := ⟨_, rfl⟩
  rw [← hW1] at hcp1
  have R1 : Row W1 g cur1 := by rw [hW1]; exact hr.drew.set _
  have G1 : w.grownBy W1 (some g) := by rw [hW1]; exact grown_trans (grown_drew (grown_refl w _)) (grown_setRow _ _ _)
  have hx1 : CellsAt W1 ⟨x, 0, none⟩ (rl r) := fun j u hu => (G1.cell (hx0 j u hu) (by rw [add_block]; intro e; injection e with e; exact hxg e))
  have hcp2 := fun ty dc => run_copyR R1 ty (i * 19) (n + 1 - i) dc ⟨x, 0, none⟩ 1 1 1 (rl r) (by simp only [Nat.min_def]; split <;> omega) (rl_length r) hx1 (by rw [rl_length, hl1]; omega) (rl_one r)
  rw [rl_length, show i * 19 + 19 = (i + 1) * 19 by omega, hsh, ← hfl] at hcp2
  have hfin : OwnAt (W1.setRow g (fl L2 ++ rest.drop 19).toArray) base g cap L2 (rest.drop 19) := ⟨hb, R1.set _, by rw [List.length_drop, hs, hlen2]; omega, by omega, hmx⟩
  have hfin2 := hfin.own
  rw [hlen2] at hfin2
  have G2 : w.grownBy (W1.setRow g (fl L2 ++ rest.drop 19).toArray) (some g) := grown_trans G1 (grown_setRow _ _ _)
  obtain ⟨W2, hW2⟩ : ∃ W2, W2 = W1.setRow g (fl L2 ++ rest.drop 19).toArray := ⟨_, rfl⟩
  rw [← hW2] at hcp2 hfin2 G2
  have HF := Lib.hid hfin2
  have HG := Lib.hid G2
  have hiI : (i : Int) < n := by omega
  have hnI : (n : Int) ≤ 65536 := by omega
  have hrI : (n : Int) + 1 ≤ cap := by omega
  have hw1 : IntKind.i64.wrap ((i : Int) + 1) = (i : Int) + 1 := by rw [IntKind.wrap_i64]; omega
  have hb1 : (0 : Int) ≤ (i : Int) + 1 := by omega
  have htn : ((i : Int) + 1).toNat = i + 1 := by omega
  have hb2 : ¬ (cap = i + 1) := by omega
  have hb3 : (i : Int) + 1 ≤ (n : Int) + 1 := by omega
  have hb4 : ¬ (cap = i) := by omega
  have hb5 : (i : Int) ≤ (n : Int) + 1 := by omega
  have hne : ((i : Int) == (n : Int)) = false := by rw [beq_eq_false_iff_ne]; omega
  have mixed : Try.prog.follows .mixedOrders = true := by kernel_rfl
  unfold maxLen at hmx
  have hcI : (cap : Int) ≤ 9223372036854775807 := by omega
  clear hfin hfin2 G1 G2 hW1 hW2 R1 hsh hc1 hl1 hr hs hA hB hAB hfl eA eB hL2 hx0 hx1 hx onesB hlen2 hn hb hle
  unfold MutPost
  go_enter Try.func52, Try.ntmps52
  go_wp2_with (simp only [hov])
  go_region_law_o (refine step_copy_runI rfl _ _ 22 22 rfl _ _ (by simp [Act.eval, Act.put]) (by simp [Act.eval, Act.put]) (hcp1 _ _ _) ?_)
  go_wp2
  go_ret
  exact ⟨_, rfl, HF.out, HG.out⟩

set_option maxHeartbeats 4000000 in
set_option maxRecDepth 100000 in
/-- There is no room: a new row. -/
theorem insert_grow (l : List Rt) (base g cap : Nat) (rest : List Value) (x i : Nat) (r : Rt) (w : World) (ho : OwnAt w base g cap l rest) (hi : i < l.length) (h16 : l.length ≤ 65536) (hroom : cap < l.length + 1) (hbase : base ≤ w.heap.size)
    (hx : w.heap[x]? = some (.cells (rc r) 34 (0, 0))) :
    Calls Try.prog 52 #[.slice (some ⟨g, 0, none⟩) l.length cap, .int .i64 i, .slice (some ⟨x, 0, none⟩) 1 1] w (MutPost w base (.slice (some ⟨g, 0, none⟩) l.length cap) (insL l i r)) := by
  obtain ⟨hb, hr, hs, hle, hmx⟩ := ho
  obtain ⟨n, hn⟩ : ∃ n, n = l.length := ⟨_, rfl⟩
  have hlen2 := insL_length l i r
  have hfl := fl_ins l i r
  have hA : (fl (l.take i)).length = i * 19 := by rw [fl_length, List.length_take]; congr 1; omega
  have hB : (fl (l.drop i)).length = (n - i) * 19 := by rw [fl_length, List.length_drop, hn]
  have hAB : fl l = fl (l.take i) ++ fl (l.drop i) := by rw [← fl_append, List.take_append_drop]
  have onesB := fl_ones (l.drop i)
  rw [← hn] at hi h16 hroom hs hle hlen2 ⊢
  obtain ⟨L2, hL2⟩ : ∃ L2, L2 = insL l i r := ⟨_, rfl⟩
  rw [← hL2] at hlen2 hfl ⊢
  obtain ⟨A, eA⟩ : ∃ A, A = fl (l.take i) := ⟨_, rfl⟩
  obtain ⟨B, eB⟩ : ∃ B, B = fl (l.drop i) := ⟨_, rfl⟩
  rw [← eA, ← eB] at hAB hfl
  rw [← eA] at hA
  rw [← eB] at hB onesB
  rw [hAB] at hr
  obtain rfl : cap = n := by omega
  have hx0 : CellsAt w ⟨x, 0, none⟩ (rl r) := fun j u hu => by
    rw [add_here, cell_of hx]; simpa [rc] using hu
  obtain ⟨i0, e0, e1, e2, e3⟩ := infoR'
  have hold : (Builtin.firstCells i0.size i (.slice (some ⟨g, 0, none⟩) i cap)).run Try.prog w.drew = .ok A.toArray w.drew := by
    rw [e2]
    exact run_firstCells_some w.drew 19 i ⟨g, 0, none⟩ i cap A hA (fun j u hu => hr.cells j u (by
      have hj := (List.getElem?_eq_some_iff.1 hu).1
      rw [List.append_assoc, List.getElem?_append_left hj]; exact hu))
  have hik : i + (cap + 1 - i) = cap + 1 := by omega
  have hgf : Builtin.nextslicecap (cap + 1) cap * i0.bytes ≤ 281474976710656 := by
    rw [e3]; exact growslice_fits (by omega) (by omega)
  have hrz : ∀ ty, (Builtin.append_ #[22, 3] ty #[.slice (some ⟨g, 0, none⟩) i cap, .int .i64 ((cap : Int) + 1 - (i : Int))]).run Try.prog w = .ok (.slice (some ⟨w.heap.size, 0, none⟩) (cap + 1) (grownCap w (cap + 1) cap 34))
      (w.drew.alloc (.cells (A.toArray ++ Builtin.zeroCells (rc zrt) (cap + 1 - i) ++ Builtin.zeroCells (rc zrt) (grownCap w (cap + 1) cap 34 - (cap + 1))) 34)) := fun ty => by
    have h := Lib.run_append_grow_zeros w 22 3 ty 34 i0 _ .i64 .i64 Try.underlying22 Try.underlying3 e0 e1 (some ⟨g, 0, none⟩) i cap A hold (cap + 1 - i) (by omega) (by rw [e2]; decide) (by omega) (by omega) (by rw [e3]; omega) (by rw [hik]; exact hgf)
    rw [hik] at h
    rw [show (cap : Int) + 1 - (i : Int) = ((cap + 1 - i : Nat) : Int) by omega]
    exact h
  have hG1 : cap + 1 ≤ grownCap w (cap + 1) cap 34 := grownCap_ge w _ _ _
  have hG2 : grownCap w (cap + 1) cap 34 ≤ maxLen := grownCap_le_maxLen w _ _ _ (by unfold maxLen; omega)
  obtain ⟨G, hG⟩ : ∃ G, G = grownCap w (cap + 1) cap 34 := ⟨_, rfl⟩
  rw [← hG] at hrz hG1 hG2
  have hzl : ∀ k, (Builtin.zeroCells (rc zrt) k).toList.length = k * 19 := fun k => by simp [Builtin.zeroCells, rc_size]
  obtain ⟨Z, hZ⟩ : ∃ Z, Z = (Builtin.zeroCells (rc zrt) (cap + 1 - i)).toList ++ (Builtin.zeroCells (rc zrt) (G - (cap + 1))).toList := ⟨_, rfl⟩
  have hZl : Z.length = (G - i) * 19 := by rw [hZ, List.length_append, hzl, hzl]; omega
  have hrow : A.toArray ++ Builtin.zeroCells (rc zrt) (cap + 1 - i) ++ Builtin.zeroCells (rc zrt) (G - (cap + 1)) = (A ++ Z).toArray := by
    rw [hZ]
    apply Array.toList_inj.1
    simp
  rw [hrow] at hrz
  obtain ⟨W1, hW1⟩ : ∃ W1, W1 = w.drew.alloc (.cells (A ++ Z).toArray 34) := ⟨_, rfl⟩
  rw [← hW1] at hrz
  have R1 : Row W1 w.heap.size (A ++ Z) := by rw [hW1]; exact Go.heap_alloc_new w.drew _
  have B1 : Below w.heap.size w W1 := by rw [hW1]; exact ((Below.refl _ w).drew).alloc (Nat.le_refl _) _
  -- the new route
  have hcp1 : ∀ (W : World), W.heap = W1.heap → ∀ ty dc, (Builtin.copy_ #[22, 22] ty #[.slice (some ⟨w.heap.size, i * 19, none⟩) (cap + 1 - i) dc, .slice (some ⟨x, 0, none⟩) 1 1]).run Try.prog W = .ok (goInt 1) (W.setRow w.heap.size (A ++ rl r ++ Z.drop 19).toArray) := fun W hh ty dc => by
    have h := run_copyR (w := W) (g := w.heap.size) (cur := A ++ Z) (by unfold Row; rw [hh]; exact R1) ty (i * 19) (cap + 1 - i) dc ⟨x, 0, none⟩ 1 1 1 (rl r) (by simp only [Nat.min_def]; split <;> omega) (rl_length r) (fun j u hu => by
      have := (hx0.later B1) j u hu
      simpa [World.cell?, hh] using this) (by rw [List.length_append, rl_length, hA, hZl]; omega) (rl_one r)
    rw [rl_length, List.take_append_of_le_length (by omega), List.take_of_length_le (by omega), ← hA, List.drop_append, List.drop_of_length_le (by omega), Nat.add_sub_cancel_left, List.nil_append] at h
    rw [← hA]; exact h
  obtain ⟨W2, hW2⟩ : ∃ W2, W2 = W1.setRow w.heap.size (A ++ rl r ++ Z.drop 19).toArray := ⟨_, rfl⟩
  have R2 : Row W2 w.heap.size (A ++ rl r ++ Z.drop 19) := by rw [hW2]; exact R1.set _
  have B2 : Below w.heap.size w W2 := by rw [hW2]; exact below_setRow B1 (Nat.le_refl _) _
  have hZd : (Z.drop 19).length = (G - i) * 19 - 19 := by rw [List.length_drop, hZl]
  have hcp2 : ∀ (W : World), W.heap = W2.heap → ∀ ty dc sc, (Builtin.copy_ #[22, 22] ty #[.slice (some ⟨w.heap.size, (i + 1) * 19, none⟩) (cap - i) dc, .slice (some ⟨g, i * 19, none⟩) (cap - i) sc]).run Try.prog W = .ok (goInt (cap - i : Nat)) (W.setRow w.heap.size (fl L2 ++ (Z.drop 19).drop ((cap - i) * 19)).toArray) := fun W hh ty dc sc => by
    have h := run_copyR (w := W) (g := w.heap.size) (cur := A ++ rl r ++ Z.drop 19) (by unfold Row; rw [hh]; exact R2) ty ((i + 1) * 19) (cap - i) dc ⟨g, i * 19, none⟩ (cap - i) sc (cap - i) B (by simp only [Nat.min_def]; split <;> omega) hB (fun j u hu => by
      rw [add_here]
      have h1 := (hr.later B2).cells (i * 19 + j) u (by
        have hj := (List.getElem?_eq_some_iff.1 hu).1
        rw [List.getElem?_append_left (by rw [List.length_append]; omega), List.getElem?_append_right (by omega), hA, Nat.add_sub_cancel_left]; exact hu)
      rw [add_here, Nat.zero_add] at h1
      simpa [World.cell?, hh] using h1) (by rw [List.length_append, List.length_append, rl_length, hA, hB, hZd]; omega) onesB
    have hAr : (A ++ rl r).length = (i + 1) * 19 := by rw [List.length_append, hA, rl_length]; omega
    rw [List.take_append_of_le_length (by omega), List.take_of_length_le (by omega), List.drop_append, List.drop_of_length_le (by omega), List.nil_append, hAr, Nat.add_sub_cancel_left, hB, ← hfl] at h
    exact h
  have hfin : ∀ W : World, W.heap = W2.heap → W.os = W2.os → W.tape = W2.tape → W.output = W2.output → MutPost w base (.slice (some ⟨g, 0, none⟩) cap cap) L2 (.returned (.slice (some ⟨w.heap.size, 0, none⟩) (cap + 1) G)) (W.setRow w.heap.size (fl L2 ++ (Z.drop 19).drop ((cap - i) * 19)).toArray) := fun W hh h1 h2 h3 => by
    have R3 : Row W w.heap.size (A ++ rl r ++ Z.drop 19) := by unfold Row; rw [hh]; exact R2
    have hO : OwnAt (W.setRow w.heap.size (fl L2 ++ (Z.drop 19).drop ((cap - i) * 19)).toArray) base w.heap.size G L2 ((Z.drop 19).drop ((cap - i) * 19)) :=
      ⟨hbase, R3.set _, by rw [List.length_drop, hZd, hlen2]; omega, by rw [hlen2]; exact hG1, hG2⟩
    have hO2 := hO.own
    rw [hlen2] at hO2
    refine ⟨_, rfl, hO2, grown_below ?_ _⟩
    have B3 : Below w.heap.size w W := ⟨h1.trans B2.os, h2.trans B2.tape, h3.trans B2.output, by rw [hh]; exact B2.size, fun k hk => by rw [hh]; exact B2.block k hk⟩
    exact below_setRow B3 (Nat.le_refl _) _
  have HFIN := Lib.hid hfin
  have c1 := hcp1 W1 rfl
  obtain ⟨X, hX⟩ : ∃ X, X = A ++ rl r ++ Z.drop 19 := ⟨_, rfl⟩
  obtain ⟨Y, hY⟩ : ∃ Y, Y = fl L2 ++ (Z.drop 19).drop ((cap - i) * 19) := ⟨_, rfl⟩
  rw [← hX] at c1 hW2
  have c2 := hcp2 ((W1.setRow w.heap.size X.toArray).drew) (by rw [hW2]; rfl)
  rw [← hY] at c2 HFIN
  have HW2 := Lib.hid hW2
  have hiI : (i : Int) < cap := by omega
  have hnI : (cap : Int) ≤ 65536 := by omega
  have hw1 : IntKind.i64.wrap ((i : Int) + 1) = (i : Int) + 1 := by rw [IntKind.wrap_i64]; omega
  have hb1 : (0 : Int) ≤ (i : Int) + 1 := by omega
  have htn : ((i : Int) + 1).toNat = i + 1 := by omega
  have hb3 : (i : Int) + 1 ≤ (cap : Int) + 1 := by omega
  have hb4 : ¬ (cap = i) := by omega
  have hb5 : (i : Int) ≤ (cap : Int) + 1 := by omega
  have hb6 : ¬ (G = i) := by omega
  have hb8 : (i : Int) ≤ (cap : Int) := by omega
  have hb7 : ¬ (G = i + 1) := by omega
  have hne : ((i : Int) == (cap : Int)) = false := by rw [beq_eq_false_iff_ne]; omega
  have mixed : Try.prog.follows .mixedOrders = true := by kernel_rfl
  unfold maxLen at hG2
  have hcI : (G : Int) ≤ 9223372036854775807 := by omega
  clear hX hY hfin hcp1 hcp2 hW1 hW2 R1 R2 B1 B2 hr hs hA hB hAB hfl eA eB hL2 hx0 hx onesB hlen2 hn hb hZ hZl hZd hrow hzl hG e0 e1 e2 e3 hold hik hgf hmx hle hroom
  go_enter Try.func52, Try.ntmps52
  go_wp2_with (at_builtin; refine Lib.wpList_append_run _ rfl _ _ _ _ rfl _ _ rfl rfl _ _ (hrz _) ?_)
  go_big_region_o
  go_wp2
  go_ret
  exact HFIN.out _ (by rw [HW2.out]; rfl) (by rw [HW2.out]; rfl) (by rw [HW2.out]; rfl) (by rw [HW2.out]; rfl)

/-- Wherever, and whatever room there is. -/
theorem insert_any (l : List Rt) (v : Value) (base x i : Nat) (r : Rt) (w : World) (ho : Own w base v l) (hi : i ≤ l.length) (h16 : l.length ≤ 65536) (hbase : base ≤ w.heap.size)
    (hx : w.heap[x]? = some (.cells (rc r) 34 (0, 0))) (hxv : v.ownBlock ≠ some x) :
    Calls Try.prog 52 #[v, .int .i64 i, .slice (some ⟨x, 0, none⟩) 1 1] w (MutPost w base v (insL l i r)) := by
  by_cases h : i = l.length
  · subst h
    have e : insL l l.length r = l ++ [r] := by unfold insL; simp
    rw [e]
    exact insert_end l v base x r w ho h16 hbase (fun j u hu => by rw [add_here, cell_of hx]; simpa [rc] using hu)
  · rcases ho.at' with ⟨_, rfl⟩ | ⟨g, cap, rest, rfl, hat⟩
    · exfalso; simp at hi; exact h hi
    · by_cases hc : l.length + 1 ≤ cap
      · exact insert_room l base g cap rest x i r w hat (by omega) h16 hc hx (fun e => hxv (by rw [e]; rfl))
      · exact insert_grow l base g cap rest x i r w hat (by omega) h16 (by omega) hbase hx
end Go.Proofs.Ytcpdpcfejpbdpaa
