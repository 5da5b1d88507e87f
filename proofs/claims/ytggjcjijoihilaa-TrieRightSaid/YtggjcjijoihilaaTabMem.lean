/- A row of routes of the call's own: a store of one, a copy, an append in place, a clear. slices.Delete of one route of a row of the call's own. slices.Insert of one route into a row of the call's own. -/
import Derived.Test.YtggjcjijoihilaaTabPlace
import Derived.Shelf.Spec.SlicesInsert
import Derived.Deep.RegionLaw
import Derived.Lib.SliceRun
import Derived.Laws.IdiomCopy
import Derived.Shelf.RegionOpenPlain
import Derived.Lib.AppendZerosOnto
import Derived.Lib.Overlaps
import Derived.Laws.NewBlocks
namespace Go.Proofs.Ytggjcjijoihilaa
open Go.RowKit Go.Sort Go.Shelf

/-- A block that holds cells of routes. -/
def Row (w : World) (g : Nat) (cs : List Value) : Prop := w.heap[g]? = some (.cells cs.toArray 34 (0, 0))

theorem Row.lt {w : World} {g : Nat} {cs : List Value} (h : Row w g cs) : g < w.heap.size := heap_lt h
theorem Row.set {w : World} {g : Nat} {cs : List Value} (h : Row w g cs) (ds : List Value) : Row (w.setRow g ds.toArray) g ds := setRow_heap _ _ _ _ _ _ h
theorem Row.later {w w' : World} {g : Nat} {cs : List Value} (h : Row w g cs) (hb : Below w.heap.size w w') : Row w' g cs := by
  unfold Row; rw [hb.block _ h.lt]; exact h
theorem Row.cells {w : World} {g : Nat} {cs : List Value} (h : Row w g cs) : CellsAt w ⟨g, 0, none⟩ cs := fun j u hu => by
  have hadd : (⟨g, 0, none⟩ : Addr).add j = ⟨g, j, none⟩ := by unfold Addr.add; split <;> simp_all
  rw [hadd, cell_of h]; simpa using hu
theorem Row.drew {w : World} {g : Nat} {cs : List Value} (h : Row w g cs) : Row w.drew g cs := h
theorem grown_setRow (w : World) (g : Nat) (cs : Array Value) : w.grownBy (w.setRow g cs) (some g) := ⟨rfl, rfl, rfl, by simp, fun k _ hne => setRow_other w g k cs (fun e => hne (by rw [e]))⟩
theorem grown_refl (w : World) (row : Option Nat) : w.grownBy w row := ⟨rfl, rfl, rfl, Nat.le_refl _, fun _ _ _ => rfl⟩
theorem grown_trans {a b c : World} {row : Option Nat} (h : a.grownBy b row) (k : b.grownBy c row) : a.grownBy c row :=
  ⟨k.os.trans h.os, k.tape.trans h.tape, k.output.trans h.output, Nat.le_trans h.size k.size, fun i hi hne => (k.block i (Nat.lt_of_lt_of_le hi h.size) hne).trans (h.block i hi hne)⟩
theorem grown_below {a b : World} (h : Below a.heap.size a b) (row : Option Nat) : a.grownBy b row := ⟨h.os, h.tape, h.output, h.size, fun i hi _ => h.block i hi⟩
theorem grown_drew {a b : World} {row : Option Nat} (h : a.grownBy b row) : a.grownBy b.drew row := ⟨h.os, h.tape, h.output, h.size, h.block⟩

theorem add_here (g o j : Nat) : (⟨g, o, none⟩ : Addr).add j = ⟨g, o + j, none⟩ := by unfold Addr.add; split <;> simp_all

/-- A run of stores into a row, cell by cell or at once. -/
theorem setCells_row {w : World} {g : Nat} {cs : List Value} (h : Row w g cs) (o : Nat) (vs : List Value) (hf : o + vs.length ≤ cs.length) (h1 : ∀ v ∈ vs, v.oneCell' = true) : w.setCells g o vs = w.setRow g (cs.take o ++ vs ++ cs.drop (o + vs.length)).toArray := by
  have a := run_storeCells_cells (P := Try.prog) g o vs 0 w (fun j hj => by
    rw [Nat.add_zero, cell_of h, List.getElem?_toArray, List.getElem?_eq_getElem (by omega)]; rfl) (fun j _ => frozen_of h _) h1
  have b := run_storeCells_at Try.prog g o 34 vs 0 cs.toArray w h (by simpa using hf) h1
  rw [a] at b
  simp only [Nat.add_zero, Result.ok.injEq, true_and] at b
  exact b

/-- A whole route, stored at place i of a row. -/
theorem run_routeStore_at {w : World} {g : Nat} {l : List Rt} {rest : List Value} (h : Row w g (fl l ++ rest)) {i : Nat} (hi : i < l.length) (r : Rt) :
    (routeStore ⟨g, i * 19, none⟩ (.agg (rc r))).run Try.prog w = .ok () (w.setRow g (fl (l.set i r) ++ rest).toArray) := by
  have hlen : i * 19 + 19 ≤ (fl l).length := by rw [fl_length]; omega
  have b := run_storeCells_at Try.prog g (i * 19) 34 (rl r) 0 (fl l ++ rest).toArray w h (by rw [rl_length]; simp; omega) (rl_one r)
  have e : (fl l ++ rest).take (i * 19) ++ rl r ++ (fl l ++ rest).drop (i * 19 + 19) = fl (l.set i r) ++ rest := by
    rw [List.take_append_of_le_length (by omega), List.drop_append_of_le_length (by omega), fl_take, show i * 19 + 19 = (i + 1) * 19 by omega, fl_drop, List.set_eq_take_append_cons_drop, if_pos hi, fl_append, fl_cons]
    simp
  simp only [Nat.add_zero, rl_length] at b
  rw [e] at b
  obtain ⟨i0, h0, h1, h2, h3⟩ := infoR'
  simp [routeStore, storeVar, sizeOf, typeInfo, h0, h2, Value.cells, rc, rl_length, b]

/-- copy, into a row. -/
theorem run_copyR {w : World} {g : Nat} {cur : List Value} (h : Row w g cur) (ty : TypeId) (o dLen dCap : Nat) (a : Addr) (sLen sCap m : Nat) (cs : List Value) (hm : m = Nat.min sLen dLen) (hl : cs.length = m * 19) (hsrc : CellsAt w a cs)
    (hfit : o + cs.length ≤ cur.length) (h1 : ∀ v ∈ cs, v.oneCell' = true) :
    (Builtin.copy_ #[22, 22] ty #[.slice (some ⟨g, o, none⟩) dLen dCap, .slice (some a) sLen sCap]).run Try.prog w = .ok (goInt m) (w.setRow g (cur.take o ++ cs ++ cur.drop (o + cs.length)).toArray) := by
  have hl' := run_loadCells_list (P := Try.prog) w a cs hsrc
  have hst := run_storeCells_at Try.prog g o 34 cs 0 cur.toArray w h (by simpa using hfit) h1
  obtain ⟨i0, e0, e1, e2, e3⟩ := infoR'
  rw [hl] at hl'
  simp only [Nat.add_zero] at hst
  simp [Builtin.copy_, run_underlying Try.underlying22, Builtin.lenOf, Builtin.firstCells, sizeOf, typeInfo, e0, e2, ← hm, hl', hst]

/-- clear, of a part of a row: it holds something else. -/
theorem run_clearR {w : World} {g : Nat} {cur : List Value} (h : Row w g cur) (o n c : Nat) (hfit : o + n * 19 ≤ cur.length) :
    ∃ zs : List Value, zs.length = n * 19 ∧ (∀ v ∈ zs, v.oneCell' = true) ∧ ∀ ty, (Builtin.clear_ #[22] ty #[.slice (some ⟨g, o, none⟩) n c]).run Try.prog w = .ok (.tuple #[]) (w.setRow g (cur.take o ++ zs ++ cur.drop (o + n * 19)).toArray) := by
  have hlen : (Builtin.zeroCells (rc zrt) n).toList.length = n * 19 := by simp [Builtin.zeroCells, rc_size]
  have hone : ∀ v ∈ (Builtin.zeroCells (rc zrt) n).toList, v.oneCell' = true := by
    intro v hv
    simp only [Builtin.zeroCells, Array.toList_map, List.mem_map] at hv
    obtain ⟨i, _, rfl⟩ := hv
    have hi : i % (rc zrt).size < (rc zrt).size := Nat.mod_lt _ (by rw [rc_size]; decide)
    rw [getElem!_pos (rc zrt) _ hi]
    exact rl_one zrt _ (by simp [rc])
  refine ⟨(Builtin.zeroCells (rc zrt) n).toList, hlen, hone, fun ty => ?_⟩
  have hst := run_storeCells_at Try.prog g o 34 (Builtin.zeroCells (rc zrt) n).toList 0 cur.toArray w h (by rw [hlen]; simpa using hfit) hone
  obtain ⟨i0, e0, e1, e2, e3⟩ := infoR'
  rw [hlen] at hst
  simp only [Nat.add_zero] at hst
  cases n with
  | zero =>
    have : (Builtin.zeroCells (rc zrt) 0).toList = [] := by simp [Builtin.zeroCells]
    rw [this]
    simp only [Nat.zero_mul, Nat.add_zero, List.append_nil, List.take_append_drop]
    rw [setRow_self w g cur.toArray _ _ h]
    simp [Builtin.clear_, run_underlying Try.underlying22]
  | succ n => simp [Builtin.clear_, run_underlying Try.underlying22, zeroValue, typeInfo, e0, e1, Value.cells, hst]

/-- A list that lies in a row of its own: the row, what is behind the list in it, and the row's size. -/
structure OwnAt (w : World) (base : Nat) (g cap : Nat) (l : List Rt) (rest : List Value) : Prop where
  base : base ≤ g
  row : Row w g (fl l ++ rest)
  size : rest.length = (cap - l.length) * 19
  le : l.length ≤ cap
  max : cap ≤ maxLen

theorem OwnAt.own {w : World} {base g cap : Nat} {l : List Rt} {rest : List Value} (h : OwnAt w base g cap l rest) : Own w base (.slice (some ⟨g, 0, none⟩) l.length cap) l :=
  ⟨fl_length l, .inr ⟨g, cap, (fl l ++ rest).toArray, rfl, h.base, h.row, h.le, h.max, by simp [fl_length, h.size]; have := h.le; omega, by
    rw [List.take_append_of_le_length (by rw [fl_length]; exact Nat.le_refl _), List.take_of_length_le (by rw [fl_length]; exact Nat.le_refl _)]⟩⟩
theorem Own.at' {w : World} {base : Nat} {v : Value} {l : List Rt} (h : Own w base v l) : (v = .slice none 0 0 ∧ l = []) ∨ ∃ g cap rest, v = .slice (some ⟨g, 0, none⟩) l.length cap ∧ OwnAt w base g cap l rest := by
  rcases h.2 with ⟨h1, h2⟩ | ⟨g, cap, cur, h1, h2, h3, h4, h5, h6, h7⟩
  · exact .inl ⟨h1, List.length_eq_zero_iff.1 h2⟩
  · refine .inr ⟨g, cap, cur.toList.drop (l.length * 19), h1, h2, ?_, ?_, h4, h5⟩
    · unfold Row
      rw [← h7, List.take_append_drop, Array.toArray_toList]; exact h3
    · rw [List.length_drop, Array.length_toList, h6]; omega
end Go.Proofs.Ytggjcjijoihilaa
namespace Go.Proofs.Ytggjcjijoihilaa
open Go.RowKit Go.Sort Go.Shelf
attribute [local go_sem ↓] loadVar_key loadVar_pre loadVar_route storeVar_pre storeVar_route buildSlice_row

/-- What a call hands back that makes another list of one of the caller's own. -/
def MutPost (w : World) (base : Nat) (v : Value) (l : List Rt) (e : Ending) (w' : World) : Prop := ∃ v', e = .returned v' ∧ Own w' base v' l ∧ w.grownBy w' v.ownBlock

theorem fl_erase (l : List Rt) (i : Nat) : fl (l.take i) ++ fl (l.drop (i + 1)) = fl (l.eraseIdx i) := by
  rw [← fl_append, List.eraseIdx_eq_take_drop_succ]

set_option maxHeartbeats 4000000 in
set_option maxRecDepth 100000 in
theorem delete_any (l : List Rt) (v : Value) (base i : Nat) (w : World) (ho : Own w base v l) (hi : i < l.length) (h16 : l.length ≤ 65536) :
    Calls Try.prog 68 #[v, .int .i64 i, .int .i64 ((i + 1 : Nat) : Int)] w (MutPost w base v (l.eraseIdx i)) := by
  rcases ho.at' with ⟨_, rfl⟩ | ⟨g, cap, rest, rfl, hb, hr, hs, hle, hmx⟩
  · exact absurd hi (Nat.not_lt_zero _)
  · obtain ⟨n, hn⟩ : ∃ n, n = l.length := ⟨_, rfl⟩
    rw [← hn] at hi h16 hle hs ⊢
    have hdrop : (fl (l.drop (i + 1))).length = (n - (i + 1)) * 19 := by rw [fl_length, List.length_drop, hn]
    obtain ⟨news, hnews⟩ : ∃ news, news = fl (l.drop (i + 1)) := ⟨_, rfl⟩
    rw [← hnews] at hdrop
    obtain ⟨A, hA, hsrc⟩ : ∃ A : Addr, (if cap = i + 1 then some (⟨g, 0, none⟩ : Addr) else some ⟨g, (i + 1) * 19, none⟩) = some A ∧ Hid (∀ t u, news[t]? = some u → w.drew.cell? (A.add t) = some u) := by
      by_cases h : cap = i + 1
      · refine ⟨⟨g, 0, none⟩, by simp [h], fun t u hu => ?_⟩
        have h0 : news.length = 0 := by rw [hdrop]; omega
        rw [List.length_eq_zero_iff.1 h0] at hu
        simp at hu
      · refine ⟨⟨g, (i + 1) * 19, none⟩, by simp [h], fun t u hu => ?_⟩
        rw [add_here]
        have := hr.cells ((i + 1) * 19 + t) u (by
          rw [hnews, ← fl_drop, List.getElem?_drop] at hu
          rw [List.getElem?_append_left (List.getElem?_eq_some_iff.1 hu).1]; exact hu)
        rw [add_here, Nat.zero_add] at this
        exact this
    have s1 : Hid (news.length = (n - (i + 1)) * 19) := hdrop
    have s2 : Hid (∀ u ∈ news, u.oneCell' = true) := by rw [hnews]; exact fl_ones _
    have hlen : (fl l ++ rest).length = cap * 19 := by rw [List.length_append, fl_length, hs, ← hn]; omega
    have s3 : Hid (∀ t, t < news.length → (w.drew.cell? ⟨g, 0 + i * 19 + t, none⟩).isSome = true ∧ w.drew.frozen? ⟨g, 0 + i * 19 + t, none⟩ = false) := by
      intro t ht
      rw [hdrop] at ht
      refine ⟨?_, frozen_of hr _⟩
      show (w.cell? _).isSome = true
      rw [cell_of hr, List.getElem?_toArray, List.getElem?_eq_getElem (by rw [hlen]; omega)]; rfl
    have hW1 := setCells_row hr.drew (0 + i * 19) news (by rw [hlen, hdrop]; omega) s2.out
    have hcut : (fl l ++ rest).take (0 + i * 19) ++ news ++ (fl l ++ rest).drop (0 + i * 19 + news.length) = fl (l.eraseIdx i) ++ ((fl l).drop ((n - 1) * 19) ++ rest) := by
      rw [hdrop, Nat.zero_add, List.take_append_of_le_length (by rw [fl_length]; omega), show i * 19 + (n - (i + 1)) * 19 = (n - 1) * 19 by omega, List.drop_append_of_le_length (by rw [fl_length]; omega), fl_take, hnews, fl_erase]
    rw [hcut] at hW1
    have hel : (l.eraseIdx i).length = n - 1 := by rw [List.length_eraseIdx_of_lt (by omega), hn]
    obtain ⟨l2, hl2⟩ : ∃ l2, l2 = l.eraseIdx i := ⟨_, rfl⟩
    obtain ⟨r2, hr2⟩ : ∃ r2, r2 = (fl l).drop ((n - 1) * 19) ++ rest := ⟨_, rfl⟩
    have hr2l : r2.length = (cap - (n - 1)) * 19 := by
      rw [hr2, List.length_append, List.length_drop, fl_length, hs, ← hn]; omega
    rw [← hl2] at hel hW1 ⊢
    rw [← hr2] at hW1
    obtain ⟨W1, hW⟩ : ∃ W1, W1 = w.drew.setCells g (0 + i * 19) news := ⟨_, rfl⟩
    rw [← hW] at hW1
    have R1 : Row W1 g (fl l2 ++ r2) := by rw [hW1]; exact hr.drew.set _
    have G1 : w.grownBy W1 (some g) := by rw [hW1]; exact grown_trans (grown_drew (grown_refl w _)) (grown_setRow _ _ _)
    obtain ⟨m, hm⟩ : ∃ m, m = i + (n - (i + 1)) := ⟨_, rfl⟩
    have hm1 : n - 1 = m := by omega
    rw [hm1] at hel hr2l
    obtain ⟨zs, hz1, hz2, hcl⟩ := run_clearR R1 (m * 19) (n - m) (cap - m) (by rw [List.length_append, fl_length, hel, hr2l]; omega)
    have hfin : OwnAt (W1.setRow g ((fl l2 ++ r2).take (m * 19) ++ zs ++ (fl l2 ++ r2).drop (m * 19 + (n - m) * 19)).toArray) base g cap l2 (zs ++ r2.drop 19) := by
      have e : (fl l2 ++ r2).take (m * 19) ++ zs ++ (fl l2 ++ r2).drop (m * 19 + (n - m) * 19) = fl l2 ++ (zs ++ r2.drop 19) := by
        rw [List.take_append_of_le_length (by rw [fl_length, hel]; exact Nat.le_refl _), List.take_of_length_le (by rw [fl_length, hel]; exact Nat.le_refl _), List.append_assoc]
        congr 2
        rw [List.drop_append, List.drop_of_length_le (by rw [fl_length, hel]; omega), fl_length, hel, List.nil_append]
        congr 1; omega
      rw [e]
      exact ⟨hb, R1.set _, by rw [List.length_append, hz1, List.length_drop, hr2l, hel]; omega, by rw [hel]; omega, hmx⟩
    have hfin2 := hfin.own
    rw [hel] at hfin2
    have G2 : w.grownBy (W1.setRow g ((fl l2 ++ r2).take (m * 19) ++ zs ++ (fl l2 ++ r2).drop (m * 19 + (n - m) * 19)).toArray) (some g) := grown_trans G1 (grown_setRow _ _ _)
    obtain ⟨W2, hW2⟩ : ∃ W2, W2 = W1.setRow g ((fl l2 ++ r2).take (m * 19) ++ zs ++ (fl l2 ++ r2).drop (m * 19 + (n - m) * 19)).toArray := ⟨_, rfl⟩
    rw [← hW2] at hcl hfin2 G2
    have hmn : m ≤ n := by omega
    have hmc : ¬ cap = m := by omega
    rw [hm] at hcl hfin2 hmn hmc
    have HF := Lib.hid hfin2
    have HG := Lib.hid G2
    have HW := Lib.hid hW
    have hiI : (i : Int) < n := by omega
    have hnI : (n : Int) ≤ 65536 := by omega
    have hleI : (n : Int) ≤ cap := by omega
    have hic : i ≤ cap := by omega
    have hjc : i + 1 ≤ cap := by omega
    have hij : ((i : Int) == ((i + 1 : Nat) : Int)) = false := by rw [beq_eq_false_iff_ne]; omega
    obtain ⟨i0, e0, e1, e2, e3⟩ := infoR'
    have E0 := Lib.hid e0
    have E2 := Lib.hid e2
    have hp0 : (0 : Int) ≤ (i : Int) + 1 := by omega
    have hp1 : (i : Int) + 1 ≤ n := by omega
    have mixed : Try.prog.follows .mixedOrders = true := by kernel_rfl
    unfold maxLen at hmx
    clear hfin hfin2 G1 G2 hW hW1 hW2 R1 hcut hlen hr hr2 hr2l hl2 hel hnews hdrop hz1 hz2 hm hm1 e0 e1 e2 e3 hn ho hs
    unfold MutPost
    go_enter Try.func68, Try.ntmps68
    go_wp2_with fail
    go_region_law_o (refine step_append_room rfl (.tmp 22) (.tmp 25) 22 rfl 34 i0 19 Try.underlying22 E0.out E2.out g 0 i cap (by simp [Act.eval, Act.put]) A (n - (i + 1)) (cap - (i + 1)) news (by simp [Act.eval, Act.put]) s1.out hsrc.out s2.out (by omega) s3.out ?_; rw [← HW.out])
    go_wp2
    go_ret
    exact ⟨_, rfl, HF.out, HG.out⟩
end Go.Proofs.Ytggjcjijoihilaa
namespace Go.Proofs.Ytggjcjijoihilaa
open Go.RowKit Go.Sort Go.Shelf
attribute [local go_sem ↓] loadVar_key loadVar_pre loadVar_route storeVar_pre storeVar_route buildSlice_row

def insL (l : List Rt) (i : Nat) (r : Rt) : List Rt := l.take i ++ r :: l.drop i
theorem insL_length (l : List Rt) (i : Nat) (r : Rt) : (insL l i r).length = l.length + 1 := by
  unfold insL; rw [List.length_append, List.length_cons, List.length_take, List.length_drop]; omega
theorem fl_ins (l : List Rt) (i : Nat) (r : Rt) : fl (insL l i r) = fl (l.take i) ++ rl r ++ fl (l.drop i) := by
  unfold insL; rw [fl_append, fl_cons, List.append_assoc]

/-- Cells moved up in place, and others laid where they stood. -/
theorem shift_cells {α : Type} (A B C R : List α) (k : Nat) (hR : R.length = k) (hC : k ≤ C.length) :
    ((A ++ B ++ C).take (A.length + k) ++ B ++ (A ++ B ++ C).drop (A.length + k + B.length)).take A.length ++ R ++ ((A ++ B ++ C).take (A.length + k) ++ B ++ (A ++ B ++ C).drop (A.length + k + B.length)).drop (A.length + k) = A ++ R ++ B ++ C.drop k := by
  have e1 : (A ++ B ++ C).take (A.length + k) = A ++ (B ++ C).take k := by
    rw [List.append_assoc, List.take_append, List.take_of_length_le (Nat.le_add_right _ _), Nat.add_sub_cancel_left]
  have e2 : (A ++ B ++ C).drop (A.length + k + B.length) = C.drop k := by
    rw [List.drop_append, List.drop_of_length_le (by rw [List.length_append]; omega), List.nil_append]
    congr 1; rw [List.length_append]; omega
  have e3 : ((B ++ C).take k).length = k := by rw [List.length_take, List.length_append]; omega
  rw [e1, e2]
  have e4 : (A ++ (B ++ C).take k ++ B ++ C.drop k).take A.length = A := by simp
  have e5 : (A ++ (B ++ C).take k ++ B ++ C.drop k).drop (A.length + k) = B ++ C.drop k := by
    rw [List.append_assoc, List.drop_append, List.drop_of_length_le (by rw [List.length_append, e3]; exact Nat.le_refl _), List.length_append, e3, Nat.sub_self, List.drop_zero, List.nil_append]
  rw [e4, e5]
  simp

theorem own_block {v : Value} {w : World} {base g cap : Nat} {l : List Rt} {rest : List Value} (hv : v = .slice (some ⟨g, 0, none⟩) l.length cap) (_ : OwnAt w base g cap l rest) : v.ownBlock = some g := by rw [hv]; rfl

set_option maxHeartbeats 4000000 in
set_option maxRecDepth 100000 in
/-- At the end. -/
theorem insert_end (l : List Rt) (v : Value) (base x : Nat) (r : Rt) (w : World) (ho : Own w base v l) (h16 : l.length ≤ 65536) (hbase : base ≤ w.heap.size)
    (hx : CellsAt w ⟨x, 0, none⟩ (rl r)) :
    Calls Try.prog 69 #[v, .int .i64 (l.length : Nat), .slice (some ⟨x, 0, none⟩) 1 1] w (MutPost w base v (l ++ [r])) := by
  obtain ⟨i0, e0, e1, e2, e3⟩ := infoR'
  have H0 := Lib.hid e0
  have H1 := Lib.hid e1
  have H2 := Lib.hid e2
  have H3 := Lib.hid e3
  have HX := Lib.hid hx
  have HO := Lib.hid ho
  rcases ho.at' with ⟨rfl, rfl⟩ | ⟨g, cap, rest, rfl, hb, hr, hs, hle, hmx⟩
  · clear e0 e1 e2 e3 hx ho
    unfold MutPost
    go_enter Try.func69, Try.ntmps69
    go_wp2_with (at_builtin; refine wpList_append_own _ rfl _ _ 22 rfl base 34 i0 (.agg (rc zrt)) 19 40 Try.underlying22 H0.out H1.out H2.out H3.out (rc_size _) (by decide) _ 0 [] rfl HO.out ⟨x, 0, none⟩ 1 1 (rl r) rfl (rl_length r) HX.out (rl_one r) (by simp [maxLen]) (by decide) hbase ?_)
    intro v' w3 hown' hg _
    have hown3 : Own w3 base v' [r] := by unfold Own; rw [fl_one]; exact hown'
    clear hown'
    go_wp2
    go_ret
    exact ⟨_, rfl, hown3, hg⟩
  · obtain ⟨n, hn⟩ : ∃ n, n = l.length := ⟨_, rfl⟩
    rw [← hn] at h16 hle ho HO ⊢
    have hleI : (n : Int) ≤ cap := by omega
    unfold maxLen at hmx
    have hcI : (cap : Int) ≤ 9223372036854775807 := by omega
    have HN := Lib.hid hn
    have h16I : (n : Int) ≤ 65536 := by omega
    clear e0 e1 e2 e3 hx hr hs hn ho
    unfold MutPost
    go_enter Try.func69, Try.ntmps69
    go_wp2_with (at_builtin; refine wpList_append_own _ rfl _ _ 22 rfl base 34 i0 (.agg (rc zrt)) 19 40 Try.underlying22 H0.out H1.out H2.out H3.out (rc_size _) (by decide) _ n (fl l) rfl (by have h := HO.out; unfold Own at h; rw [← HN.out] at h; exact h) ⟨x, 0, none⟩ 1 1 (rl r) rfl (rl_length r) HX.out (rl_one r) (by simp only [maxLen]; omega) (by omega) hbase ?_)
    all_goals
      intro v' w3 hown' hg _
      have hown3 : Own w3 base v' (l ++ [r]) := by unfold Own; rw [List.length_append, ← HN.out, fl_append, fl_one]; exact hown'
      clear hown'
      go_wp2
      go_ret
      exact ⟨_, rfl, hown3, hg⟩

set_option maxHeartbeats 4000000 in
set_option maxRecDepth 100000 in
/-- There is room: in place. -/
theorem insert_room (l : List Rt) (base g cap : Nat) (rest : List Value) (x i : Nat) (r : Rt) (w : World) (ho : OwnAt w base g cap l rest) (hi : i < l.length) (h16 : l.length ≤ 65536) (hroom : l.length + 1 ≤ cap)
    (hx : w.heap[x]? = some (.cells (rc r) 34 (0, 0))) (hxg : x ≠ g) :
    Calls Try.prog 69 #[.slice (some ⟨g, 0, none⟩) l.length cap, .int .i64 i, .slice (some ⟨x, 0, none⟩) 1 1] w (MutPost w base (.slice (some ⟨g, 0, none⟩) l.length cap) (insL l i r)) := by
  obtain ⟨hb, hr, hs, hle, hmx⟩ := ho
  obtain ⟨n, hn⟩ : ∃ n, n = l.length := ⟨_, rfl⟩
  have hlen2 := insL_length l i r
  have hfl := fl_ins l i r
  have hA : (fl (l.take i)).length = i * 19 := by rw [fl_length, List.length_take]; congr 1; omega
  have hB : (fl (l.drop i)).length = (n - i) * 19 := by rw [fl_length, List.length_drop, hn]
  have hAB : fl l = fl (l.take i) ++ fl (l.drop i) := by rw [← fl_append, List.take_append_drop]
  have onesB := fl_ones (l.drop i)
  rw [← hn] at hi h16 hroom hs hle hlen2 ⊢
  obtain ⟨L2, hL2⟩ : ∃ L2, L2 = insL l i r := ⟨_, rfl⟩
  rw [← hL2] at hlen2 hfl ⊢
  obtain ⟨A, eA⟩ : ∃ A, A = fl (l.take i) := ⟨_, rfl⟩
  obtain ⟨B, eB⟩ : ∃ B, B = fl (l.drop i) := ⟨_, rfl⟩
  rw [← eA, ← eB] at hAB hfl
  rw [← eA] at hA
  rw [← eB] at hB onesB
  rw [hAB] at hr
  have hx0 : CellsAt w ⟨x, 0, none⟩ (rl r) := fun j u hu => by
    rw [add_here, cell_of hx]; simpa [rc] using hu
  have hov : ∀ lb cb, (callFunc 79 #[.slice (some ⟨x, 0, none⟩) 1 1, .slice (some ⟨g, (i + 1) * 19, none⟩) lb cb]).run Try.prog w = .ok (.value (.bool false)) w := fun lb cb => by
    rw [run_callFunc_extern Try.func79 (by kernel_rfl) (by kernel_rfl) (by kernel_rfl) (e := Extern.SlicesOverlaps.overlaps #[22, 22] #[4]) (by kernel_rfl),
      Lib.run_overlaps_apart w 22 4 34 Try.underlying22 19 Try.sizeOf34 ⟨x, 0, none⟩ ⟨g, (i + 1) * 19, none⟩ 1 1 lb cb hxg 34 34 19 (A ++ B ++ rest).length (by simp [World.shape?, hx, rc_size]) (by
        have hr' : w.heap[g]? = _ := hr
        simp [World.shape?, hr']) (by rw [List.length_append, List.length_append, hA, hB, hs]; omega) (frozen_of hx _) (frozen_of hx _)]
    rfl
  have hcp1 := fun ty dc sc => run_copyR hr.drew ty ((i + 1) * 19) (n - i) dc ⟨g, i * 19, none⟩ (n + 1 - i) sc (n - i) B (by simp only [Nat.min_def]; split <;> omega) hB (fun j u hu => by
    rw [add_here]
    have h := hr.cells (i * 19 + j) u (by
      have hj := (List.getElem?_eq_some_iff.1 hu).1
      rw [List.getElem?_append_left (by rw [List.length_append]; omega), List.getElem?_append_right (by omega), hA, Nat.add_sub_cancel_left]; exact hu)
    rw [add_here, Nat.zero_add] at h
    exact h) (by rw [List.length_append, List.length_append, hA, hB, hs]; omega) onesB
  obtain ⟨cur1, hc1⟩ : ∃ cur1, cur1 = (A ++ B ++ rest).take ((i + 1) * 19) ++ B ++ (A ++ B ++ rest).drop ((i + 1) * 19 + B.length) := ⟨_, rfl⟩
  have hl1 : cur1.length = cap * 19 := by
    rw [hc1]
    simp only [List.length_append, List.length_take, List.length_drop, hA, hB, hs]
    omega
  have hsh := shift_cells A B rest (rl r) 19 (rl_length r) (by rw [hs]; omega)
  rw [hA, show i * 19 + 19 = (i + 1) * 19 by omega] at hsh
  rw [← hc1] at hcp1 hsh
  obtain ⟨W1, hW1⟩ : ∃ W1, W1 = w.drew.setRow g cur1.toArray := ⟨_, rfl⟩
  rw [← hW1] at hcp1
  have R1 : Row W1 g cur1 := by rw [hW1]; exact hr.drew.set _
  have G1 : w.grownBy W1 (some g) := by rw [hW1]; exact grown_trans (grown_drew (grown_refl w _)) (grown_setRow _ _ _)
  have hx1 : CellsAt W1 ⟨x, 0, none⟩ (rl r) := fun j u hu => (G1.cell (hx0 j u hu) (by rw [add_block]; intro e; injection e with e; exact hxg e))
  have hcp2 := fun ty dc => run_copyR R1 ty (i * 19) (n + 1 - i) dc ⟨x, 0, none⟩ 1 1 1 (rl r) (by simp only [Nat.min_def]; split <;> omega) (rl_length r) hx1 (by rw [rl_length, hl1]; omega) (rl_one r)
  rw [rl_length, show i * 19 + 19 = (i + 1) * 19 by omega, hsh, ← hfl] at hcp2
  have hfin : OwnAt (W1.setRow g (fl L2 ++ rest.drop 19).toArray) base g cap L2 (rest.drop 19) := ⟨hb, R1.set _, by rw [List.length_drop, hs, hlen2]; omega, by omega, hmx⟩
  have hfin2 := hfin.own
  rw [hlen2] at hfin2
  have G2 : w.grownBy (W1.setRow g (fl L2 ++ rest.drop 19).toArray) (some g) := grown_trans G1 (grown_setRow _ _ _)
  obtain ⟨W2, hW2⟩ : ∃ W2, W2 = W1.setRow g (fl L2 ++ rest.drop 19).toArray := ⟨_, rfl⟩
  rw [← hW2] at hcp2 hfin2 G2
  have HF := Lib.hid hfin2
  have HG := Lib.hid G2
  have hiI : (i : Int) < n := by omega
  have hnI : (n : Int) ≤ 65536 := by omega
  have hrI : (n : Int) + 1 ≤ cap := by omega
  have hw1 : IntKind.i64.wrap ((i : Int) + 1) = (i : Int) + 1 := by rw [IntKind.wrap_i64]; omega
  have hb1 : (0 : Int) ≤ (i : Int) + 1 := by omega
  have htn : ((i : Int) + 1).toNat = i + 1 := by omega
  have hb2 : ¬ (cap = i + 1) := by omega
  have hb3 : (i : Int) + 1 ≤ (n : Int) + 1 := by omega
  have hb4 : ¬ (cap = i) := by omega
  have hb5 : (i : Int) ≤ (n : Int) + 1 := by omega
  have hne : ((i : Int) == (n : Int)) = false := by rw [beq_eq_false_iff_ne]; omega
  have mixed : Try.prog.follows .mixedOrders = true := by kernel_rfl
  unfold maxLen at hmx
  have hcI : (cap : Int) ≤ 9223372036854775807 := by omega
  clear hfin hfin2 G1 G2 hW1 hW2 R1 hsh hc1 hl1 hr hs hA hB hAB hfl eA eB hL2 hx0 hx1 hx onesB hlen2 hn hb hle
  unfold MutPost
  go_enter Try.func69, Try.ntmps69
  go_wp2_with (simp only [hov])
  go_region_law_o (refine step_copy_runI rfl _ _ 22 22 rfl _ _ (by simp [Act.eval, Act.put]) (by simp [Act.eval, Act.put]) (hcp1 _ _ _) ?_)
  go_wp2
  go_ret
  exact ⟨_, rfl, HF.out, HG.out⟩

set_option maxHeartbeats 4000000 in
set_option maxRecDepth 100000 in
/-- There is no room: a new row. -/
theorem insert_grow (l : List Rt) (base g cap : Nat) (rest : List Value) (x i : Nat) (r : Rt) (w : World) (ho : OwnAt w base g cap l rest) (hi : i < l.length) (h16 : l.length ≤ 65536) (hroom : cap < l.length + 1) (hbase : base ≤ w.heap.size)
    (hx : w.heap[x]? = some (.cells (rc r) 34 (0, 0))) :
    Calls Try.prog 69 #[.slice (some ⟨g, 0, none⟩) l.length cap, .int .i64 i, .slice (some ⟨x, 0, none⟩) 1 1] w (MutPost w base (.slice (some ⟨g, 0, none⟩) l.length cap) (insL l i r)) := by
  obtain ⟨hb, hr, hs, hle, hmx⟩ := ho
  obtain ⟨n, hn⟩ : ∃ n, n = l.length := ⟨_, rfl⟩
  have hlen2 := insL_length l i r
  have hfl := fl_ins l i r
  have hA : (fl (l.take i)).length = i * 19 := by rw [fl_length, List.length_take]; congr 1; omega
  have hB : (fl (l.drop i)).length = (n - i) * 19 := by rw [fl_length, List.length_drop, hn]
  have hAB : fl l = fl (l.take i) ++ fl (l.drop i) := by rw [← fl_append, List.take_append_drop]
  have onesB := fl_ones (l.drop i)
  rw [← hn] at hi h16 hroom hs hle hlen2 ⊢
  obtain ⟨L2, hL2⟩ : ∃ L2, L2 = insL l i r := ⟨_, rfl⟩
  rw [← hL2] at hlen2 hfl ⊢
  obtain ⟨A, eA⟩ : ∃ A, A = fl (l.take i) := ⟨_, rfl⟩
  obtain ⟨B, eB⟩ : ∃ B, B = fl (l.drop i) := ⟨_, rfl⟩
  rw [← eA, ← eB] at hAB hfl
  rw [← eA] at hA
  rw [← eB] at hB onesB
  rw [hAB] at hr
  obtain rfl : cap = n := by omega
  have hx0 : CellsAt w ⟨x, 0, none⟩ (rl r) := fun j u hu => by
    rw [add_here, cell_of hx]; simpa [rc] using hu
  obtain ⟨i0, e0, e1, e2, e3⟩ := infoR'
  have hold : (Builtin.firstCells i0.size i (.slice (some ⟨g, 0, none⟩) i cap)).run Try.prog w.drew = .ok A.toArray w.drew := by
    rw [e2]
    exact run_firstCells_some w.drew 19 i ⟨g, 0, none⟩ i cap A hA (fun j u hu => hr.cells j u (by
      have hj := (List.getElem?_eq_some_iff.1 hu).1
      rw [List.append_assoc, List.getElem?_append_left hj]; exact hu))
  have hik : i + (cap + 1 - i) = cap + 1 := by omega
  have hgf : Builtin.nextslicecap (cap + 1) cap * i0.bytes ≤ 281474976710656 := by
    rw [e3]; exact growslice_fits (by omega) (by omega)
  have hrz : ∀ ty, (Builtin.append_ #[22, 3] ty #[.slice (some ⟨g, 0, none⟩) i cap, .int .i64 ((cap : Int) + 1 - (i : Int))]).run Try.prog w = .ok (.slice (some ⟨w.heap.size, 0, none⟩) (cap + 1) (grownCap w (cap + 1) cap 34))
      (w.drew.alloc (.cells (A.toArray ++ Builtin.zeroCells (rc zrt) (cap + 1 - i) ++ Builtin.zeroCells (rc zrt) (grownCap w (cap + 1) cap 34 - (cap + 1))) 34)) := fun ty => by
    have h := Lib.run_append_grow_zeros w 22 3 ty 34 i0 _ .i64 .i64 Try.underlying22 Try.underlying3 e0 e1 (some ⟨g, 0, none⟩) i cap A hold (cap + 1 - i) (by omega) (by rw [e2]; decide) (by omega) (by omega) (by rw [e3]; omega) (by rw [hik]; exact hgf)
    rw [hik] at h
    rw [show (cap : Int) + 1 - (i : Int) = ((cap + 1 - i : Nat) : Int) by omega]
    exact h
  have hG1 : cap + 1 ≤ grownCap w (cap + 1) cap 34 := grownCap_ge w _ _ _
  have hG2 : grownCap w (cap + 1) cap 34 ≤ maxLen := grownCap_le_maxLen w _ _ _ (by unfold maxLen; omega)
  obtain ⟨G, hG⟩ : ∃ G, G = grownCap w (cap + 1) cap 34 := ⟨_, rfl⟩
  rw [← hG] at hrz hG1 hG2
  have hzl : ∀ k, (Builtin.zeroCells (rc zrt) k).toList.length = k * 19 := fun k => by simp [Builtin.zeroCells, rc_size]
  obtain ⟨Z, hZ⟩ : ∃ Z, Z = (Builtin.zeroCells (rc zrt) (cap + 1 - i)).toList ++ (Builtin.zeroCells (rc zrt) (G - (cap + 1))).toList := ⟨_, rfl⟩
  have hZl : Z.length = (G - i) * 19 := by rw [hZ, List.length_append, hzl, hzl]; omega
  have hrow : A.toArray ++ Builtin.zeroCells (rc zrt) (cap + 1 - i) ++ Builtin.zeroCells (rc zrt) (G - (cap + 1)) = (A ++ Z).toArray := by
    rw [hZ]
    apply Array.toList_inj.1
    simp
  rw [hrow] at hrz
  obtain ⟨W1, hW1⟩ : ∃ W1, W1 = w.drew.alloc (.cells (A ++ Z).toArray 34) := ⟨_, rfl⟩
  rw [← hW1] at hrz
  have R1 : Row W1 w.heap.size (A ++ Z) := by rw [hW1]; exact Go.heap_alloc_new w.drew _
  have B1 : Below w.heap.size w W1 := by rw [hW1]; exact ((Below.refl _ w).drew).alloc (Nat.le_refl _) _
  -- the new route
  have hcp1 : ∀ (W : World), W.heap = W1.heap → ∀ ty dc, (Builtin.copy_ #[22, 22] ty #[.slice (some ⟨w.heap.size, i * 19, none⟩) (cap + 1 - i) dc, .slice (some ⟨x, 0, none⟩) 1 1]).run Try.prog W = .ok (goInt 1) (W.setRow w.heap.size (A ++ rl r ++ Z.drop 19).toArray) := fun W hh ty dc => by
    have h := run_copyR (w := W) (g := w.heap.size) (cur := A ++ Z) (by unfold Row; rw [hh]; exact R1) ty (i * 19) (cap + 1 - i) dc ⟨x, 0, none⟩ 1 1 1 (rl r) (by simp only [Nat.min_def]; split <;> omega) (rl_length r) (fun j u hu => by
      have := (hx0.later B1) j u hu
      simpa [World.cell?, hh] using this) (by rw [List.length_append, rl_length, hA, hZl]; omega) (rl_one r)
    rw [rl_length, List.take_append_of_le_length (by omega), List.take_of_length_le (by omega), ← hA, List.drop_append, List.drop_of_length_le (by omega), Nat.add_sub_cancel_left, List.nil_append] at h
    rw [← hA]; exact h
  obtain ⟨W2, hW2⟩ : ∃ W2, W2 = W1.setRow w.heap.size (A ++ rl r ++ Z.drop 19).toArray := ⟨_, rfl⟩
  have R2 : Row W2 w.heap.size (A ++ rl r ++ Z.drop 19) := by rw [hW2]; exact R1.set _
  have B2 : Below w.heap.size w W2 := by rw [hW2]; exact below_setRow B1 (Nat.le_refl _) _
  have hZd : (Z.drop 19).length = (G - i) * 19 - 19 := by rw [List.length_drop, hZl]
  have hcp2 : ∀ (W : World), W.heap = W2.heap → ∀ ty dc sc, (Builtin.copy_ #[22, 22] ty #[.slice (some ⟨w.heap.size, (i + 1) * 19, none⟩) (cap - i) dc, .slice (some ⟨g, i * 19, none⟩) (cap - i) sc]).run Try.prog W = .ok (goInt (cap - i : Nat)) (W.setRow w.heap.size (fl L2 ++ (Z.drop 19).drop ((cap - i) * 19)).toArray) := fun W hh ty dc sc => by
    have h := run_copyR (w := W) (g := w.heap.size) (cur := A ++ rl r ++ Z.drop 19) (by unfold Row; rw [hh]; exact R2) ty ((i + 1) * 19) (cap - i) dc ⟨g, i * 19, none⟩ (cap - i) sc (cap - i) B (by simp only [Nat.min_def]; split <;> omega) hB (fun j u hu => by
      rw [add_here]
      have h1 := (hr.later B2).cells (i * 19 + j) u (by
        have hj := (List.getElem?_eq_some_iff.1 hu).1
        rw [List.getElem?_append_left (by rw [List.length_append]; omega), List.getElem?_append_right (by omega), hA, Nat.add_sub_cancel_left]; exact hu)
      rw [add_here, Nat.zero_add] at h1
      simpa [World.cell?, hh] using h1) (by rw [List.length_append, List.length_append, rl_length, hA, hB, hZd]; omega) onesB
    have hAr : (A ++ rl r).length = (i + 1) * 19 := by rw [List.length_append, hA, rl_length]; omega
    rw [List.take_append_of_le_length (by omega), List.take_of_length_le (by omega), List.drop_append, List.drop_of_length_le (by omega), List.nil_append, hAr, Nat.add_sub_cancel_left, hB, ← hfl] at h
    exact h
  have hfin : ∀ W : World, W.heap = W2.heap → W.os = W2.os → W.tape = W2.tape → W.output = W2.output → MutPost w base (.slice (some ⟨g, 0, none⟩) cap cap) L2 (.returned (.slice (some ⟨w.heap.size, 0, none⟩) (cap + 1) G)) (W.setRow w.heap.size (fl L2 ++ (Z.drop 19).drop ((cap - i) * 19)).toArray) := fun W hh h1 h2 h3 => by
    have R3 : Row W w.heap.size (A ++ rl r ++ Z.drop 19) := by unfold Row; rw [hh]; exact R2
    have hO : OwnAt (W.setRow w.heap.size (fl L2 ++ (Z.drop 19).drop ((cap - i) * 19)).toArray) base w.heap.size G L2 ((Z.drop 19).drop ((cap - i) * 19)) :=
      ⟨hbase, R3.set _, by rw [List.length_drop, hZd, hlen2]; omega, by rw [hlen2]; exact hG1, hG2⟩
    have hO2 := hO.own
    rw [hlen2] at hO2
    refine ⟨_, rfl, hO2, grown_below ?_ _⟩
    have B3 : Below w.heap.size w W := ⟨h1.trans B2.os, h2.trans B2.tape, h3.trans B2.output, by rw [hh]; exact B2.size, fun k hk => by rw [hh]; exact B2.block k hk⟩
    exact below_setRow B3 (Nat.le_refl _) _
  have HFIN := Lib.hid hfin
  have c1 := hcp1 W1 rfl
  obtain ⟨X, hX⟩ : ∃ X, X = A ++ rl r ++ Z.drop 19 := ⟨_, rfl⟩
  obtain ⟨Y, hY⟩ : ∃ Y, Y = fl L2 ++ (Z.drop 19).drop ((cap - i) * 19) := ⟨_, rfl⟩
  rw [← hX] at c1 hW2
  have c2 := hcp2 ((W1.setRow w.heap.size X.toArray).drew) (by rw [hW2]; rfl)
  rw [← hY] at c2 HFIN
  have HW2 := Lib.hid hW2
  have hiI : (i : Int) < cap := by omega
  have hnI : (cap : Int) ≤ 65536 := by omega
  have hw1 : IntKind.i64.wrap ((i : Int) + 1) = (i : Int) + 1 := by rw [IntKind.wrap_i64]; omega
  have hb1 : (0 : Int) ≤ (i : Int) + 1 := by omega
  have htn : ((i : Int) + 1).toNat = i + 1 := by omega
  have hb3 : (i : Int) + 1 ≤ (cap : Int) + 1 := by omega
  have hb4 : ¬ (cap = i) := by omega
  have hb5 : (i : Int) ≤ (cap : Int) + 1 := by omega
  have hb6 : ¬ (G = i) := by omega
  have hb8 : (i : Int) ≤ (cap : Int) := by omega
  have hb7 : ¬ (G = i + 1) := by omega
  have hne : ((i : Int) == (cap : Int)) = false := by rw [beq_eq_false_iff_ne]; omega
  have mixed : Try.prog.follows .mixedOrders = true := by kernel_rfl
  unfold maxLen at hG2
  have hcI : (G : Int) ≤ 9223372036854775807 := by omega
  clear hX hY hfin hcp1 hcp2 hW1 hW2 R1 R2 B1 B2 hr hs hA hB hAB hfl eA eB hL2 hx0 hx onesB hlen2 hn hb hZ hZl hZd hrow hzl hG e0 e1 e2 e3 hold hik hgf hmx hle hroom
  go_enter Try.func69, Try.ntmps69
  go_wp2_with (at_builtin; refine Lib.wpList_append_run _ rfl _ _ _ _ rfl _ _ rfl rfl _ _ (hrz _) ?_)
  go_big_region_o
  go_wp2
  go_ret
  exact HFIN.out _ (by rw [HW2.out]; rfl) (by rw [HW2.out]; rfl) (by rw [HW2.out]; rfl) (by rw [HW2.out]; rfl)

/-- Wherever, and whatever room there is. -/
theorem insert_any (l : List Rt) (v : Value) (base x i : Nat) (r : Rt) (w : World) (ho : Own w base v l) (hi : i ≤ l.length) (h16 : l.length ≤ 65536) (hbase : base ≤ w.heap.size)
    (hx : w.heap[x]? = some (.cells (rc r) 34 (0, 0))) (hxv : v.ownBlock ≠ some x) :
    Calls Try.prog 69 #[v, .int .i64 i, .slice (some ⟨x, 0, none⟩) 1 1] w (MutPost w base v (insL l i r)) := by
  by_cases h : i = l.length
  · subst h
    have e : insL l l.length r = l ++ [r] := by unfold insL; simp
    rw [e]
    exact insert_end l v base x r w ho h16 hbase (fun j u hu => by rw [add_here, cell_of hx]; simpa [rc] using hu)
  · rcases ho.at' with ⟨_, rfl⟩ | ⟨g, cap, rest, rfl, hat⟩
    · exfalso; simp at hi; exact h hi
    · by_cases hc : l.length + 1 ≤ cap
      · exact insert_room l base g cap rest x i r w hat (by omega) h16 hc hx (fun e => hxv (by rw [e]; rfl))
      · exact insert_grow l base g cap rest x i r w hat (by omega) h16 (by omega) hbase hx
end Go.Proofs.Ytggjcjijoihilaa
