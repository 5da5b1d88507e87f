/- The fixed answers with which each statement of layer 3 begins: all of them hold. -/
import Derived.Test.YtcpdpcfejpbdpaaTabBest
import Derived.Test.YtcpdpcfejpbdpaaTabSort
import Derived.Test.YtcpdpcfejpbdpaaTabApply
namespace Go.Proofs.Ytcpdpcfejpbdpaa
open Go.RowKit Go.Sort Go.Shelf
attribute [local go_sem ↓] loadVar_key loadVar_pre loadVar_route storeVar_pre storeVar_route build_pre build_route

/-! ### Two lists in order that find the same are the same -/
theorem find_mem {l : List Rt} (h : Good l) {r : Rt} (hr : r ∈ l) : findP l r.pre = some r := by
  unfold findP
  induction l with
  | nil => cases hr
  | cons s l ih =>
    rw [List.find?_cons]
    rcases List.mem_cons.1 hr with rfl | hr'
    · rw [preEq_refl]
    · have h1 := (List.pairwise_cons.1 h.ord).1 r hr'
      have : preEq s.pre r.pre = false := by
        cases e : preEq s.pre r.pre with
        | false => rfl
        | true => rw [rt_pre_ext e, less_irrefl] at h1; cases h1
      rw [this]; exact ih h.tail hr'
theorem mem_find {l : List Rt} {p : Pre} {r : Rt} (h : findP l p = some r) : r ∈ l ∧ preEq r.pre p = true := by
  unfold findP at h
  exact ⟨List.mem_of_find?_eq_some h, by simpa using List.find?_some h⟩
theorem good_same : ∀ {l m : List Rt}, Good l → Good m → (∀ r, r ∈ l ↔ r ∈ m) → l = m
  | [], [], _, _, _ => rfl
  | [], b :: m, _, _, h => by have := (h b).2 (by simp); cases this
  | a :: l, [], _, _, h => by have := (h a).1 (by simp); cases this
  | a :: l, b :: m, hl, hm, h => by
    have hal := (List.pairwise_cons.1 hl.ord).1
    have hbm := (List.pairwise_cons.1 hm.ord).1
    have hab : a = b := by
      rcases List.mem_cons.1 ((h a).1 (by simp)) with e | e
      · exact e
      · rcases List.mem_cons.1 ((h b).2 (by simp)) with e' | e'
        · exact e'.symm
        · have h1 := hbm a e
          have h2 := hal b e'
          rw [less_asymm h1] at h2; cases h2
    subst hab
    congr 1
    refine good_same hl.tail hm.tail fun r => ⟨fun hr => ?_, fun hr => ?_⟩
    · rcases List.mem_cons.1 ((h r).1 (List.mem_cons_of_mem _ hr)) with e | e
      · subst e; have := hal r hr; rw [less_irrefl] at this; cases this
      · exact e
    · rcases List.mem_cons.1 ((h r).2 (List.mem_cons_of_mem _ hr)) with e | e
      · subst e; have := hbm r hr; rw [less_irrefl] at this; cases this
      · exact e
theorem good_ext {l m : List Rt} (hl : Good l) (hm : Good m) (h : ∀ p, findP l p = findP m p) : l = m :=
  good_same hl hm fun r => ⟨fun hr => (mem_find ((h r.pre).symm.trans (find_mem hl hr))).1, fun hr => (mem_find ((h r.pre).trans (find_mem hm hr))).1⟩

/-! ### The values -/
theorem few_out (l : List Nat) (hl : l.length ≤ 16) : ∀ i, 16 ≤ i → few l i = 0 := fun i hi => by
  unfold few; rw [List.getD_eq_getElem?_getD, List.getElem?_eq_none (by omega)]; rfl
def kA : Nat → Nat := few [10]
def kB : Nat → Nat := few [10, 1]
def kC : Nat → Nat := few [10, 1, 2, 3]
theorem kA_bytes : Bytes16 kA := few_bytes _ (by decide)
theorem kB_bytes : Bytes16 kB := few_bytes _ (by decide)
theorem kC_bytes : Bytes16 kC := few_bytes _ (by decide)
def rtA : Rt := ⟨⟨32, 8, kA⟩, 1, kA_bytes, few_out _ (by decide), by decide⟩
def rtB : Rt := ⟨⟨32, 16, kB⟩, 2, kB_bytes, few_out _ (by decide), by decide⟩

theorem aw_apply : applyL [] [⟨rtB, false⟩, ⟨rtA, false⟩] = ([rtA, rtB], 0) := by kernel_rfl
theorem aw_best : bestL [rtA, rtB] kC 32 = (rtB, 0) := by kernel_rfl
theorem aw_get : getL [rtA, rtB] ⟨32, 8, kA⟩ = (1, 0) := by kernel_rfl
theorem aw_right : rightB [rtA, rtB] = true := by kernel_rfl
theorem aw_under : underL [rtA, rtB] ⟨32, 8, kA⟩ = [rtA, rtB] := by kernel_rfl
theorem aw_may : mayL [rtB, rtB] = [rtB, rtB] := by kernel_rfl
theorem aw_good : mayB rtB.pre = true := by kernel_rfl
theorem aw_sort {out : List Rt} (h : SortSpec [rtB, rtB] out) : out = [rtB] := by
  refine good_ext h.good (Good.nil.cons aw_good (by simp)) fun p => ?_
  rw [h.find, aw_may]
  unfold findP
  simp only [List.reverse_cons, List.reverse_nil, List.nil_append, List.cons_append, List.find?_cons, List.find?_nil]
  cases preEq rtB.pre p <;> rfl

/-! ### Composites, behind names -/
def keyBuild (parts : Array (Nat × Value)) : Sem Value := Instr.build 24 parts
theorem build_key (parts : Array (Nat × Value)) : Instr.build 24 parts = keyBuild parts := rfl
def changeBuild (parts : Array (Nat × Value)) : Sem Value := Instr.build 52 parts
theorem build_change (parts : Array (Nat × Value)) : Instr.build 52 parts = changeBuild parts := rfl
def rowsBuild (n : Nat) (parts : Array (Nat × Value)) : Sem Value := Instr.buildSlice 22 n parts
theorem buildSlice_rows (n : Nat) (parts : Array (Nat × Value)) : Instr.buildSlice 22 n parts = rowsBuild n parts := rfl
def chsBuild (n : Nat) (parts : Array (Nat × Value)) : Sem Value := Instr.buildSlice 27 n parts
theorem buildSlice_chs (n : Nat) (parts : Array (Nat × Value)) : Instr.buildSlice 27 n parts = chsBuild n parts := rfl
attribute [local go_sem ↓] build_key build_change buildSlice_rows buildSlice_chs

theorem run_keyA (w : World) : (keyBuild #[(0, .int .u8 10)]).run Try.prog w = .ok (.agg (kc kA)) w := by kernel_rfl
theorem run_keyB (w : World) : (keyBuild #[(0, .int .u8 10), (1, .int .u8 1)]).run Try.prog w = .ok (.agg (kc kB)) w := by kernel_rfl
theorem run_keyC (w : World) : (keyBuild #[(0, .int .u8 10), (1, .int .u8 1), (2, .int .u8 2), (3, .int .u8 3)]).run Try.prog w = .ok (.agg (kc kC)) w := by kernel_rfl
theorem run_routeBuild (r : Rt) (w : World) : (routeBuild #[(0, .agg (pc r.pre)), (1, .int .u16 (r.hop : Nat))]).run Try.prog w = .ok (.agg (rc r)) w := by kernel_rfl
theorem run_routeBuildP (r : Rt) (w : World) : (routeBuild #[(0, .agg (pc r.pre))]).run Try.prog w = .ok (.agg (rc { r with hop := 0, hh := by decide })) w := by kernel_rfl
theorem run_changeBuild (r : Rt) (w : World) : (changeBuild #[(0, .agg (rc r))]).run Try.prog w = .ok (.agg (cc ⟨r, false⟩)) w := by kernel_rfl
theorem run_changeBuildG (r : Rt) (w : World) : (changeBuild #[(0, .agg (rc r)), (1, .bool true)]).run Try.prog w = .ok (.agg (cc ⟨r, true⟩)) w := by kernel_rfl

theorem infoC : (Try.prog.info? 52).map (fun i => (i.zero, i.size)) = some (some (.agg (cc ⟨zrt, false⟩)), 20) := by kernel_rfl
theorem infoC' : ∃ i, Try.prog.info? 52 = some i ∧ i.zero = some (.agg (cc ⟨zrt, false⟩)) ∧ i.size = 20 := by
  cases h : Try.prog.info? 52 with
  | none => have := infoC; rw [h] at this; cases this
  | some i => have := infoC; rw [h] at this; simp at this; exact ⟨i, rfl, this.1, this.2⟩
theorem run_rows2 (a b : Rt) (w : World) : (rowsBuild 2 #[(0, .agg (rc a)), (1, .agg (rc b))]).run Try.prog w = .ok (.slice (some ⟨w.heap.size, 0, none⟩) 2 2) (w.alloc (.cells (fl [a, b]).toArray 34)) := by
  obtain ⟨i, h0, h1, h2, h3⟩ := infoR'
  exact run_buildSlice w 22 34 2 _ (fl [a, b]).toArray i _ Try.underlying22 h0 h1 (by rw [h2]; decide) (by rw [h2]; decide) (by rw [h2]; kernel_rfl)
theorem run_chs2 (a b : Ch) (w : World) : (chsBuild 2 #[(0, .agg (cc a)), (1, .agg (cc b))]).run Try.prog w = .ok (.slice (some ⟨w.heap.size, 0, none⟩) 2 2) (w.alloc (.cells (fc [a, b]).toArray 52)) := by
  obtain ⟨i, h0, h1, h2⟩ := infoC'
  exact run_buildSlice w 27 52 2 _ (fc [a, b]).toArray i _ Try.underlying27 h0 h1 (by rw [h2]; decide) (by rw [h2]; decide) (by rw [h2]; kernel_rfl)
theorem run_chs1 (a : Ch) (w : World) : (chsBuild 1 #[(0, .agg (cc a))]).run Try.prog w = .ok (.slice (some ⟨w.heap.size, 0, none⟩) 1 1) (w.alloc (.cells (fc [a]).toArray 52)) := by
  obtain ⟨i, h0, h1, h2⟩ := infoC'
  exact run_buildSlice w 27 52 1 _ (fc [a]).toArray i _ Try.underlying27 h0 h1 (by rw [h2]; decide) (by rw [h2]; decide) (by rw [h2]; kernel_rfl)

theorem cellsAt_new (W : World) (l : List Value) (t : TypeId) : CellsAt (W.alloc (.cells l.toArray t)) ⟨W.heap.size, 0, none⟩ l := fun j u hu => by
  have hadd : (⟨W.heap.size, 0, none⟩ : Addr).add j = ⟨W.heap.size, j, none⟩ := by unfold Addr.add; split <;> simp_all
  rw [hadd, World.cell?_alloc_at _ _ _ _ rfl]; simpa using hu
theorem rdC_new (W : World) (l : List Ch) (h : l.length ≤ 256) : RdC (W.alloc (.cells (fc l).toArray 52)) (.slice (some ⟨W.heap.size, 0, none⟩) l.length l.length) l :=
  .inr ⟨_, _, rfl, Nat.le_refl _, by unfold maxLen; omega, cellsAt_new _ _ _⟩
theorem rd_new (W : World) (l : List Rt) (h : l.length ≤ 256) : Rd (W.alloc (.cells (fl l).toArray 34)) (.slice (some ⟨W.heap.size, 0, none⟩) l.length l.length) l :=
  .inr ⟨_, _, rfl, Nat.le_refl _, by unfold maxLen; omega, cellsAt_new _ _ _⟩
end Go.Proofs.Ytcpdpcfejpbdpaa
