/- table.Right, by slices.ContainsFunc and the closure that misplaced makes: what each hands back. -/
import Derived.Test.YtcpdpcfejpbdpaaTabIndex
namespace Go.Proofs.Ytcpdpcfejpbdpaa
open Go.RowKit Go.Sort Go.Shelf
attribute [local go_sem ↓] loadVar_key loadVar_pre loadVar_route storeVar_pre

def ContPost (Pr : Nat → Bool) (n : Nat) (I : Nat → World → Prop) (e : Ending) (w' : World) : Prop :=
  (e = .returned (.bool false) ∧ FirstAt Pr n n ∧ I n w') ∨ ∃ i : Nat, i < n ∧ e = .returned (.bool true) ∧ FirstAt Pr n i ∧ Pr i = true ∧ I (i + 1) w'

set_option maxHeartbeats 1000000 in
set_option maxRecDepth 100000 in
theorem contains_any (l : List Rt) (v : Value) (g : Nat) (cb : Array Value) (Pr : Nat → Bool) (I : Nat → World → Prop) (w : World)
    (hR : ∀ i W, I i W → Rd W v l) (eg : ∀ args w, (callFunc g args).run Try.prog w = .ok (.enter g args) w)
    (hC : ∀ i r W, l[i]? = some r → I i W → Calls Try.prog g (#[.agg (rc r)] ++ cb) W fun e w' => e = .returned (.bool (Pr i)) ∧ I (i + 1) w') (h0 : I 0 w) :
    Calls Try.prog 33 #[v, .func (.func g) #[] cb] w (ContPost Pr l.length I) := by
  have C := index_any l v g cb Pr I w hR eg hC h0
  have HC := Lib.hid C
  clear C hR hC h0 eg
  go_enter Try.func33, Try.ntmps33
  go_wp2_with fail
  refine HC.out.mono ?_
  rintro e w' (⟨rfl, hf, hi⟩ | ⟨i, hi, rfl, hf, hp, hI⟩)
  · go_wp2
    go_ret
    exact .inl ⟨rfl, hf, hi⟩
  · have HP := Lib.hid hp
    clear hp
    go_wp2
    go_ret
    exact .inr ⟨i, hi, rfl, hf, HP.out, hI⟩

theorem misplaced_any (w : World) : Calls Try.prog 34 #[] w fun e w' =>
    e = .returned (.func (.func 55) #[] #[.pointer (some ⟨w.heap.size + 1, 0, none⟩), .pointer (some ⟨w.heap.size, 0, none⟩)]) ∧ w' = (w.alloc (.cells (pc zpre) 26)).alloc (.cells #[.bool true] 4) := by
  go_enter Try.func34, Try.ntmps34
  go_wp2
  go_ret
  exact ⟨rfl, rfl⟩

/-- What the closure keeps: whether none came, and who came last. -/
structure Boxes (B : Nat) (W : World) (bf ba : Nat) (f : Bool) (q : Pre) : Prop where
  lf : B ≤ bf
  la : B ≤ ba
  ne : bf ≠ ba
  hf : W.heap[bf]? = some (.cells #[.bool f] 4 (0, 0))
  ha : W.heap[ba]? = some (.cells (pc q) 26 (0, 0))

theorem heap_lt {W : World} {b : Nat} {o : Obj} (h : W.heap[b]? = some o) : b < W.heap.size := (Array.getElem?_eq_some_iff.1 h).1
theorem cell_of {W : World} {b : Nat} {cs : Array Value} {t : TypeId} (h : W.heap[b]? = some (.cells cs t (0, 0))) (j : Nat) : W.cell? ⟨b, j, none⟩ = cs[j]? := cell_of_row W b j cs t (0, 0) h
theorem rowAt_of {W : World} {b : Nat} {cs : Array Value} {t : TypeId} (h : W.heap[b]? = some (.cells cs t (0, 0))) : RowAt W b 0 cs := fun j v hv => by rw [Nat.zero_add, cell_of h]; exact hv
theorem frozen_of {W : World} {b : Nat} {cs : Array Value} {t : TypeId} (h : W.heap[b]? = some (.cells cs t (0, 0))) (j : Nat) : W.frozen? ⟨b, j, none⟩ = false := by
  simp [World.frozen?, h]

theorem Boxes.later {B : Nat} {W W' : World} {bf ba : Nat} {f : Bool} {q : Pre} (h : Boxes B W bf ba f q) (hb : Below W.heap.size W W') : Boxes B W' bf ba f q :=
  ⟨h.lf, h.la, h.ne, by rw [hb.block _ (heap_lt h.hf)]; exact h.hf, by rw [hb.block _ (heap_lt h.ha)]; exact h.ha⟩

theorem Boxes.set {B : Nat} {W : World} {bf ba : Nat} {f : Bool} {q : Pre} (h : Boxes B W bf ba f q) (p : Pre) : Boxes B ((W.setRow ba (pc p)).setCell ⟨bf, 0, none⟩ (.bool false)) bf ba false p ∧ Below B W ((W.setRow ba (pc p)).setCell ⟨bf, 0, none⟩ (.bool false)) := by
  have h1 : (W.setRow ba (pc p)).heap[bf]? = some (.cells #[.bool f] 4 (0, 0)) := by rw [setRow_other _ _ _ _ h.ne]; exact h.hf
  have e : (W.setRow ba (pc p)).setCell ⟨bf, 0, none⟩ (.bool false) = (W.setRow ba (pc p)).setRow bf #[.bool false] := by
    rw [setCell_eq_setRow _ bf 0 #[.bool f] _ _ _ h1]; rfl
  rw [e]
  refine ⟨⟨h.lf, h.la, h.ne, setRow_heap _ _ _ _ _ _ h1, ?_⟩, ?_⟩
  · rw [setRow_other _ _ _ _ (Ne.symm h.ne)]; exact setRow_heap _ _ _ _ _ _ h.ha
  · exact below_setRow (below_setRow (Below.refl _ _) h.la _) h.lf _

def badB (f : Bool) (q : Pre) (r : Pre) : Bool := if mayB r = true then (if f = true then false else !lessB q r) else true

set_option maxHeartbeats 1000000 in
set_option maxRecDepth 100000 in
theorem closure_any (B : Nat) (W : World) (bf ba : Nat) (f : Bool) (q : Pre) (r : Rt) (hq : Bytes16 q.key) (h : Boxes B W bf ba f q) :
    Calls Try.prog 55 #[.agg (rc r), .pointer (some ⟨bf, 0, none⟩), .pointer (some ⟨ba, 0, none⟩)] W fun e w' =>
      e = .returned (.bool (badB f q r.pre)) ∧ Boxes B w' bf ba false r.pre ∧ Below B W w' := by
  have hBW : B ≤ W.heap.size := by have := heap_lt h.hf; have := h.lf; omega
  have T : ∀ w1, Below (W.alloc (.cells (rc r) 34)).heap.size (W.alloc (.cells (rc r) 34)) w1 →
      (w1.cell? ⟨bf, 0, none⟩ = some (.bool f) ∧ w1.frozen? ⟨bf, 0, none⟩ = false ∧ (w1.setRow ba (pc r.pre)).cell? ⟨bf, 0, none⟩ = some (.bool f) ∧ (w1.setRow ba (pc r.pre)).frozen? ⟨bf, 0, none⟩ = false ∧
        (preLoad ⟨ba, 0, none⟩).run Try.prog w1 = .ok (.agg (pc q)) w1 ∧ (preLoad ⟨W.heap.size, 0, none⟩).run Try.prog w1 = .ok (.agg (pc r.pre)) w1 ∧ (preStore ⟨ba, 0, none⟩ (.agg (pc r.pre))).run Try.prog w1 = .ok () (w1.setRow ba (pc r.pre))) ∧
      Boxes B ((w1.setRow ba (pc r.pre)).setCell ⟨bf, 0, none⟩ (.bool false)) bf ba false r.pre ∧ Below B W ((w1.setRow ba (pc r.pre)).setCell ⟨bf, 0, none⟩ (.bool false)) := fun w1 hb => by
    have hB2 : Below W.heap.size W w1 := ((Below.refl W.heap.size W).alloc (Nat.le_refl _) _).trans (hb.mono (by simp))
    have h1 := h.later hB2
    have hr : CellsAt w1 ⟨W.heap.size, 0, none⟩ (rl r) := CellsAt.below (B := W.heap.size + 1) (fun j u hu => by
      have hadd : (⟨W.heap.size, 0, none⟩ : Addr).add j = ⟨W.heap.size, j, none⟩ := by unfold Addr.add; split <;> simp_all
      rw [hadd, World.cell?_alloc_at _ _ _ _ rfl]; simpa [rc] using hu) (hb.mono (by simp)) (by simp)
    have hg : (w1.setRow ba (pc r.pre)).heap[bf]? = some (.cells #[.bool f] 4 (0, 0)) := by rw [setRow_other _ _ _ _ h.ne]; exact h1.hf
    refine ⟨⟨by rw [cell_of h1.hf]; rfl, frozen_of h1.hf 0, by rw [cell_of hg]; rfl, frozen_of hg 0, ?_, run_preLoadA hr.pre, run_preStore h1.ha (pc_size _)⟩, (h1.set r.pre).1, (hB2.mono hBW).trans (h1.set r.pre).2⟩
    exact run_preLoad (rowAt_of h1.ha)
  have C1 := may_any r.pre r.hk (W.alloc (.cells (rc r) 34))
  have C2 := fun w => less_any q r.pre hq r.hk w
  obtain ⟨⟨-, -, -, -, -, l0, -⟩, -⟩ := T _ (Below.refl _ _)
  have HT := Lib.hid T
  clear T h
  have HF : Hid (badB f q r.pre = badB f q r.pre) := rfl
  unfold badB at HF ⊢
  cases hm : mayB r.pre with
  | false =>
    rw [hm] at C1
    have HC := Lib.hid C1
    clear C1 C2 hm
    go_enter Try.func55, Try.ntmps55
    go_wp2_with fail
    refine HC.out.mono ?_
    rintro e w1 ⟨rfl, h1⟩
    obtain ⟨⟨cf, ff, cf', ff', lq, lr, sr⟩, hB, hW⟩ := HT.out w1 h1
    go_wp2
    go_ret
    exact ⟨rfl, hB, hW⟩
  | true =>
    rw [hm] at C1
    have HC := Lib.hid C1
    clear C1 hm
    cases f with
    | true =>
      clear C2
      go_enter Try.func55, Try.ntmps55
      go_wp2_with fail
      refine HC.out.mono ?_
      rintro e w1 ⟨rfl, h1⟩
      obtain ⟨⟨cf, ff, cf', ff', lq, lr, sr⟩, hB, hW⟩ := HT.out w1 h1
      go_wp2
      go_ret
      exact ⟨rfl, hB, hW⟩
    | false =>
      have HD := Lib.hid C2
      clear C2
      go_enter Try.func55, Try.ntmps55
      go_wp2_with fail
      refine HC.out.mono ?_
      rintro e w1 ⟨rfl, h1⟩
      obtain ⟨⟨cf, ff, cf', ff', lq, lr, sr⟩, -, -⟩ := HT.out w1 h1
      go_wp2_with fail
      refine (HD.out _).mono ?_
      rintro e w2 ⟨rfl, h2⟩
      obtain ⟨⟨cf, ff, cf', ff', lq, lr, sr⟩, hB, hW⟩ := HT.out w2 (h1.trans (h2.mono h1.size))
      go_wp2
      go_ret
      exact ⟨rfl, hB, hW⟩
end Go.Proofs.Ytcpdpcfejpbdpaa
