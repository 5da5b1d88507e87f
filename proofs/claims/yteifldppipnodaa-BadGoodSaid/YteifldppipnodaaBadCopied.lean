/- bad.copied, bad.parted: reserves of the call's own. -/
import Derived.Test.YteifldppipnodaaBadBox
namespace Go.Proofs.Yteifldppipnodaa.Bad
open Go.RowKit Go.Sort
attribute [local go_sem ↓] slice_ints loadVar_rs storeVar_rs

/-- A reserve whose lists are the call's own, each by itself. -/
def OwnR (w : World) (base : Nat) (u v : Value) (st lf : List Nat) : Prop := OwnN w base u st ∧ OwnN w base v lf ∧ ∀ g, u.ownBlock = some g → v.ownBlock ≠ some g
/-- A reserve whose lists are the call's own. -/
def OwnL (w : World) (base : Nat) (r : Value) (st lf : List Nat) : Prop := ∃ u v, r = .agg #[u, v] ∧ OwnN w base u st ∧ OwnN w base v lf
theorem OwnL.rd {w : World} {base : Nat} {r : Value} {st lf : List Nat} (h : OwnL w base r st lf) : RdR w r st lf := by
  obtain ⟨u, v, e, h1, h2⟩ := h
  exact ⟨u, v, e, h1.rd, h2.rd⟩
theorem OwnL.later {w w' : World} {base : Nat} {r : Value} {st lf : List Nat} (h : OwnL w base r st lf) (hb : Below w.heap.size w w') : OwnL w' base r st lf := by
  obtain ⟨u, v, e, h1, h2⟩ := h
  exact ⟨u, v, e, h1.later hb, h2.later hb⟩
theorem OwnL.mono {w : World} {base base' : Nat} {r : Value} {st lf : List Nat} (h : OwnL w base r st lf) (hb : base' ≤ base) : OwnL w base' r st lf := by
  obtain ⟨u, v, e, h1, h2⟩ := h
  exact ⟨u, v, e, h1.mono hb, h2.mono hb⟩
theorem OwnL.row {w : World} {base : Nat} {r : Value} {st lf : List Nat} (h : OwnL w base r st lf) {B : Nat} {cs : Array Value} (hB : Box w B cs) (ds : Array Value) : OwnL (w.setRow B ds) base r st lf := by
  obtain ⟨u, v, e, h1, h2⟩ := h
  exact ⟨u, v, e, own_row h1 hB ds, own_row h2 hB ds⟩
/-- A reserve of the call's own, in the form of its slices. -/
theorem OwnL.form {w : World} {base : Nat} {r : Value} {st lf : List Nat} (h : OwnL w base r st lf) : ∃ a p b q, r = .agg #[.slice a st.length p, .slice b lf.length q] := by
  obtain ⟨u, v, rfl, h1, h2⟩ := h
  obtain ⟨a, p, e1, -⟩ := h1.rd.len
  obtain ⟨b, q, e2, -⟩ := h2.rd.len
  subst e1 e2
  exact ⟨a, p, b, q, rfl⟩
def CopyPost (w : World) (st lf : List Nat) (e : Ending) (w' : World) : Prop := ∃ u v, e = .returned (.agg #[u, v]) ∧ OwnR w' w.heap.size u v st lf ∧ Below w.heap.size w w'

set_option maxHeartbeats 2000000 in
set_option maxRecDepth 100000 in
theorem copied_any (r : Value) (st lf : List Nat) (w : World) (hR : RdR w r st lf) (h1 : st.length ≤ 1000) (h2 : lf.length ≤ 1000) :
    Calls Try.prog 16 #[r] w (CopyPost w st lf) := by
  obtain ⟨u, v, rfl, hu, hv⟩ := hR
  obtain ⟨a1, p1, e1, -⟩ := hu.len
  obtain ⟨a2, p2, e2, -⟩ := hv.len
  have HR := Lib.hid (And.intro hu (And.intro hv (And.intro h1 h2)))
  obtain ⟨n1, hn1⟩ : ∃ n1, st.length = n1 := ⟨_, rfl⟩
  obtain ⟨n2, hn2⟩ : ∃ n2, lf.length = n2 := ⟨_, rfl⟩
  rw [hn1] at e1
  rw [hn2] at e2
  subst e1 e2
  obtain ⟨W1, hW1⟩ : ∃ W, W = w.alloc (.cells #[.slice a1 n1 p1, .slice a2 n2 p2] 25) := ⟨_, rfl⟩
  obtain ⟨c0, c1⟩ := box_cells w (.slice a1 n1 p1) (.slice a2 n2 p2)
  have hb1 : Below w.heap.size w (w.alloc (.cells #[.slice a1 n1 p1, .slice a2 n2 p2] 25)) := (Below.refl _ _).alloc (Nat.le_refl _) _
  rw [← hW1] at c0 c1 hb1
  clear hu hv h1 h2 hn1 hn2
  go_enter Try.func16, Try.ntmps16
  go_upto_region 1 with fail
  obtain ⟨W, hW⟩ : ∃ W, W = (w.alloc (.cells #[.slice a1 n1 p1, .slice a2 n2 p2] 25)).alloc (.cells #[.slice none 0 0, .slice none 0 0] 25) := ⟨_, rfl⟩
  have hx : Box W (w.heap.size + 1) zr ∧ Below w.heap.size w W ∧ W.heap.size = w.heap.size + 2 := by
    have h := Box.new W1 zr
    have hs : W1.heap.size = w.heap.size + 1 := by rw [hW1]; simp
    rw [hs] at h
    unfold zr at h
    rw [hW1] at h
    rw [hW]
    exact ⟨h, (hW1 ▸ hb1).alloc (by simp) _, by simp⟩
  have hb2 : Below W1.heap.size W1 W := by rw [hW, ← hW1]; exact (Below.refl _ _).alloc (Nat.le_refl _) _
  replace c0 := keep_cell c0 hb2
  replace c1 := keep_cell c1 hb2
  rw [← hW]
  have HX := Lib.hid hx
  have HC := Lib.hid (And.intro c0 c1)
  have HC1 := Lib.hid (clone_any st _ W.drew (HR.out.1.later hx.2.1.drew) (by have := HR.out.2.2.1; omega))
  have HC2 : Hid (∀ w1, Below W.heap.size W w1 → Calls Try.prog 21 #[.slice a2 n2 p2] w1 fun e w' => ∃ v', e = .returned v' ∧ OwnN w' w1.heap.size v' lf ∧ Below w1.heap.size w1 w') := fun w1 hb =>
    clone_any lf _ w1 (HR.out.2.1.later (HX.out.2.1.trans (hb.mono HX.out.2.1.size))) (by have := HR.out.2.2.2; omega)
  have HK : Hid (∀ w1, Below W.heap.size W w1 → w1.cell? ⟨w.heap.size, 0, none⟩ = some (.slice a1 n1 p1) ∧ w1.cell? ⟨w.heap.size, 1, none⟩ = some (.slice a2 n2 p2)) := fun w1 hb => ⟨keep_cell HC.out.1 hb, keep_cell HC.out.2 hb⟩
  have HK2 : Hid (∀ w1, Below W.heap.size W w1 → ∀ ds : Array Value, (w1.setRow (w.heap.size + 1) ds).cell? ⟨w.heap.size, 0, none⟩ = some (.slice a1 n1 p1) ∧ (w1.setRow (w.heap.size + 1) ds).cell? ⟨w.heap.size, 1, none⟩ = some (.slice a2 n2 p2)) := fun w1 hb ds => by
    have h := below_row (Below.refl (w.heap.size + 1) w1) (by have := hb.size; have := HX.out.2.2; omega) (Nat.le_refl (w.heap.size + 1)) ds
    exact ⟨(h.cell (p := ⟨w.heap.size, 0, none⟩) (Nat.lt_succ_self _)).trans (HK.out w1 hb).1, (h.cell (p := ⟨w.heap.size, 1, none⟩) (Nat.lt_succ_self _)).trans (HK.out w1 hb).2⟩
  have s1 : W.drew.cell? ⟨w.heap.size, 0, none⟩ = some (.slice a1 n1 p1) ∧ W.drew.cell? ⟨w.heap.size, 1, none⟩ = some (.slice a2 n2 p2) := ⟨c0, c1⟩
  clear hW hW1 hb1 hb2 hx c0 c1
  go_region_held3 (fun w' => w'.cell? ⟨w.heap.size, 0, none⟩ = some (.slice a1 n1 p1) ∧ w'.cell? ⟨w.heap.size, 1, none⟩ = some (.slice a2 n2 p2))
    (first | exact s1 | exact s2 | exact s3 | exact s5)
    (first
      | ((with_reducible refine HC1.out.mono ?_); rintro e w1 ⟨v1, rfl, o1, b1⟩; have b1' : Below W.heap.size W w1 := (Below.refl W.heap.size W).drew.trans b1; have s2 := HK.out w1 b1'; obtain ⟨x1, q1, e1, -⟩ := o1.rd.len; subst e1)
      | ((with_reducible refine (HC2.out w1 b1').mono ?_); rintro e w2 ⟨v2, rfl, o2, b2⟩; have b2' : Below W.heap.size W w2 := b1'.trans (b2.mono b1'.size); have s3 := HK.out w2 b2'; obtain ⟨x2, q2, e2, -⟩ := o2.rd.len; subst e2; have s4 := (HX.out.1.later b2').store rfl (u := .slice x1 st.length q1) (v := .slice x2 lf.length q2) rfl rfl; have s5 := HK2.out _ b2' #[.slice x1 st.length q1, .slice x2 lf.length q2]))
  have hbx := HX.out.1.later b2'
  have ho1 := own_row (o1.later b2) hbx #[.slice x1 st.length q1, .slice x2 lf.length q2]
  have ho2 := own_row o2 hbx #[.slice x1 st.length q1, .slice x2 lf.length q2]
  have hld := (hbx.row #[.slice x1 st.length q1, .slice x2 lf.length q2]).load
  have hbw := HX.out.2.1
  have hsz := HX.out.2.2
  have hd : W.drew.heap.size = W.heap.size := rfl
  have hs1 := b1.size
  have FIN : Hid (CopyPost w st lf (.returned (.agg #[.slice x1 st.length q1, .slice x2 lf.length q2])) (w2.setRow (w.heap.size + 1) #[.slice x1 st.length q1, .slice x2 lf.length q2])) := by
    refine ⟨_, _, rfl, ⟨ho1.mono (by omega), ho2.mono (by omega), fun g hg he => ?_⟩, below_row (hbw.trans (b2'.mono hbw.size)) (by have := b2'.size; omega) (by omega) _⟩
    have h1 := (World.ownsRow.lt o1 g hg).2
    have h2 := (World.ownsRow.lt o2 g he).1
    omega
  clear ho1 ho2 hbw hsz hd hs1 hbx s1 s2 s3 s4 s5 o1 o2 b1 b2 b1' b2'
  go_wp2
  exact bodyPost_ret (results_row rfl _ _ _ _ rfl hld) rfl FIN.out

set_option maxHeartbeats 2000000 in
set_option maxRecDepth 100000 in
theorem parted_any (v : Value) (l : List Nat) (k : Nat) (w : World) (hR : RdN w v l) (h1 : l.length ≤ 1000) (hk : k ≤ l.length) :
    Calls Try.prog 14 #[v, .int .i64 (k : Int)] w (CopyPost w (l.take k) (l.drop k)) := by
  obtain ⟨u1, s1, r1⟩ := slice_head hR hk
  obtain ⟨u2, s2, r2⟩ := slice_tail hR hk
  obtain ⟨a, p, e, -⟩ := hR.len
  obtain ⟨a1, p1, e1, -⟩ := r1.len
  obtain ⟨a2, p2, e2, -⟩ := r2.len
  have hl1 : (l.take k).length ≤ 1000 := by rw [List.length_take]; omega
  have hl2 : (l.drop k).length ≤ 1000 := by rw [List.length_drop]; omega
  obtain ⟨L1, hL1⟩ : ∃ L, l.take k = L := ⟨_, rfl⟩
  obtain ⟨L2, hL2⟩ : ∃ L, l.drop k = L := ⟨_, rfl⟩
  rw [hL1] at r1 e1 hl1 ⊢
  rw [hL2] at r2 e2 hl2 ⊢
  obtain ⟨n, hn⟩ : ∃ n, l.length = n := ⟨_, rfl⟩
  obtain ⟨n1, hn1⟩ : ∃ n, L1.length = n := ⟨_, rfl⟩
  obtain ⟨n2, hn2⟩ : ∃ n, L2.length = n := ⟨_, rfl⟩
  rw [hn] at e
  rw [hn1] at e1
  rw [hn2] at e2
  subst e e1 e2
  have f1 := fun W => s1 (k : Int) W rfl
  have f2 := fun W => s2 (k : Int) W rfl
  obtain ⟨W, hW⟩ : ∃ W, W = w.alloc (.cells #[.slice none 0 0, .slice none 0 0] 25) := ⟨_, rfl⟩
  have hx : Box W w.heap.size zr ∧ Below w.heap.size w W ∧ W.heap.size = w.heap.size + 1 := by
    rw [hW]
    exact ⟨Box.new w zr, (Below.refl _ _).alloc (Nat.le_refl _) _, by simp⟩
  have HX := Lib.hid hx
  have HC1 := Lib.hid (copied_any _ L1 L2 W.drew ⟨_, _, rfl, r1.later hx.2.1.drew, r2.later hx.2.1.drew⟩ hl1 hl2)
  clear s1 s2 r1 r2 hR h1 hk hl1 hl2 hL1 hL2 hn hn1 hn2 hx
  go_enter Try.func14, Try.ntmps14
  go_upto_region 1 with fail
  rw [← hW]
  clear hW
  go_region_held3 (fun _ => True)
    (exact trivial)
    (first
      | ((with_reducible refine HC1.out.mono ?_); rintro e w1 ⟨v1, v2, rfl, o1, b1⟩; obtain ⟨x1, q1, e1, -⟩ := o1.1.rd.len; obtain ⟨x2, q2, e2, -⟩ := o1.2.1.rd.len; subst e1 e2; have b1' : Below W.heap.size W w1 := (Below.refl W.heap.size W).drew.trans b1; have s4 := (HX.out.1.later b1').store rfl (u := .slice x1 L1.length q1) (v := .slice x2 L2.length q2) rfl rfl))
  have hbx := HX.out.1.later b1'
  have ho1 := own_row o1.1 hbx #[.slice x1 L1.length q1, .slice x2 L2.length q2]
  have ho2 := own_row o1.2.1 hbx #[.slice x1 L1.length q1, .slice x2 L2.length q2]
  have hld := (hbx.row #[.slice x1 L1.length q1, .slice x2 L2.length q2]).load
  have hbw := HX.out.2.1
  have hsz := HX.out.2.2
  have hd : W.drew.heap.size = W.heap.size := rfl
  have FIN : Hid (CopyPost w L1 L2 (.returned (.agg #[.slice x1 L1.length q1, .slice x2 L2.length q2])) (w1.setRow w.heap.size #[.slice x1 L1.length q1, .slice x2 L2.length q2])) := by
    refine ⟨_, _, rfl, ⟨ho1.mono (by omega), ho2.mono (by omega), o1.2.2⟩, below_row (hbw.trans (b1'.mono hbw.size)) (by have := b1'.size; omega) (Nat.le_refl _) _⟩
  clear ho1 ho2 hbw hsz hd hbx s4 o1 b1 b1' f1 f2
  go_wp2
  exact bodyPost_ret (results_row rfl _ _ _ _ rfl hld) rfl FIN.out
end Go.Proofs.Yteifldppipnodaa.Bad
