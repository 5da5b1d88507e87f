/- What TrieWays's last loops need: a route's key where it stands in a table, what its way marks. -/
import Derived.Test.YtggjcjijoihilaaTWaysM
import Derived.Test.YtggjcjijoihilaaTabLaws
import Derived.Test.YtggjcjijoihilaaSlots
namespace Go.Proofs.Ytggjcjijoihilaa
open Go.RowKit Go.Sort Go.Shelf

theorem rt_place {w : World} {a : Option Addr} {n cap : Nat} {l : List Rt} (h : Rd w (.slice a n cap) l) {i : Nat} {r : Rt} (hr : l[i]? = some r) : ∃ b o, a = some ⟨b, o, none⟩ := by
  rcases h with ⟨h, hnil⟩ | ⟨a', cap', h, _, _, hc⟩
  · exfalso; rw [hnil] at hr; cases hr
  · simp only [Value.slice.injEq] at h
    obtain ⟨b, o, s⟩ := a'
    have h0 : 0 < l.length := by
      have := (List.getElem?_eq_some_iff.1 hr).1
      omega
    have c0 := hc 0 (.int .i64 (l[0]'h0).pre.bits) (by
      have := fl_at (List.getElem?_eq_getElem h0) (j := 0) (by decide)
      rw [Nat.zero_mul, Nat.zero_add] at this
      rw [this]; rfl)
    obtain rfl : s = none := by simpa [Addr.add] using World.cell?_spot c0
    exact ⟨b, o, h.1⟩
theorem rt_at {w : World} {b o n cap : Nat} {l : List Rt} (h : Rd w (.slice (some ⟨b, o, none⟩) n cap) l) {i : Nat} {r : Rt} (hr : l[i]? = some r) :
    w.cell? ⟨b, o + i * 19, none⟩ = some (.int .i64 r.pre.bits) ∧ (keyLoad ⟨b, o + i * 19 + 2, none⟩).run Try.prog w = .ok (.agg (kc r.pre.key)) w := by
  rcases h with ⟨h, hnil⟩ | ⟨a', cap', h, _, _, hc⟩
  · exfalso; rw [hnil] at hr; cases hr
  · simp only [Value.slice.injEq, Option.some.injEq] at h
    obtain ⟨rfl, -⟩ := h
    have h1 := hc.route hr
    have e : (⟨b, o, none⟩ : Addr).add (i * 19) = ⟨b, o + i * 19, none⟩ := add_here _ _ _
    rw [e] at h1
    refine ⟨?_, ?_⟩
    · have := h1 0 (.int .i64 r.pre.bits) rfl
      rwa [add_here, Nat.add_zero] at this
    · have h2 : RowAt w b (o + i * 19) (pc r.pre) := h1.pre.rowAt
      exact run_keyLoad h2.key

/-- Marks grow: what was marked stays. -/
def Grows (xs ys : List Bool) : Prop := ys.length = xs.length ∧ ∀ x : Nat, xs[x]? = some true → ys[x]? = some true
theorem Grows.refl (xs : List Bool) : Grows xs xs := ⟨rfl, fun _ h => h⟩
theorem Grows.trans {a b c : List Bool} (h : Grows a b) (k : Grows b c) : Grows a c := ⟨k.1.trans h.1, fun x hx => k.2 x (h.2 x hx)⟩
theorem grows_set (xs : List Bool) (j : Nat) : Grows xs (xs.set j true) := ⟨List.length_set, fun x hx => by
  have hlt := (List.getElem?_eq_some_iff.1 hx).1
  rw [List.getElem?_set]
  split
  · rename_i h; subst h; rw [if_pos hlt]
  · exact hx⟩
theorem set_at {xs : List Bool} {j : Nat} (h : j < xs.length) : (xs.set j true)[j]? = some true := List.getElem?_set_self h
theorem way_lt {T : Tr} {k : Nat → Nat} {m : Nat} (h : WalkTo T k m) {s : Nat} (hs : s ≤ m) : idx0 T.ws (pathN k s) < T.ws.length := idx_lt (h.on s hs)
/-- What the first i routes have marked. -/
def Marked (t : List Rt) (bits : Int) (i : Nat) (xs : List Bool) : Prop := ∀ r ∈ t.take i, r.pre.bits = bits → ∃ m, WalkTo (treeL t bits) r.pre.key m ∧ ∀ x ∈ wayN (treeL t bits) r.pre.key m, xs[x]? = some true
theorem Marked.grow {t : List Rt} {bits : Int} {i : Nat} {xs ys : List Bool} (h : Marked t bits i xs) (hg : Grows xs ys) : Marked t bits i ys := fun r hr hb => by
  obtain ⟨m, h1, h2⟩ := h r hr hb
  exact ⟨m, h1, fun x hx => hg.2 x (h2 x hx)⟩
theorem Marked.next {t : List Rt} {bits : Int} {i : Nat} {xs : List Bool} (h : Marked t bits i xs) {r : Rt} (hr : t[i]? = some r) (hm : r.pre.bits = bits → ∃ m, WalkTo (treeL t bits) r.pre.key m ∧ ∀ x ∈ wayN (treeL t bits) r.pre.key m, xs[x]? = some true) : Marked t bits (i + 1) xs := fun s hs hb => by
  rw [List.take_add_one, hr] at hs
  rcases List.mem_append.1 hs with h1 | h1
  · exact h s h1 hb
  · simp at h1; subst h1; exact hm hb
/-- What a slot is good for: that it is a key's way. -/
def Gd.way (T : Tr) (k : Nat → Nat) (base : Nat) : Gd := ⟨fun v w => ∃ g cap m, v = .slice (some ⟨g, 0, none⟩) (m + 1) cap ∧ WalkTo T k m ∧ OwnI w base v (wayN T k m), fun _ _ _ ⟨g, cap, m, h1, h2, h3⟩ hb => ⟨g, cap, m, h1, h2, h3.later hb⟩⟩
/-- A mark that is set, beside a way that stays. -/
theorem mark_one {w w0 : World} {base gm N gw n cw : Nat} {ys : List Bool} {xs : List Nat} (hm : OwnM w gm (.slice (some ⟨gm, 0, none⟩) N N) ys) (hN : ys.length = N) (hw : OwnI w base (.slice (some ⟨gw, 0, none⟩) n cw) xs) (hb : Below w0.heap.size w0 w) (h0 : w0.heap.size ≤ gm) (hgb : gm < base) (x : Nat) :
    OwnM (w.setCell ⟨gm, x, none⟩ (.bool true)) gm (.slice (some ⟨gm, 0, none⟩) N N) (ys.set x true) ∧ OwnI (w.setCell ⟨gm, x, none⟩ (.bool true)) base (.slice (some ⟨gw, 0, none⟩) n cw) xs ∧ Below w0.heap.size w0 (w.setCell ⟨gm, x, none⟩ (.bool true)) := by
  obtain ⟨h1, h2⟩ := hm.set hN.symm x true
  refine ⟨h1, World.ownsRow.kept hw h2 (.inr ?_), hb.grown h2 hb.size (fun k hk => by cases hk; exact h0)⟩
  intro e
  have h3 := (World.ownsRow.lt hw gw rfl).1
  have h4 : gw = gm := by simpa [Value.ownBlock] using e
  omega
end Go.Proofs.Ytggjcjijoihilaa
