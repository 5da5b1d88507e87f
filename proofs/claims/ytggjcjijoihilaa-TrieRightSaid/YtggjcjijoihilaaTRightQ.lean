/- The document's Build, plainly: what a node holds while it is being made. -/
import Derived.Test.YtggjcjijoihilaaTRightV
import Derived.Test.YtggjcjijoihilaaTWaysP
namespace Go.Proofs.Ytggjcjijoihilaa

/-! ### Each way of a table has room for one step more -/
theorem ways_room {bits : Int} (hb : bits = 32 ∨ bits = 128) (t : List Rt) (h : ∀ r ∈ t, mayB r.pre = true) : ∀ u ∈ (treeL t bits).ws, 4 * ((u.length : Int) + 1) ≤ bits := by
  induction e : t.length generalizing t with
  | zero =>
    have : t = [] := List.length_eq_zero_iff.1 e
    subst this
    intro u hu
    have h1 : u ∈ [([] : List Nat)] := hu
    rw [List.mem_singleton.1 h1]; simp; omega
  | succ n ih =>
    rcases List.eq_nil_or_concat t with rfl | ⟨t', r, rfl⟩
    · simp at e
    · rw [List.concat_eq_append] at e h ⊢
      have ih' := ih t' (fun x hx => h x (by simp [hx])) (by simp at e; exact e)
      rw [tree_snoc]
      split
      · rename_i hrb
        obtain ⟨h1, h2, h3, -⟩ := (mayB_iff r.pre r.hk).1 (h r (by simp))
        have hq : 4 * ((lastN r : Int) + 1) ≤ bits := by unfold lastN; omega
        have key : ∀ s, s ≤ lastN r → ∀ u ∈ ((treeL t' bits).along r.pre.key s).ws, 4 * ((u.length : Int) + 1) ≤ bits := by
          intro s
          induction s with
          | zero => intro _ u hu; exact ih' u hu
          | succ s ihs =>
            intro hs u hu
            have hu' : u ∈ (((treeL t' bits).along r.pre.key s).step (pathN r.pre.key (s + 1))).ws := hu
            unfold Tr.step at hu'
            split at hu'
            · exact ihs (by omega) u hu'
            · rcases List.mem_append.1 hu' with h5 | h5
              · exact ihs (by omega) u h5
              · rw [List.mem_singleton.1 h5, pathN_length]; omega
        exact key _ (Nat.le_refl _)
      · exact ih'
theorem whole_of {bits : Int} (hb : bits = 32 ∨ bits = 128) {u : List Nat} (hu : Low u) (hl : 4 * (u.length : Int) ≤ bits) : mayB (wholeP (keyOf u) bits) = true := by
  refine cut_whole (keyOf_bytes hu) hb (keyEq_iff.2 fun i hi => ?_)
  obtain ⟨s, hs, hls⟩ : ∃ s, bits.toNat = 4 * s ∧ u.length ≤ s := by
    rcases hb with rfl | rfl
    · exact ⟨8, rfl, by omega⟩
    · exact ⟨32, rfl, by omega⟩
  rw [hs, cut_path]
  have hg : ∀ j, (pathN (keyOf u) s).getD j 0 = u.getD j 0 := fun j => by
    rw [path_getD]
    split
    · exact nib_keyOf hu j
    · rw [List.getD_eq_getElem?_getD, List.getElem?_eq_none (by omega)]; rfl
  unfold keyOf at hg ⊢
  rw [hg, hg]
theorem keys_may (bits : Int) : mayB (keysP bits) = decide (bits = 32 ∨ bits = 128) := by
  rw [Bool.eq_iff_iff, decide_eq_true_eq, mayB_iff (keysP bits) zkey_bytes]
  constructor
  · rintro ⟨h, -⟩; exact h
  · intro h
    refine ⟨h, Int.le_refl _, by show (0 : Int) ≤ bits; omega, fun j _ _ => ?_⟩
    show bt zkey j = 0
    unfold bt zkey
    simp

/-! ### A node that is being made -/
def ndU (T : Tr) (w : List Nat) (b : Nat) : Nd := ⟨fun c => if c < b then T.sl w c else (0, 0), fun c => if c < b then idx0 T.ws (w ++ [c]) else 0⟩
theorem ndU_zero (T : Tr) (w : List Nat) : ndU T w 0 = nd0 := by unfold ndU nd0; simp
theorem ndU_slot (T : Tr) (w : List Nat) (b : Nat) : (ndU T w b).setSl b (0, 0) = ndU T w b := by
  unfold ndU Nd.setSl
  congr 1
  funext c
  simp only
  by_cases h : c = b
  · rw [if_pos h, if_neg (by omega)]
  · rw [if_neg h]
theorem ndU_next (T : Tr) (w : List Nat) (b : Nat) (x : Nat × Nat) : ((ndU T w b).setSl b x).setNx b 0 = (ndU T w b).setSl b x := by
  unfold ndU Nd.setSl Nd.setNx
  simp only
  congr 1
  funext c
  by_cases h : c = b
  · rw [if_pos h, if_neg (by omega)]
  · rw [if_neg h]
theorem ndU_succ (T : Tr) (w : List Nat) (b : Nat) : ((ndU T w b).setSl b (T.sl w b)).setNx b (idx0 T.ws (w ++ [b])) = ndU T w (b + 1) := by
  unfold ndU Nd.setSl Nd.setNx
  simp only
  congr 1
  · funext c
    by_cases h : c = b
    · subst h; rw [if_pos rfl, if_pos (by omega)]
    · rw [if_neg h]
      by_cases h2 : c < b
      · rw [if_pos h2, if_pos (by omega)]
      · rw [if_neg h2, if_neg (by omega)]
  · funext c
    by_cases h : c = b
    · subst h; rw [if_pos rfl, if_pos (by omega)]
    · rw [if_neg h]
      by_cases h2 : c < b
      · rw [if_pos h2, if_pos (by omega)]
      · rw [if_neg h2, if_neg (by omega)]
theorem setSl_setSl (n : Nd) (b : Nat) (x y : Nat × Nat) : (n.setSl b x).setSl b y = n.setSl b y := by
  unfold Nd.setSl
  congr 1
  funext c
  simp only
  by_cases h : c = b
  · rw [if_pos h, if_pos h]
  · rw [if_neg h, if_neg h, if_neg h]
theorem setNx_setNx (n : Nd) (b x y : Nat) : (n.setNx b x).setNx b y = n.setNx b y := by
  unfold Nd.setNx
  congr 1
  funext c
  simp only
  by_cases h : c = b
  · rw [if_pos h, if_pos h]
  · rw [if_neg h, if_neg h, if_neg h]
theorem ndU_all (T : Tr) (w : List Nat) : nc (ndU T w 16) = nc (T.node w) := by
  unfold nc ndl
  refine congrArg List.toArray (List.map_congr_left fun j hj => ?_)
  have hj48 : j < 48 := List.mem_range.1 hj
  unfold ndC ndU Tr.node
  by_cases h : j < 32
  · simp only [if_pos h, if_pos (show j / 2 < 16 by omega)]
  · simp only [if_neg h, if_pos (show j - 32 < 16 by omega)]
/-- Who is next, as far as the first ways say. -/
def nxI (ws : List (List Nat)) (u : List Nat) (i : Nat) : Nat := if idx0 ws u < i then idx0 ws u else 0
theorem nxI_one (ws : List (List Nat)) (u : List Nat) : nxI ws u 1 = 0 := by unfold nxI; split <;> omega
theorem nxI_hit {ws : List (List Nat)} (h : ws.Nodup) {u : List Nat} {i : Nat} (hi : ws[i]? = some u) : nxI ws u (i + 1) = i := by
  unfold nxI
  rw [idx_at h hi, if_pos (by omega)]
theorem nxI_miss {ws : List (List Nat)} {u x : List Nat} {i : Nat} (h1 : 1 ≤ i) (hi : ws[i]? = some x) (hx : x ≠ u) : nxI ws u (i + 1) = nxI ws u i := by
  have hne : idx0 ws u ≠ i := fun e => by
    by_cases hm : u ∈ ws
    · have := at_idx hm
      rw [e, hi] at this
      exact hx (Option.some.inj this)
    · unfold idx0 at e; rw [if_neg hm] at e; omega
  unfold nxI
  by_cases h : idx0 ws u < i
  · rw [if_pos h, if_pos (by omega)]
  · rw [if_neg h, if_neg (by omega)]
theorem nxI_all {ws : List (List Nat)} (u : List Nat) : nxI ws u ws.length = idx0 ws u := by
  unfold nxI
  by_cases hm : u ∈ ws
  · rw [if_pos (idx_lt hm)]
  · unfold idx0; rw [if_neg hm]; split <;> rfl
theorem foldl_take_snoc {l : List Rt} {i : Nat} {r : Rt} (h : l[i]? = some r) (f : Nat × Nat → Rt → Nat × Nat) (x : Nat × Nat) : (l.take (i + 1)).foldl f x = f ((l.take i).foldl f x) r := by
  rw [List.take_add_one, h]; simp

/-! ### Its cells in a block of its own -/
theorem nc_setSl (n : Nd) {b : Nat} (x : Nat × Nat) (h : b < 16) : ((nc n).setIfInBounds (2 * b) (.int .i64 (x.1 : Nat))).setIfInBounds (2 * b + 1) (.int .u16 (x.2 : Nat)) = nc (n.setSl b x) := by
  unfold nc
  rw [List.setIfInBounds_toArray, List.setIfInBounds_toArray, ndl_setSl n x h]
theorem nc_setNx (n : Nd) {b : Nat} (x : Nat) (h : b < 16) : (nc n).setIfInBounds (32 + b) (.int .i64 (x : Nat)) = nc (n.setNx b x) := by
  unfold nc
  rw [List.setIfInBounds_toArray, ndl_setNx n x h]
open Go.RowKit Go.Sort Go.Shelf
theorem node_setSl {W : World} {B : Nat} {n : Nd} (h : W.heap[B]? = some (.cells (nc n) 104 (0, 0))) {b : Nat} (hb : b < 16) (x : Nat × Nat) :
    ((W.setCell ⟨B, 2 * b, none⟩ (.int .i64 (x.1 : Nat))).setCell ⟨B, 2 * b + 1, none⟩ (.int .u16 (x.2 : Nat))).heap[B]? = some (.cells (nc (n.setSl b x)) 104 (0, 0)) := by
  rw [← nc_setSl n x hb]
  exact heap_setCell_same _ _ _ _ _ _ (heap_setCell_same W _ _ _ _ _ h)
theorem node_setNx {W : World} {B : Nat} {n : Nd} (h : W.heap[B]? = some (.cells (nc n) 104 (0, 0))) {b : Nat} (hb : b < 16) (x : Nat) :
    (W.setCell ⟨B, 32 + b, none⟩ (.int .i64 (x : Nat))).heap[B]? = some (.cells (nc (n.setNx b x)) 104 (0, 0)) := by
  rw [← nc_setNx n x hb]
  exact heap_setCell_same W _ _ _ _ _ h
theorem node_slotStore {W : World} {B : Nat} {n : Nd} (h : W.heap[B]? = some (.cells (nc n) 104 (0, 0))) {b : Nat} (hb : b < 16) (x : Nat × Nat) :
    (slotStore ⟨B, 2 * b, none⟩ (.agg #[.int .i64 (x.1 : Nat), .int .u16 (x.2 : Nat)])).run Try.prog W = .ok () ((W.setCell ⟨B, 2 * b, none⟩ (.int .i64 (x.1 : Nat))).setCell ⟨B, 2 * b + 1, none⟩ (.int .u16 (x.2 : Nat))) := by
  have h1 := heap_setCell_same W B (2 * b) (nc n) _ (.int .i64 (x.1 : Nat)) h
  refine run_slotStore (xa := ndC n (2 * b)) (xb := ndC n (2 * b + 1)) ?_ ?_ ?_ ?_
  · rw [cell_of h]; exact nc_at n (by omega)
  · exact frozen_of h _
  · rw [cell_of h1, Array.getElem?_setIfInBounds, if_neg (by omega)]; exact nc_at n (by omega)
  · exact frozen_of h1 _
end Go.Proofs.Ytggjcjijoihilaa
