/- root.opened: what it hands back. -/
import Derived.Test.YtjlmkhomedoolaaRootChunk
import Derived.Test.YtjlmkhomedoolaaSlotsI
namespace Go.Proofs.Ytjlmkhomedoolaa.Root
open Go.RowKit Go.Sort Go.Shelf Go.Proofs.Ytjlmkhomedoolaa Go.Proofs.Ytjlmkhomedoolaa.Page
attribute [local go_sem ↓] slice_bytes cut_bytes loadVar_ro storeVar_ro loadVar_page storeVar_page
attribute [local go_sem] Oper.semAt_some

def OpenedPost (p : Pg) (w : World) (e : Ending) (w' : World) : Prop :=
  ∃ x, e = .returned (.tuple #[roV (if isR p = true then openR p else zeroR) x, .bool (isR p)]) ∧ OwnN w' w.heap.size x (if isR p = true then openR p else zeroR).nums ∧ Below w.heap.size w w'
theorem isR_is (p : Pg) : isR p = (p.kind == 2 && (p.body.length % 2 == 0 && p.id == idL (p.body.length / 2))) := rfl

def pairAt (l : List UInt8) (k : Nat) : Int := pairN (l.getD (2 * k) 0) (l.getD (2 * k + 1) 0)
theorem nums_at : ∀ (l : List UInt8) (k : Nat), k < l.length / 2 → (numsL l)[k]? = some (pairAt l k)
  | [], k, h => absurd h (by simp)
  | [_], k, h => absurd h (by simp)
  | x :: y :: l, 0, _ => by simp [numsL, pairAt]
  | x :: y :: l, k + 1, h => by
    have h2 : k < l.length / 2 := by simp only [List.length_cons] at h; omega
    rw [numsL, List.getElem?_cons_succ, nums_at l k h2]
    unfold pairAt
    rw [show 2 * (k + 1) = 2 * k + 1 + 1 by omega]
    rfl
theorem nums_range {l : List UInt8} {m : Nat} (h : l.length / 2 = m) : (List.range m).map (pairAt l) = numsL l := by
  apply List.ext_getElem?
  intro k
  by_cases hk : k < m
  · rw [nums_at l k (by omega), List.getElem?_map, List.getElem?_range hk]; rfl
  · rw [List.getElem?_eq_none (by simp; omega), List.getElem?_eq_none (by rw [nums_length]; omega)]
def numsF {m : Nat} (l : List UInt8) (pre : List (Fin m)) : List Int := pre.map fun k => pairAt l k.val
theorem numsF_all {m : Nat} {l : List UInt8} {ys : List (Fin m)} (h : ys.map Fin.val = List.range m) (hm : l.length / 2 = m) : numsF l ys = numsL l := by
  unfold numsF
  rw [← nums_range hm, ← h, List.map_map]; rfl
theorem numsF_next {m : Nat} (l : List UInt8) (pre : List (Fin m)) (x : Fin m) : numsF l (pre ++ [x]) = numsF l pre ++ [pairAt l x.val] := by unfold numsF; rw [List.map_append]; rfl
def Gd.nums (l : List Int) : Gd := ⟨fun v w => RdN w v l, fun _ _ _ h hb => h.later hb⟩
theorem one_num (w : World) (x : Int) : RdN (w.alloc (.cells #[.int .i64 x] 3)) (.slice (some ⟨w.heap.size, 0, none⟩) 1 1) [x] := by
  rcases OwnN.made w [x] with h | h
  · exact h.rd
  · exact absurd (by unfold maxLen; simp) h
theorem join_num (y0 y1 : Nat) (h0 : y0 < 256) (h1 : y1 < 256) : bits .or .i64 ((y0 : Int) * 256) (y1 : Int) = ((y0 * 256 + y1 : Nat) : Int) := by
  rw [show (y0 : Int) * 256 = ((y0 * 256 : Nat) : Int) by omega, ← nat_join 8 (y0 * 256) y1 (by omega) (by omega)]
  have hx : y0 * 256 ||| y1 < 2 ^ 16 := Nat.or_lt_two_pow (by omega) (by omega)
  show IntKind.i64.wrap ((BitVec.ofInt 64 ((y0 * 256 : Nat) : Int) ||| BitVec.ofInt 64 (y1 : Int)).toNat : Int) = _
  rw [BitVec.toNat_or, ofInt_u64 _ (by omega), ofInt_u64 _ (by omega), IntKind.wrap_i64]
  omega
/-- How far it has come: the root's variable, what is its own. -/
def LoopI {m : Nat} (l : List UInt8) (g : Nat) (w0 W0 : World) (B R : Nat) (pre : List (Fin m)) (W : World) : Prop :=
  ∃ x, Bx 25 W R (roC ⟨g, numsF l pre⟩ x) ∧ OwnN W W0.heap.size x (numsF l pre) ∧ Bx 25 W B zr ∧ Below w0.heap.size w0 W ∧ W0.heap.size ≤ W.heap.size
theorem Bx.walked {t : TypeId} {W W' : World} {b : Nat} {cs : Array Value} {row : Option Nat} (h : Bx t W b cs) (hg : W.grownBy W' row) (hr : ∀ r, row = some r → ∃ o : Obj, W.heap[r]? = some o ∧ o.isCells = false) : Bx t W' b cs :=
  (grownBy_keeps_cells hg hr h rfl).trans h
theorem OwnN.walked {W W' : World} {base : Nat} {v : Value} {l : List Int} {row : Option Nat} (h : OwnN W base v l) (hg : W.grownBy W' row) (hr : ∀ r, row = some r → ∃ o : Obj, W.heap[r]? = some o ∧ o.isCells = false) : OwnN W' base v l := by
  refine World.ownsRow.kept h hg ?_
  by_cases hv : v.ownBlock = none
  · exact .inl hv
  · refine .inr fun e => ?_
    rcases h.2 with ⟨h1, -⟩ | ⟨g, cap, cur, h1, -, h3, -⟩
    · rw [h1] at hv; exact hv rfl
    · rw [h1] at e
      obtain ⟨o, h4, h5⟩ := hr g (by rw [← e]; rfl)
      rw [h3] at h4
      cases h4
      cases h5
theorem LoopI.own {m : Nat} {l : List UInt8} {g : Nat} {w0 W0 : World} {B R : Nat} (h0 : w0.heap.size ≤ W0.heap.size) : OwnFrom W0.heap.size (fun (pre : List (Fin m)) W => LoopI l g w0 W0 B R pre W) := by
  rintro pre W W' row ⟨x, h1, h2, h3, h4, h5⟩ hg hr
  have hr' : ∀ r, row = some r → ∃ o : Obj, W.heap[r]? = some o ∧ o.isCells = false := fun r e => (hr r e).2
  exact ⟨x, h1.walked hg hr', h2.walked hg hr', h3.walked hg hr', h4.grown hg (Nat.le_trans h0 h5) (fun k e => Nat.le_trans h0 (hr k e).1), Nat.le_trans h5 hg.size⟩

set_option maxHeartbeats 4000000 in
set_option maxRecDepth 100000 in
theorem opened_any (p : Pg) (u : Value) (w : World) (hR : RdB w u p.body) (hl : p.body.length ≤ 1000) :
    Calls Try.prog 18 #[pgV p u] w (OpenedPost p w) := by
  obtain ⟨W1, hW1⟩ : ∃ W1, W1 = w.alloc (.cells (pgC p u) 45) := ⟨_, rfl⟩
  have hb1 : Below w.heap.size w W1 := by rw [hW1]; exact below1 _ _
  have hx1 : Page.Box W1 w.heap.size (pgC p u) := by rw [hW1]; exact Box.new w _
  have hsz1 : W1.heap.size = w.heap.size + 1 := by rw [hW1]; simp
  obtain ⟨W, hW⟩ : ∃ W, W = W1.alloc (.cells zr 25) := ⟨_, rfl⟩
  have hb2 : Below W1.heap.size W1 W := by rw [hW]; exact below1 _ _
  have hrx : Bx 25 W W1.heap.size zr := by rw [hW]; exact Bx.new _ W1 _
  have hs1 : w.heap.size < W1.heap.size := hx1.lt
  have hs2 : W1.heap.size < W.heap.size := hrx.lt
  obtain ⟨B, hB⟩ : ∃ B, w.heap.size + 1 = B := ⟨_, rfl⟩
  rw [hsz1, hB] at hb2 hrx hs1 hs2
  have HX : Hid (Page.Box W w.heap.size (pgC p u) ∧ Bx 25 W B zr ∧ Below w.heap.size w W ∧ w.heap.size < B ∧ B < W.heap.size) := ⟨(hb2.block _ hs1).trans hx1, hrx, hb1.trans (hb2.mono (by omega)), hs1, hs2⟩
  obtain ⟨a, cap, hv, -⟩ := hR.len
  have HR := Lib.hid hR
  have HIS := Lib.hid (isR_is p)
  obtain ⟨n, hn⟩ : ∃ n, p.body.length = n := ⟨_, rfl⟩
  rw [hn] at hv hl HIS
  obtain ⟨m, hm⟩ : ∃ m, n / 2 = m := ⟨_, rfl⟩
  rw [hm] at HIS
  obtain ⟨i0, hi0⟩ : ∃ i0, p.id = i0 := ⟨_, rfl⟩
  obtain ⟨k0, hk0⟩ : ∃ k0, p.kind = k0 := ⟨_, rfl⟩
  obtain ⟨q, hq⟩ : ∃ q, idL m = q := ⟨_, rfl⟩
  have c0 : W.cell? ⟨w.heap.size, 0, none⟩ = some (.int .i64 k0) := by rw [← hk0]; exact HX.out.1.cell 0
  have c1 : W.cell? ⟨w.heap.size, 1, none⟩ = some (.int .i64 i0) := by rw [← hi0]; exact HX.out.1.cell 1
  have c3 : W.cell? ⟨w.heap.size, 3, none⟩ = some u := HX.out.1.cell 3
  have HC := show Hid _ from fun (d : Nat) (os : Array Obj) => Calls.regrown_of (calls_below (idOf_any m (by omega) (grow (redrawn W d) os)))
  rw [hq] at HC HIS
  rw [hi0, hk0] at HIS
  have L0 := show Hid _ from fun d os => cell_regrown c0 d os
  have L1 := show Hid _ from fun d os => cell_regrown c1 d os
  subst hv
  have L3 := show Hid _ from fun d os => cell_regrown c3 d os
  have HN := Lib.hid (And.intro hn (And.intro hm (And.intro hi0 hk0)))
  have d1 : (n : Int) / 2 = m := by omega
  have hn1 : (n : Int) ≤ 1000 := by omega
  have HW1 := Lib.hid hW1
  unfold pgC at HW1
  rw [hk0, hi0] at HW1
  unfold pgV pgC
  rw [hk0, hi0]
  unfold zr at hW
  clear hR hb1 hx1 hb2 hrx hs1 hs2 hn hm hi0 hk0 hW1 hq c0 c1
  refine (callsIn_wide (n := 8)).1 ?_
  refine callsIn_of_wp_marks Try.func18 rfl trivial ?_ rfl
  refine wpIn_wide.2 ?_
  simp only [Try.ntmps18, List.size_toArray, List.length_cons, List.length_nil, Nat.reduceAdd, Nat.reduceSub, Array.replicate_succ, Array.replicate_zero, List.push_toArray, List.append_toArray, List.nil_append, List.cons_append]
  go_upto_region 1 with fail
  rw [← HW1.out, ← hW]
  clear hW HW1 hB hsz1
  go_upto_region 2 with fail
  clear c3
  go_cut [27] from 11 to 27 (fun t wx => t = .bool (!isR p) ∧ Below W.heap.size W wx)
  case first =>
    by_cases hk : k0 = 2
    · subst hk
      by_cases ho : n % 2 = 0
      · have ht : (n : Int).tmod 2 = 0 := by rw [Int.tmod_eq_emod_of_nonneg (by omega)]; omega
        by_cases hi : i0 = q
        · subst hi
          have HE : Hid (isR p = true) := by show _ = _; rw [HIS.out, ho]; simp
          clear ho d1
          have L0 := L0.out
          have L1 := L1.out
          have L3 := L3.out
          have HC := HC.out
          go_wp2_with fail
          refine wp_region_quiet_below (by kernel_rfl) (by kernel_rfl) ?_
          repeat (go_big_quiet_step (exact HC _ _))
          refine wpQuiet_nil fun w1 hw1 => ?_
          have hb1 : Below W.heap.size W w1 := by obtain ⟨p, rfl⟩ := hw1; exact below_regrown W p.d p.os
          have HB1 := Lib.hid hb1
          clear hw1 hb1 HC L0 L1 L3
          go_wp2
          go_meet
          exact ⟨congrArg Value.bool (by rw [HE.out]; rfl), HB1.out⟩
        · have HE : Hid (isR p = false) := by show _ = _; rw [HIS.out]; simp [hi]
          have e1 : (i0 == q) = false := by simp [hi]
          have e2 : (i0 != q) = true := by simp [hi]
          clear ho hi d1
          have L0 := L0.out
          have L1 := L1.out
          have L3 := L3.out
          have HC := HC.out
          go_wp2_with fail
          refine wp_region_quiet_below (by kernel_rfl) (by kernel_rfl) ?_
          repeat (go_big_quiet_step (exact HC _ _))
          refine wpQuiet_nil fun w1 hw1 => ?_
          have hb1 : Below W.heap.size W w1 := by obtain ⟨p, rfl⟩ := hw1; exact below_regrown W p.d p.os
          have HB1 := Lib.hid hb1
          clear hw1 hb1 HC L0 L1 L3
          go_wp2
          go_meet
          exact ⟨congrArg Value.bool (by rw [HE.out]; rfl), HB1.out⟩
      · have ht : (n : Int).tmod 2 = 1 := by rw [Int.tmod_eq_emod_of_nonneg (by omega)]; omega
        have HE : Hid (isR p = false) := by show _ = _; rw [HIS.out]; simp [ho]
        clear ho d1
        have L0 := L0.out
        have L1 := L1.out
        have L3 := L3.out
        have HC := HC.out
        go_wp2_with fail
        refine wp_region_quiet_below (by kernel_rfl) (by kernel_rfl) ?_
        repeat (go_big_quiet_step (exact HC _ _))
        refine wpQuiet_nil fun w1 hw1 => ?_
        have hb1 : Below W.heap.size W w1 := by obtain ⟨p, rfl⟩ := hw1; exact below_regrown W p.d p.os
        have HB1 := Lib.hid hb1
        clear hw1 hb1 HC L0 L1 L3
        go_wp2
        go_meet
        exact ⟨congrArg Value.bool (by rw [HE.out]; rfl), HB1.out⟩
    · have HE : Hid (isR p = false) := by show _ = _; rw [HIS.out]; simp [hk]
      have e1 : (k0 == 2) = false := by simp [hk]
      have e2 : (k0 != 2) = true := by simp [hk]
      clear hk d1
      have L0 := L0.out
      have L1 := L1.out
      have L3 := L3.out
      have HC := HC.out
      go_wp2_with fail
      refine wp_region_quiet_below (by kernel_rfl) (by kernel_rfl) ?_
      repeat (go_big_quiet_step (exact HC _ _))
      refine wpQuiet_nil fun w1 hw1 => ?_
      have hb1 : Below W.heap.size W w1 := by obtain ⟨p, rfl⟩ := hw1; exact below_regrown W p.d p.os
      have HB1 := Lib.hid hb1
      clear hw1 hb1 HC L0 L1 L3
      go_wp2
      go_meet
      exact ⟨congrArg Value.bool (by rw [HE.out]; rfl), HB1.out⟩
  case rest =>
  obtain ⟨rfl, hb⟩ := hcut
  have HB := Lib.hid hb
  cases hR : isR p with
  | false =>
    have HE := Lib.hid hR
    have hbx := HX.out.2.1.later hb
    have st := hbx.st rfl zeroR (v := .slice none 0 0) rfl
    rw [← zr_is] at st
    unfold zr at st
    have hw2 := HX.out.2.2.1.trans (hb.mono HX.out.2.2.1.size)
    have FIN : Hid (OpenedPost p w (.returned (.tuple #[.agg zr, .bool false])) (wc.setRow B #[.int .u64 0, .slice none 0 0])) := by
      refine ⟨.slice none 0 0, by rw [hR]; rfl, by rw [hR]; exact OwnN.nil _ _, below_row hw2 hw2.size ?_ _⟩
      have := HX.out.2.2.2.1; omega
    have ld := (hbx.row #[.int .u64 0, .slice none 0 0]).ld rfl
    clear hb hbx hR hw2
    go_wp2
    exact ⟨.tuple #[.agg zr, .bool false], results_row_tmp rfl _ _ _ _ rfl rfl ld, FIN.out⟩
  | true =>
    have hk := HIS.out
    rw [hR] at hk
    have HE := Lib.hid hR
    have hkk : k0 = 2 ∧ n % 2 = 0 ∧ i0 = q := by simpa using hk.symm
    obtain ⟨rfl, hn2, rfl⟩ := hkk
    have HNM : Hid (n = 2 * m) := by show _ = _; have := HN.out.2.1; omega
    obtain ⟨g, hg⟩ : ∃ g, p.gen = g := ⟨_, rfl⟩
    have hpx := HX.out.1
    have HPX : Hid (∀ W', Below W.heap.size W W' → W'.cell? ⟨w.heap.size, 2, none⟩ = some (.int .u64 (g : Int)) ∧ W'.cell? ⟨w.heap.size, 3, none⟩ = some (.slice a n cap)) := fun W' h => ⟨by rw [← hg]; exact (hpx.later h).cell 2, (hpx.later h).cell 3⟩
    obtain ⟨c2, c3⟩ := HPX.out wc hb
    have st := ro_new wc ⟨g, []⟩ (v := .slice none 0 0) rfl
    obtain ⟨W4, hW4⟩ : ∃ W4, wc.alloc (.cells (roC ⟨g, []⟩ (.slice none 0 0)) 25) = W4 := ⟨_, rfl⟩
    have hbx4 : Bx 25 W4 wc.heap.size (roC ⟨g, []⟩ (.slice none 0 0)) := by rw [← hW4]; exact Bx.new _ wc _
    have hb4 : Below wc.heap.size wc W4 := by rw [← hW4]; exact below1 _ _
    rw [hW4] at st
    unfold zr roC at st
    dsimp only at st
    have c3' := (HPX.out W4 (hb.trans (hb4.mono hb.size))).2
    have HCK := Lib.hid (callsIn_wide.1 (chunk_in 8 (.slice a n cap) W4 rfl))
    obtain ⟨R, hRR⟩ : ∃ R, wc.heap.size = R := ⟨_, rfl⟩
    rw [hRR] at hbx4 hb4 st
    have H4 : Hid (Bx 25 W4 R (roC ⟨g, []⟩ (.slice none 0 0)) ∧ Below W.heap.size W W4 ∧ W.heap.size ≤ R ∧ R < W4.heap.size) := by
      have := hb.size
      exact ⟨hbx4, hb.trans (hb4.mono (by omega)), by omega, hbx4.lt⟩
    rw [hg]
    have HG := Lib.hid hg
    clear hk hR hn2 hpx hW4 hb hbx4 hb4 hg
    obtain ⟨S, hS⟩ : ∃ S, W4.heap.size = S := ⟨_, rfl⟩
    rw [hS] at HCK H4
    go_wp2_with fail
    (with_reducible refine HCK.out.mono ?_)
    rintro e W0 ⟨rfl, hW0⟩
    have H0 : Hid (Bx 29 W0 S #[.slice a (2 * m) cap] ∧ Bx 3 W0 (S + 1) #[.int .i64 2] ∧ Below W4.heap.size W4 W0 ∧ S + 1 < W0.heap.size) := by
      have h1 := Bx.new 29 W4 #[.slice a (2 * m) cap]
      have h2 := Bx.new 3 (W4.alloc (.cells #[.slice a (2 * m) cap] 29)) #[.int .i64 2]
      have hs2 : (W4.alloc (.cells #[.slice a (2 * m) cap] 29)).heap.size = S + 1 := by simp [hS]
      rw [hs2] at h2
      rw [hS] at h1
      rw [hW0, HNM.out]
      have h3 := below1 W4 (.cells #[.slice a (2 * m) cap] 29)
      have h4 := below1 (W4.alloc (.cells #[.slice a (2 * m) cap] 29)) (.cells #[.int .i64 2] 3)
      exact ⟨h1.later h4, h2, h3.trans (h4.mono h3.size), h2.lt⟩
    have HCAP : Hid (2 * m ≤ cap ∧ cap ≤ maxLen) := by
      obtain ⟨a', cap', e, h1, h2⟩ := HR.out.len
      cases e
      rw [HN.out.1, HNM.out] at h1
      exact ⟨h1, h2⟩
    obtain ⟨b, o, hform⟩ : ∃ b o, (0 < m → a = some ⟨b, o, none⟩) ∧ ∀ k, k < m → w.cell? ⟨b, o + 2 * k, none⟩ = some (byV (p.body.getD (2 * k) 0)) ∧ w.cell? ⟨b, o + 2 * k + 1, none⟩ = some (byV (p.body.getD (2 * k + 1) 0)) := by
      by_cases h0 : 0 < m
      · obtain ⟨b, o, cap', e, hc⟩ := HR.out.form (by rw [HN.out.1, HNM.out]; omega)
        cases e
        have hlen : p.body.length = 2 * m := by rw [HN.out.1, HNM.out]
        have hj : ∀ j, j < 2 * m → w.cell? ⟨b, o + j, none⟩ = some (byV (p.body.getD j 0)) := fun j hj => hc j _ (by rw [List.getD_eq_getElem?_getD, List.getElem?_eq_getElem (by omega)]; rfl)
        exact ⟨b, o, fun _ => rfl, fun k hk => ⟨hj (2 * k) (by omega), by rw [Nat.add_assoc]; exact hj (2 * k + 1) (by omega)⟩⟩
      · exact ⟨0, 0, fun h => absurd h h0, fun k hk => by omega⟩
    have HF := Lib.hid hform
    have HBW : Hid (Below w.heap.size w W4 ∧ w.heap.size ≤ W4.heap.size) := by
      have h := HX.out.2.2.1.trans (H4.out.2.1.mono HX.out.2.2.1.size)
      exact ⟨h, h.size⟩
    have HSZ : Hid (w.heap.size ≤ W0.heap.size ∧ R < S ∧ B < R ∧ S + 1 < W0.heap.size ∧ w.heap.size ≤ R ∧ w.heap.size < B) := by
      have h1 := HBW.out.2
      have h2 := H0.out.2.2.1.size
      have h3 := H4.out.2.2
      have h4 := HX.out.2.2.2
      have h5 := H0.out.2.2.2
      refine ⟨by omega, by omega, by omega, h5, by omega, by omega⟩
    have HI0 : Hid (LoopI p.body g w W0 B R ([] : List (Fin m)) W0) :=
      ⟨.slice none 0 0, H4.out.1.later H0.out.2.2.1, OwnN.nil _ _, ((HX.out.2.1.later H4.out.2.1).later H0.out.2.2.1), HBW.out.1.trans (H0.out.2.2.1.mono HBW.out.2), Nat.le_refl _⟩
    clear hW0 hform c2 c3 c3' st
    go_wp2_with fail
    refine (wpIn_wide (n := 8)).1 ?_
    refine wpIn_rangeFunc_ownH (n := 8) rfl (by omega) (gf := 38) (lb := #[.pointer (some ⟨S, 0, none⟩), .pointer (some ⟨S + 1, 0, none⟩)]) rfl trivial (enters_of Try.func38 (by kernel_rfl) rfl)
      (chunk_stops 7 (by omega) S (S + 1) m cap b o a HCAP.out.1 HCAP.out.2 HF.out.1 W0 H0.out.1 H0.out.2.1) (fun h k => h.trans k) (fun W l ob o' hl _ _ _ => KpC.put W l o' (by have := HSZ.out; omega) (by have := HSZ.out; omega)) (Below.refl _ _) (fun _ => rfl)
      (fun (pre : List (Fin m)) W => LoopI p.body g w W0 B R pre W) (fun _ _ _ => False) (LoopI.own HSZ.out.1) (fun _ _ _ _ _ hs _ _ => hs) HI0.out
      (fun (x : Fin m) a' W => a' = { tmps := #[.agg #[.int .i64 2, .int .i64 i0, .int .u64 (g : Int), .slice a n cap], .pointer (some ⟨w.heap.size, 0, none⟩), .pointer (some ⟨B, 0, none⟩), .bool false, .int .i64 (m : Int), .pointer (some ⟨R, 0, none⟩), .slice (some ⟨b, o + 2 * x.val, none⟩) 2 2, .pointer (some ⟨w.heap.size, 3, none⟩), .slice a n cap, .int .i64 (n : Int), .int .i64 (m : Int), u11, u12, u13, u14, u15, u16, u17, u18, u19, u20, u21, u22, u23, u24, u25, u26, .bool false, undef, .pointer (some ⟨w.heap.size, 2, none⟩), .int .u64 (g : Int), .agg #[.int .u64 (g : Int), .slice none 0 0], .pointer (some ⟨w.heap.size, 3, none⟩), .slice a n cap, .func (.func 38) #[] #[.pointer (some ⟨S, 0, none⟩), .pointer (some ⟨S + 1, 0, none⟩)], .slice (some ⟨b, o + 2 * x.val, none⟩) 2 2, undef, undef, undef, undef, undef, undef, undef, undef, undef, undef, undef, undef, undef, undef, undef, undef], defers := [] }) (fun _ _ _ _ _ _ hs _ _ => hs)
      ?assign ?body ?done ?stop
    case assign =>
      intro l1 pre x W K hI hK
      unfold encC
      gi_wp2
      exact hK _ _ (KeepsFrom.refl _ _) (KpC.refl _ _ _) hI rfl
    case body =>
      rintro l1 pre x a' W6 hl1 - hI rfl hlen
      dsimp only
      obtain ⟨xv, h1, h2, h3, h4, h5⟩ := hI
      have hz := HSZ.out
      obtain ⟨e0, e1⟩ := HF.out.2 x.val x.isLt
      obtain ⟨J, hJ⟩ : ∃ J, o + 2 * x.val = J := ⟨_, rfl⟩
      rw [hJ] at e0 e1 ⊢
      have hN2 := numsF_next p.body pre x
      unfold pairAt pairN at hN2
      obtain ⟨z0, hz0⟩ : ∃ z, p.body.getD (2 * x.val) 0 = z := ⟨_, rfl⟩
      obtain ⟨z1, hz1⟩ : ∃ z, p.body.getD (2 * x.val + 1) 0 = z := ⟨_, rfl⟩
      rw [hz0] at e0 hN2
      rw [hz1] at e1 hN2
      have hy0 : z0.toNat < 256 := z0.toNat_lt
      have hy1 : z1.toNat < 256 := z1.toNat_lt
      unfold byV at e0 e1
      obtain ⟨y0, hy0'⟩ : ∃ y, z0.toNat = y := ⟨_, rfl⟩
      obtain ⟨y1, hy1'⟩ : ∃ y, z1.toNat = y := ⟨_, rfl⟩
      rw [hy0'] at e0 hN2 hy0
      rw [hy1'] at e1 hN2 hy1
      have HC0 := Lib.hid (keep_cell e0 h4)
      have HC1 := Lib.hid (keep_cell e1 h4)
      obtain ⟨ax, cx, hx, -⟩ := h2.rd.len
      subst hx
      have HLX : Hid ((numsF p.body pre).length ≤ 1000) := by
        show _ ≤ _
        unfold numsF
        rw [List.length_map]
        have := HNM.out
        omega
      have HN2 := Lib.hid hN2
      obtain ⟨L, hL⟩ : ∃ L, numsF p.body pre = L := ⟨_, rfl⟩
      rw [hL] at h1 h2 HN2 HLX
      obtain ⟨nx, hnx⟩ : ∃ nx, L.length = nx := ⟨_, rfl⟩
      rw [hnx] at h1 h2
      have HCX : Hid (W6.cell? ⟨R, 1, none⟩ = some (.slice ax nx cx)) := h1.cell 1
      have HW01 : Hid (IntKind.i64.wrap (y0 : Int) = y0 ∧ IntKind.i64.wrap (y1 : Int) = y1) := ⟨by rw [IntKind.wrap_i64]; omega, by rw [IntKind.wrap_i64]; omega⟩
      have HWS : Hid (IntKind.i64.wrap ((y0 : Int) * 256) = (y0 : Int) * 256) := by show _ = _; rw [IntKind.wrap_i64]; omega
      have HOR := Lib.hid (join_num y0 y1 hy0 hy1)
      have HI := Lib.hid (And.intro h1 (And.intro h2 (And.intro h3 (And.intro h4 h5))))
      clear h1 h2 h3 h4 h5 hz e0 e1 hJ hlen hN2 hz0 hz1 hy0 hy1 hy0' hy1' hL hnx
      gi_wp2
      refine region_slots_tail_in 13 (fun ⟨_, _, h⟩ => h) (by kernel_rfl) (by kernel_rfl) (by kernel_rfl) (by kernel_rfl) (Gof [Gd.eq (.pointer (some ⟨R, 1, none⟩)), Gd.eq (.slice ax nx cx), Gd.eq (.slice (some ⟨b, J, none⟩) 2 2), Gd.eq (.pointer (some ⟨b, J, none⟩)), Gd.eq (.int .u8 (y0 : Int)), Gd.eq (.int .i64 (y0 : Int)), Gd.eq (.int .i64 ((y0 : Int) * 256)), Gd.eq (.slice (some ⟨b, J, none⟩) 2 2), Gd.eq (.pointer (some ⟨b, J + 1, none⟩)), Gd.eq (.int .u8 (y1 : Int)), Gd.eq (.int .i64 (y1 : Int)), Gd.eq (.int .i64 ((y0 * 256 + y1 : Nat) : Int)), Gd.nums [((y0 * 256 + y1 : Nat) : Int)]]) (Gof_st _) (steps_all ?_) ?_
      · dsimp only [headOps, List.take]
        refine StepsFrom.cons ?s0 (StepsFrom.cons ?s1 (StepsFrom.cons ?s2 (StepsFrom.cons ?s3 (StepsFrom.cons ?s4 (StepsFrom.cons ?s5 (StepsFrom.cons ?s6 (StepsFrom.cons ?s7 (StepsFrom.cons ?s8 (StepsFrom.cons ?s9 (StepsFrom.cons ?s10 (StepsFrom.cons ?s11 (StepsFrom.cons ?s12 StepsFrom.nil))))))))))))
        case s0 =>
          intro ac wc hU
          have e5 : slot ac 5 = .pointer (some ⟨R, 0, none⟩) := (hU.keep 5 (by kernel_rfl)).trans rfl
          refine step_val (wanted_none rfl) (v := .pointer (some ⟨R, 1, none⟩)) ?_ rfl
          have e5 : slot ac 5 = .pointer (some ⟨R, 0, none⟩) := e5
          simp [execOp, eval_tmp, e5] <;> go_simp
        case s1 =>
          intro ac wc hU
          have e36 : (Gd.eq (.pointer (some ⟨R, 1, none⟩))).p (slot ac 36) wc := hU.dep 0 36 (by kernel_rfl)
          refine step_val (wanted_none rfl) (v := .slice ax nx cx) ?_ rfl
          have c := keep_cell HCX.out hU.below
          have e36 : slot ac 36 = .pointer (some ⟨R, 1, none⟩) := e36
          simp [execOp, eval_tmp, e36] <;> go_simp
        case s2 =>
          intro ac wc hU
          have e6 : slot ac 6 = .slice (some ⟨b, J, none⟩) 2 2 := (hU.keep 6 (by kernel_rfl)).trans rfl
          refine step_val (wanted_none rfl) (run_move rfl) ?_
          show (Gd.eq (.slice (some ⟨b, J, none⟩) 2 2)).p _ wc
          exact (by rw [eval_tmp]; exact e6)
        case s3 =>
          intro ac wc hU
          have e38 : (Gd.eq (.slice (some ⟨b, J, none⟩) 2 2)).p (slot ac 38) wc := hU.dep 2 38 (by kernel_rfl)
          refine step_val (wanted_none rfl) (v := .pointer (some ⟨b, J, none⟩)) ?_ rfl
          have e38 : slot ac 38 = .slice (some ⟨b, J, none⟩) 2 2 := e38
          simp [execOp, eval_tmp, eval_const, e38] <;> go_simp
        case s4 =>
          intro ac wc hU
          have e39 : (Gd.eq (.pointer (some ⟨b, J, none⟩))).p (slot ac 39) wc := hU.dep 3 39 (by kernel_rfl)
          refine step_val (wanted_none rfl) (v := .int .u8 (y0 : Int)) ?_ rfl
          have c := keep_cell HC0.out hU.below
          have e39 : slot ac 39 = .pointer (some ⟨b, J, none⟩) := e39
          simp [execOp, eval_tmp, e39] <;> go_simp
        case s5 =>
          intro ac wc hU
          have e40 : (Gd.eq (.int .u8 (y0 : Int))).p (slot ac 40) wc := hU.dep 4 40 (by kernel_rfl)
          refine step_val (wanted_none rfl) (v := .int .i64 (y0 : Int)) ?_ rfl
          have e40 : slot ac 40 = .int .u8 (y0 : Int) := e40
          simp [execOp, eval_tmp, e40] <;> go_simp
          exact HW01.out.1
        case s6 =>
          intro ac wc hU
          have e41 : (Gd.eq (.int .i64 (y0 : Int))).p (slot ac 41) wc := hU.dep 5 41 (by kernel_rfl)
          refine step_val (wanted_none rfl) (v := .int .i64 ((y0 : Int) * 256)) ?_ rfl
          have e41 : slot ac 41 = .int .i64 (y0 : Int) := e41
          simp [execOp, eval_tmp, eval_const, e41] <;> go_simp
          exact HWS.out
        case s7 =>
          intro ac wc hU
          have e6 : slot ac 6 = .slice (some ⟨b, J, none⟩) 2 2 := (hU.keep 6 (by kernel_rfl)).trans rfl
          refine step_val (wanted_none rfl) (run_move rfl) ?_
          show (Gd.eq (.slice (some ⟨b, J, none⟩) 2 2)).p _ wc
          exact (by rw [eval_tmp]; exact e6)
        case s8 =>
          intro ac wc hU
          have e43 : (Gd.eq (.slice (some ⟨b, J, none⟩) 2 2)).p (slot ac 43) wc := hU.dep 7 43 (by kernel_rfl)
          refine step_val (wanted_none rfl) (v := .pointer (some ⟨b, J + 1, none⟩)) ?_ rfl
          have e43 : slot ac 43 = .slice (some ⟨b, J, none⟩) 2 2 := e43
          simp [execOp, eval_tmp, eval_const, e43] <;> go_simp
        case s9 =>
          intro ac wc hU
          have e44 : (Gd.eq (.pointer (some ⟨b, J + 1, none⟩))).p (slot ac 44) wc := hU.dep 8 44 (by kernel_rfl)
          refine step_val (wanted_none rfl) (v := .int .u8 (y1 : Int)) ?_ rfl
          have c := keep_cell HC1.out hU.below
          have e44 : slot ac 44 = .pointer (some ⟨b, J + 1, none⟩) := e44
          simp [execOp, eval_tmp, e44] <;> go_simp
        case s10 =>
          intro ac wc hU
          have e45 : (Gd.eq (.int .u8 (y1 : Int))).p (slot ac 45) wc := hU.dep 9 45 (by kernel_rfl)
          refine step_val (wanted_none rfl) (v := .int .i64 (y1 : Int)) ?_ rfl
          have e45 : slot ac 45 = .int .u8 (y1 : Int) := e45
          simp [execOp, eval_tmp, e45] <;> go_simp
          exact HW01.out.2
        case s11 =>
          intro ac wc hU
          have e42 : (Gd.eq (.int .i64 ((y0 : Int) * 256))).p (slot ac 42) wc := hU.dep 6 42 (by kernel_rfl)
          have e46 : (Gd.eq (.int .i64 (y1 : Int))).p (slot ac 46) wc := hU.dep 10 46 (by kernel_rfl)
          refine step_val (wanted_none rfl) (v := .int .i64 ((y0 * 256 + y1 : Nat) : Int)) ?_ rfl
          have e42 : slot ac 42 = .int .i64 ((y0 : Int) * 256) := e42
          have e46 : slot ac 46 = .int .i64 (y1 : Int) := e46
          simp [execOp, eval_tmp, e42, e46] <;> go_simp
          exact HOR.out
        case s12 =>
          intro ac wc hU
          have e47 : (Gd.eq (.int .i64 ((y0 * 256 + y1 : Nat) : Int))).p (slot ac 47) wc := hU.dep 11 47 (by kernel_rfl)
          refine step_mem (wanted_none rfl) (v := .slice (some ⟨wc.heap.size, 0, none⟩) 1 1) (w' := wc.alloc (.cells #[.int .i64 ((y0 * 256 + y1 : Nat) : Int)] 3)) ?_ ((Below.refl _ _).alloc (Nat.le_refl _) _) (one_num wc _)
          have e47 : slot ac 47 = .int .i64 ((y0 * 256 + y1 : Nat) : Int) := e47
          simp [execOp, eval_tmp, e47] <;> go_simp
      · intro ac wc hU
        have hlit := act_puts hU (by kernel_rfl) [36, 37, 38, 39, 40, 41, 42, 43, 44, 45, 46, 47, 48] (by kernel_rfl)
        have f36 : slot ac 36 = .pointer (some ⟨R, 1, none⟩) := hU.last 0 36 (by kernel_rfl)
        have f37 : slot ac 37 = .slice ax nx cx := hU.last 1 37 (by kernel_rfl)
        have f38 : slot ac 38 = .slice (some ⟨b, J, none⟩) 2 2 := hU.last 2 38 (by kernel_rfl)
        have f39 : slot ac 39 = .pointer (some ⟨b, J, none⟩) := hU.last 3 39 (by kernel_rfl)
        have f40 : slot ac 40 = .int .u8 (y0 : Int) := hU.last 4 40 (by kernel_rfl)
        have f41 : slot ac 41 = .int .i64 (y0 : Int) := hU.last 5 41 (by kernel_rfl)
        have f42 : slot ac 42 = .int .i64 ((y0 : Int) * 256) := hU.last 6 42 (by kernel_rfl)
        have f43 : slot ac 43 = .slice (some ⟨b, J, none⟩) 2 2 := hU.last 7 43 (by kernel_rfl)
        have f44 : slot ac 44 = .pointer (some ⟨b, J + 1, none⟩) := hU.last 8 44 (by kernel_rfl)
        have f45 : slot ac 45 = .int .u8 (y1 : Int) := hU.last 9 45 (by kernel_rfl)
        have f46 : slot ac 46 = .int .i64 (y1 : Int) := hU.last 10 46 (by kernel_rfl)
        have f47 : slot ac 47 = .int .i64 ((y0 * 256 + y1 : Nat) : Int) := hU.last 11 47 (by kernel_rfl)
        have f48 : (Gd.nums [((y0 * 256 + y1 : Nat) : Int)]).p (slot ac 48) wc := hU.last 12 48 (by kernel_rfl)
        have HU := Lib.hid hU.below
        simp only [puts, List.foldl, Act.put, List.setIfInBounds_toArray, List.set_cons_zero, List.set_cons_succ, f36, f37, f38, f39, f40, f41, f42, f43, f44, f45, f46, f47] at hlit
        rw [hlit]
        clear hlit hU f36 f37 f38 f39 f40 f41 f42 f43 f44 f45 f46 f47
        simp only [List.drop_succ_cons, List.drop_zero]
        have hi := HI.out
        have hu := HU.out
        have own0 := hi.2.1.later hu
        have hbs := Nat.le_trans hi.2.2.2.2 hu.size
        have hbx0 := hi.1.later hu
        have hbq0 := hi.2.2.1.later hu
        have hbw0 := hi.2.2.2.1.trans (hu.mono hi.2.2.2.1.size)
        obtain ⟨v48, hv48⟩ : ∃ v, slot ac 48 = v := ⟨_, rfl⟩
        rw [hv48] at f48 ⊢
        clear hv48
        refine wpList_appendN rfl (.tmp 37) (.tmp 48) rfl rfl rfl own0 f48 hbs (by have := HLX.out; simp only [List.length_singleton]; omega) ?_
        intro v9 w9 g1 g2
        obtain ⟨z, hz⟩ : ∃ z, ((y0 * 256 + y1 : Nat) : Int) = z := ⟨_, rfl⟩
        rw [hz] at g1 HN2
        have hb9 := own0.below g2 hbs
        have hzz := HSZ.out
        have hbx9 : Bx 25 w9 R (roC ⟨g, L⟩ (.slice ax nx cx)) := hbx0.upto hb9 (by omega)
        have hbq9 : Bx 25 w9 B zr := hbq0.upto hb9 (by omega)
        have c9 : w9.cell? ⟨R, 1, none⟩ = some (.slice ax nx cx) := hbx9.cell 1
        have fr9 : w9.frozen? ⟨R, 1, none⟩ = false := frozen_of_row w9 R 1 _ _ hbx9
        obtain ⟨a10, c10, hx10, -⟩ := g1.rd.len
        obtain ⟨n10, hn10⟩ : ∃ n, (L ++ [z]).length = n := ⟨_, rfl⟩
        rw [hn10] at hx10
        subst hx10
        have e9 : w9.setCell ⟨R, 1, none⟩ (.slice a10 n10 c10) = w9.setRow R (roC ⟨g, L ++ [z]⟩ (.slice a10 n10 c10)) := setCell_eq_setRow _ R 1 _ _ _ _ hbx9
        have FIN : Hid (ownPostG W0.heap.size (KpC S (S + 1)) (fun pre W => LoopI p.body g w W0 B R pre W) (fun _ _ _ => False) (pre ++ [x]) W6 .normal { tmps := #[], defers := [] } (w9.setCell ⟨R, 1, none⟩ (.slice a10 n10 c10))) := by
          rw [e9]
          have hs9 : wc.heap.size ≤ w9.heap.size := g2.size
          refine ⟨⟨?_, ?_⟩, ⟨?_, ?_, ?_⟩, .slice a10 n10 c10, ?_, ?_, ?_, ?_, ?_⟩
          · rw [row_size]; exact Nat.le_trans hu.size hs9
          · intro k ob hk h1 h2
            have h3 : wc.heap[k]? = some ob := (hu.block k (Array.getElem?_eq_some_iff.1 h1).1).trans h1
            rw [setRow_other _ _ _ _ (by omega)]
            refine (g2.block k (Array.getElem?_eq_some_iff.1 h3).1 (fun e => ?_)).trans h3
            rcases own0.2 with ⟨q1, -⟩ | ⟨gb, cap0, cur0, q1, -, q3, -⟩
            · rw [q1] at e; cases e
            · rw [q1] at e
              cases e
              rw [h3] at q3
              cases q3
              cases h2
          · rw [row_size]; exact Nat.le_trans hu.size hs9
          · rw [setRow_other _ _ _ _ (by omega), hb9.block S (by omega), hu.block S (by have := hi.2.2.2.2; omega)]
          · rw [setRow_other _ _ _ _ (by omega), hb9.block (S + 1) (by omega), hu.block (S + 1) (by have := hi.2.2.2.2; omega)]
          · rw [HN2.out]; exact hbx9.row _
          · rw [HN2.out]; exact own_rowN g1 _ (by omega)
          · exact hbq9.other (by omega) _
          · exact below_row (hbw0.trans (hb9.mono (by omega))) (by omega) (by omega) _
          · rw [row_size]; omega
        clear hi hu own0 hbs hbx0 hbq0 hbw0 f48 g1 g2 hb9 hzz hbx9 hbq9 hn10 e9 hz
        go_wp2
        exact FIN.out
    case done =>
      rintro D xs W6 hD hall ⟨x, h1, h2, h3, h4, h5⟩ hK
      rw [numsF_all hall (by rw [HN.out.1]; exact HN.out.2.1)] at h1 h2
      have hz := HSZ.out
      obtain ⟨a9, c9, hx9, -⟩ := h2.rd.len
      have hone : x.oneCell' = true := RdN.one h2.rd
      have ld := h1.ld rfl
      have st := h3.st rfl ⟨g, numsL p.body⟩ hone
      have hB7 := h3.row (roC ⟨g, numsL p.body⟩ x)
      have ho7 := own_rowN h2 (B := B) (roC ⟨g, numsL p.body⟩ x) (by omega)
      have hb7 := below_row h4 h4.size (by omega : w.heap.size ≤ B) (roC ⟨g, numsL p.body⟩ x)
      have hK7 : (W6.setRow B (roC ⟨g, numsL p.body⟩ x)).heap[D]? = some (.deferred (some [])) := by rw [setRow_other _ _ _ _ (by omega)]; exact hK
      have hsz7 := row_size W6 B (roC ⟨g, numsL p.body⟩ x)
      obtain ⟨W7, hW7⟩ : ∃ W7, W6.setRow B (roC ⟨g, numsL p.body⟩ x) = W7 := ⟨_, rfl⟩
      rw [hW7] at st hB7 ho7 hb7 hK7 hsz7
      have hgp := grownBy_putObj' W7 D (.deferred none)
      have hgr : ∀ r, some D = some r → ∃ o : Obj, W7.heap[r]? = some o ∧ o.isCells = false := fun r e => by cases e; exact ⟨_, hK7, rfl⟩
      have hld : (roLoad ⟨B, 0, none⟩).run Try.prog (W7.putObj D (.deferred none)) = .ok (.agg (roC ⟨g, numsL p.body⟩ x)) (W7.putObj D (.deferred none)) := (hB7.walked hgp hgr).ld rfl
      have FIN : Hid (OpenedPost p w (.returned (.tuple #[.agg (roC ⟨g, numsL p.body⟩ x), .bool true])) (W7.putObj D (.deferred none))) := by
        refine ⟨x, ?_, ?_, hb7.grown hgp hb7.size (fun k e => by cases e; omega)⟩
        · rw [HE.out, if_pos rfl]
          show _ = Ending.returned (.tuple #[.agg #[.int .u64 ((openR p).gen : Int), x], .bool true])
          rw [show (openR p).gen = g from HG.out]; rfl
        · rw [HE.out, if_pos rfl]
          exact (ho7.walked hgp hgr).mono (by omega)
      have HK7 := Lib.hid hK7
      have HLD := Lib.hid hld
      unfold roC at ld st
      dsimp only at ld st
      clear h1 h2 h3 h4 h5 hK hz hone hB7 ho7 hb7 hK7 hsz7 hW7 hgp hgr hld hall hx9
      go_wp2
      refine ⟨by simp, .inl ⟨_, _, rfl, run_takeDeferred HK7.out, ?_⟩⟩
      exact ⟨.tuple #[.agg (roC ⟨g, numsL p.body⟩ x), .bool true], results_row_tmp rfl _ _ _ _ rfl rfl HLD.out, FIN.out⟩
    case stop =>
      rintro D c pre W6 hD hpart hx hK
      exact hx.elim
end Go.Proofs.Ytjlmkhomedoolaa.Root
