/- root.Most, wrong, idOf; slices.IndexFunc and ContainsFunc at numbers by wrong; the document's Ints and Same: what each hands back. -/
import Derived.Test.YtjlmkhomedoolaaRootMem
namespace Go.Proofs.Ytjlmkhomedoolaa.Root
open Go.RowKit Go.Sort Go.Shelf Go.Proofs.Ytjlmkhomedoolaa Go.Proofs.Ytjlmkhomedoolaa.Page
attribute [local go_sem ↓] slice_bytes loadVar_ro storeVar_ro

set_option maxHeartbeats 1000000 in
theorem most_any (n : Int) (w : World) : Calls Try.prog 11 #[.int .i64 n] w fun e w' => e = .returned (.int .i64 (mostI n)) ∧ w = w' := by
  have HC := Lib.hid (room_any n w)
  have hb : 0 ≤ roomI n ∧ roomI n ≤ 240 := by
    unfold roomI
    split
    · rename_i h; have := sized_iff.1 h; omega
    · omega
  obtain ⟨h1, h2⟩ := hb
  have HM : Hid (mostI n = min 64 (roomI n / 2)) := rfl
  obtain ⟨r, hr⟩ : ∃ r, roomI n = r := ⟨_, rfl⟩
  rw [hr] at HC HM h1 h2
  clear hr
  rw [HM.out]
  clear HM
  by_cases h : r / 2 < 64
  · have HE : Hid (min 64 (r / 2) = r / 2) := by show _ = _; omega
    rw [HE.out]
    go_enter Try.func11, Try.ntmps11
    go_wp2_with fail
    with_reducible refine HC.out.mono ?_
    rintro e w' ⟨rfl, rfl⟩
    go_wp2
    go_ret
    exact ⟨rfl, rfl⟩
  · have HE : Hid (min 64 (r / 2) = 64) := by show _ = _; omega
    rw [HE.out]
    go_enter Try.func11, Try.ntmps11
    go_wp2_with fail
    with_reducible refine HC.out.mono ?_
    rintro e w' ⟨rfl, rfl⟩
    go_wp2
    go_ret
    exact ⟨rfl, rfl⟩
set_option maxHeartbeats 1000000 in
theorem idOf_any (n : Nat) (hn : (n : Int) ≤ 9223372036854775807) (w : World) : Calls Try.prog 25 #[.int .i64 (n : Int)] w fun e w' => e = .returned (.int .i64 (idL n)) ∧ w = w' := by
  have HM : Hid (idL n = max ((n : Int) - 1) 0) := rfl
  rw [HM.out]
  clear HM
  by_cases h : n = 0
  · subst h
    go_enter Try.func25, Try.ntmps25
    go_wp2
    go_ret
    exact ⟨rfl, rfl⟩
  · have h1 : 0 < n := by omega
    have HE : Hid (max ((n : Int) - 1) 0 = (n : Int) - 1) := by show _ = _; omega
    rw [HE.out]
    clear h
    go_enter Try.func25, Try.ntmps25
    go_wp2
    go_ret
    exact ⟨rfl, rfl⟩
set_option maxHeartbeats 1000000 in
theorem wrong_any (x : Int) (w : World) : Calls Try.prog 16 #[.int .i64 x] w fun e w' => e = .returned (.bool (wrongB x)) ∧ w = w' := by
  by_cases h1 : x < 0
  · have HF : Hid (wrongB x = true) := by show _ = _; simp [wrongB, h1]
    rw [HF.out]
    go_enter Try.func16, Try.ntmps16
    go_wp2
    go_ret
    exact ⟨rfl, rfl⟩
  · by_cases h2 : 65535 < x
    · have HF : Hid (wrongB x = true) := by show _ = _; simp [wrongB, h2]
      rw [HF.out]
      go_enter Try.func16, Try.ntmps16
      go_wp2
      go_ret
      exact ⟨rfl, rfl⟩
    · have HF : Hid (wrongB x = false) := by show _ = _; simp [wrongB]; omega
      rw [HF.out]
      go_enter Try.func16, Try.ntmps16
      go_wp2
      go_ret
      exact ⟨rfl, rfl⟩

def Clear (l : List Int) (i : Nat) : Prop := ∀ (j : Nat) x, j < i → l[j]? = some x → wrongB x = false
def IdxAt (l : List Int) (z : Int) : Prop := (l.any wrongB = false ∧ z = -1) ∨ (l.any wrongB = true ∧ 0 ≤ z)
theorem clear_all {l : List Int} (h : Clear l l.length) : l.any wrongB = false := by
  rw [List.any_eq_false]
  intro x hx
  obtain ⟨i, hi, rfl⟩ := List.mem_iff_getElem.1 hx
  rw [h i _ hi (List.getElem?_eq_getElem hi)]; decide
theorem Clear.next {l : List Int} {i : Nat} {x : Int} (h : Clear l i) (hx : l[i]? = some x) (hp : wrongB x = false) : Clear l (i + 1) := fun j c hj hc => by
  by_cases e : j = i
  · subst e; rw [hx] at hc; cases hc; exact hp
  · exact h j c (by omega) hc
theorem hit_any {l : List Int} {i : Nat} {x : Int} (hx : l[i]? = some x) (hp : wrongB x = true) : l.any wrongB = true := by
  rw [List.any_eq_true]; exact ⟨x, List.mem_iff_getElem?.2 ⟨i, hx⟩, hp⟩

set_option maxHeartbeats 1000000 in
set_option maxRecDepth 100000 in
theorem indexN_any (l : List Int) (v : Value) (w : World) (hR : RdN w v l) :
    Calls Try.prog 27 #[v, .func (.func 16) #[] #[]] w fun e w' => ∃ z, e = .returned (.int .i64 z) ∧ IdxAt l z ∧ w = w' := by
  obtain ⟨n, hn⟩ : ∃ n, n = l.length := ⟨_, rfl⟩
  have HN := Lib.hid hn
  have eg : ∀ args W, (callFunc 16 args).run Try.prog W = .ok (.enter 16 args) W := enters_of Try.func16 (by kernel_rfl) rfl
  by_cases h0 : n = 0
  · obtain ⟨a, cap, hv, -, -⟩ := hR.len
    rw [← hn, h0] at hv
    subst hv
    have HE : Hid (IdxAt l (-1)) := .inl ⟨clear_all (fun j y hj => absurd hj (by omega)), rfl⟩
    clear hR hn h0
    go_enter Try.func27, Try.ntmps27
    go_wp2
    go_loop [5, 8] (fun _ t => t = .int .i64 0) (fun _ _ => 0)
    case atStart => exact rfl
    case round =>
      subst hrel
      go_wp2
      go_ret
      exact ⟨_, rfl, HE.out, rfl⟩
  · have hlm := hR.len
    obtain ⟨bb, o, cap, hv, hcs⟩ := hR.form (by omega)
    rw [← hn] at hv
    subst hv
    obtain ⟨_, _, hlm1, hlm2, hlm3⟩ := hlm
    unfold maxLen at hlm3
    have hn63 : (n : Int) ≤ 9223372036854775807 := by omega
    have HL := Lib.hid hcs
    clear hR hn hcs hlm1 hlm2 hlm3
    go_enter Try.func27, Try.ntmps27
    go_wp2
    go_loop [5, 8] (fun _ t => ∃ i : Nat, i ≤ n ∧ t = .int .i64 i ∧ Hid (Clear l i)) (fun _ t => n - (intOf t).toNat)
    case atStart => exact ⟨0, Nat.zero_le _, rfl, fun j y hj => absurd hj (Nat.not_lt_zero _)⟩
    case round =>
      obtain ⟨i, hi, rfl, HF⟩ := hrel
      by_cases hlt : i < n
      · have hltI : (i : Int) < n := by omega
        obtain ⟨y, hy⟩ : ∃ y, l[i]? = some y := ⟨l[i]'(by rw [← HN.out]; exact hlt), List.getElem?_eq_getElem _⟩
        have hld : w.cell? ⟨bb, o + i, none⟩ = some (.int .i64 y) := HL.out i y hy
        have hcc := wrong_any y w
        cases hp : wrongB y with
        | false =>
          have HP : Hid (Clear l (i + 1)) := HF.out.next hy hp
          rw [hp] at hcc
          have HD := Lib.hid hcc
          clear hcc hp hy
          go_wp2_with (go_at_fn 16; refine HD.out.mono ?_; rintro e w' ⟨rfl, rfl⟩)
          go_round
          case rel => exact ⟨i + 1, by omega, by go_num, HP⟩
          case measure => simp [intOf]; omega
        | true =>
          have HP : Hid (IdxAt l (i : Int)) := .inr ⟨hit_any hy hp, by omega⟩
          rw [hp] at hcc
          have HD := Lib.hid hcc
          clear hcc hp hy
          go_wp2_with (go_at_fn 16; refine HD.out.mono ?_; rintro e w' ⟨rfl, rfl⟩)
          go_ret
          exact ⟨_, rfl, HP.out, rfl⟩
      · obtain rfl : i = n := by omega
        have HE : Hid (IdxAt l (-1)) := .inl ⟨clear_all (by rw [← HN.out]; exact HF.out), rfl⟩
        go_wp2
        go_ret
        exact ⟨_, rfl, HE.out, rfl⟩
set_option maxHeartbeats 1000000 in
theorem containsN_any (l : List Int) (v : Value) (w : World) (hR : RdN w v l) :
    Calls Try.prog 15 #[v, .func (.func 16) #[] #[]] w fun e w' => e = .returned (.bool (l.any wrongB)) ∧ w = w' := by
  have HC := Lib.hid (indexN_any l v w hR)
  clear hR
  go_enter Try.func15, Try.ntmps15
  go_wp2_with fail
  with_reducible refine HC.out.mono ?_
  rintro e w' ⟨z, rfl, h, rfl⟩
  rcases h with ⟨h1, rfl⟩ | ⟨h1, h2⟩
  · have H1 := Lib.hid h1
    clear h1
    go_wp2
    go_ret
    exact ⟨by rw [H1.out]; rfl, rfl⟩
  · have H1 := Lib.hid h1
    clear h1
    go_wp2
    go_ret
    exact ⟨by rw [H1.out]; rfl, rfl⟩

set_option maxHeartbeats 2000000 in
set_option maxRecDepth 100000 in
/-- The document's Ints, of any two. -/
theorem ints_any (u v : Value) (l m : List Int) (w : World) (hu : RdN w u l) (hv : RdN w v m) :
    Calls Try.prog 19 #[u, v] w fun e w' => e = .returned (.bool (decide (l = m))) ∧ Below w.heap.size w w' := by
  by_cases hlm : l.length = m.length
  · have HLM := Lib.hid hlm
    have HR := Lib.hid (And.intro hu hv)
    obtain ⟨a1, p1, e1, h1, h2⟩ := hu.len
    obtain ⟨a2, p2, e2, -⟩ := hv.len
    obtain ⟨n, hn⟩ : ∃ n, l.length = n := ⟨_, rfl⟩
    have HN := Lib.hid hn
    rw [← hlm] at e2
    rw [hn] at e1 e2 h1
    have hm : n ≤ 9223372036854775807 := by unfold maxLen at h2; omega
    subst e1 e2
    clear hu hv hn h1 h2 hlm
    go_enter Try.func19, Try.ntmps19
    go_wp2
    go_loopw [5] (fun i wr => ∃ k : Nat, k ≤ n ∧ i = .int .i64 k ∧ Hid (l.take k = m.take k) ∧ Below w.heap.size w wr) (fun i _ => n - (intOf i).toNat)
    case atStart => exact ⟨0, Nat.zero_le _, rfl, rfl, Below.refl _ _⟩
    case round =>
      obtain ⟨k, hk, rfl, HT, hb⟩ := hrel
      have HB := Lib.hid hb
      clear hb
      by_cases hlt : k < n
      · have hltI : (k : Int) < n := by omega
        obtain ⟨b1, o1, q1, e1, hc1⟩ := HR.out.1.form (by rw [HN.out]; omega)
        obtain ⟨b2, o2, q2, e2, hc2⟩ := HR.out.2.form (by rw [← HLM.out, HN.out]; omega)
        rw [HN.out] at e1
        rw [← HLM.out, HN.out] at e2
        cases e1
        cases e2
        obtain ⟨x, hx⟩ : ∃ x, l[k]? = some x := ⟨_, List.getElem?_eq_getElem (by rw [HN.out]; exact hlt)⟩
        obtain ⟨y, hy⟩ : ∃ y, m[k]? = some y := ⟨_, List.getElem?_eq_getElem (by rw [← HLM.out, HN.out]; exact hlt)⟩
        have c1 := keep_cell (hc1 k x hx) HB.out
        have c2 := keep_cell (hc2 k y hy) HB.out
        unfold nV at c1 c2
        by_cases hxy : x = y
        · subst hxy
          have HT2 : Hid (l.take (k + 1) = m.take (k + 1)) := by show _ = _; rw [List.take_add_one, List.take_add_one, HT.out, hx, hy]
          clear hx hy hc1 hc2
          go_wp2
          go_quiet (fail)
          rename_i nq
          have hq : Below w.heap.size w (wr.drewN nq) := HB.out.trans ⟨rfl, rfl, rfl, Nat.le_refl _, fun _ _ => rfl⟩
          have HQ := Lib.hid hq
          clear hq c1 c2
          go_wp2
          go_roundw
          case rel => exact ⟨k + 1, hlt, by go_num, HT2, HQ.out⟩
          case measure => simp [intOf]; omega
        · have HNE : Hid (decide (l = m) = false) := by
            refine decide_eq_false fun e => hxy ?_
            rw [e, hy] at hx; cases hx; rfl
          have hne : (x == y) = false := by simp [hxy]
          have hne2 : (x != y) = true := by simp [hxy]
          clear hx hy hc1 hc2 hxy
          go_wp2
          go_quiet (fail)
          rename_i nq
          have hq : Below w.heap.size w (wr.drewN nq) := HB.out.trans ⟨rfl, rfl, rfl, Nat.le_refl _, fun _ _ => rfl⟩
          have HQ := Lib.hid hq
          clear hq c1 c2
          go_wp2
          go_ret
          exact ⟨by rw [HNE.out]; rfl, HQ.out⟩
      · obtain rfl : k = n := by omega
        have HE : Hid (decide (l = m) = true) := by
          refine decide_eq_true ?_
          have := HT.out
          rw [List.take_of_length_le (by rw [HN.out]; exact Nat.le_refl _), List.take_of_length_le (by rw [← HLM.out, HN.out]; exact Nat.le_refl _)] at this
          exact this
        go_wp2
        go_ret
        exact ⟨by rw [HE.out]; rfl, HB.out⟩
  · have HNE : Hid (decide (l = m) = false) := decide_eq_false fun e => hlm (by rw [e])
    obtain ⟨a1, p1, e1, h1, h2⟩ := hu.len
    obtain ⟨a2, p2, e2, h3, h4⟩ := hv.len
    obtain ⟨n1, hn1⟩ : ∃ n, l.length = n := ⟨_, rfl⟩
    obtain ⟨n2, hn2⟩ : ∃ n, m.length = n := ⟨_, rfl⟩
    rw [hn1] at e1 hlm
    rw [hn2] at e2 hlm
    subst e1 e2
    have d1 : ((n1 : Int) == n2) = false := by simp; omega
    have d2 : ((n1 : Int) != n2) = true := by simp; omega
    clear hu hv hn1 hn2 h1 h2 h3 h4 hlm
    go_enter Try.func19, Try.ntmps19
    go_wp2
    go_ret
    exact ⟨by rw [HNE.out]; rfl, Below.refl _ _⟩

def sameR (r s : Ro) : Bool := (r.gen == s.gen) && decide (r.nums = s.nums)
theorem sameR_iff {r s : Ro} : sameR r s = true ↔ r = s := by
  obtain ⟨g, l⟩ := r
  obtain ⟨h, m⟩ := s
  simp [sameR]
theorem sameR_refl (r : Ro) : sameR r r = true := sameR_iff.2 rfl
set_option maxHeartbeats 2000000 in
set_option maxRecDepth 100000 in
/-- The document's Same. -/
theorem same_any (r s : Ro) (u v : Value) (w : World) (hu : RdN w u r.nums) (hv : RdN w v s.nums) :
    Calls Try.prog 9 #[roV r u, roV s v] w fun e w' => e = .returned (.bool (sameR r s)) ∧ Below w.heap.size w w' := by
  obtain ⟨W, hW⟩ : ∃ W, W = (w.alloc (.cells (roC r u) 25)).alloc (.cells (roC s v) 25) := ⟨_, rfl⟩
  have hbx : Bx 25 W w.heap.size (roC r u) ∧ Bx 25 W (w.heap.size + 1) (roC s v) ∧ Below w.heap.size w W := by
    obtain ⟨W1, hW1⟩ : ∃ W1, W1 = w.alloc (.cells (roC r u) 25) := ⟨_, rfl⟩
    have h1 := Bx.new 25 w (roC r u)
    have hs1 : W1.heap.size = w.heap.size + 1 := by rw [hW1]; simp
    have hb1 : Below w.heap.size w W1 := by rw [hW1]; exact below1 _ _
    rw [← hW1] at hW h1
    have h2 := Bx.new 25 W1 (roC s v)
    rw [hs1] at h2
    have hb2 : Below W1.heap.size W1 W := by rw [hW]; exact below1 _ _
    exact ⟨h1.later hb2, by rw [hW]; exact h2, hb1.trans (hb2.mono hb1.size)⟩
  have c0 : W.cell? ⟨w.heap.size, 0, none⟩ = some (.int .u64 (r.gen : Int)) := hbx.1.cell 0
  have c1 : W.cell? ⟨w.heap.size, 1, none⟩ = some u := hbx.1.cell 1
  have d0 : W.cell? ⟨w.heap.size + 1, 0, none⟩ = some (.int .u64 (s.gen : Int)) := hbx.2.1.cell 0
  have d1 : W.cell? ⟨w.heap.size + 1, 1, none⟩ = some v := hbx.2.1.cell 1
  have HC := Lib.hid (ints_any u v r.nums s.nums W (hu.later hbx.2.2) (hv.later hbx.2.2))
  have HS : Hid (sameR r s = ((r.gen == s.gen) && decide (r.nums = s.nums))) := rfl
  have HX := Lib.hid hbx.2.2
  unfold roC at hW
  unfold roV
  clear hu hv hbx
  rw [HS.out]
  clear HS
  obtain ⟨g, l⟩ := r
  obtain ⟨h, m⟩ := s
  dsimp only at *
  by_cases hg : g = h
  · subst hg
    go_enter Try.func9, Try.ntmps9
    go_upto_region 1 with fail
    rw [← hW]
    clear hW
    go_wp2_with fail
    (with_reducible refine HC.out.mono ?_)
    rintro e w1 ⟨rfl, b1⟩
    have FIN := Lib.hid (HX.out.trans (b1.mono HX.out.size))
    clear b1 c0 c1 d0 d1
    go_wp2
    go_ret
    exact ⟨by simp, FIN.out⟩
  · have e1 : (g == h) = false := by simp [hg]
    have e2 : ((g : Int) == h) = false := by simp; omega
    have e3 : decide ((g : Int) = h) = false := by simp; omega
    clear hg
    go_enter Try.func9, Try.ntmps9
    go_upto_region 1 with fail
    rw [← hW]
    clear hW
    go_wp2
    go_ret
    exact ⟨by rw [e1]; rfl, HX.out⟩
end Go.Proofs.Ytjlmkhomedoolaa.Root
