/- root.May and lack: what each hands back. -/
import Derived.Test.YtjlmkhomedoolaaRootSmall
namespace Go.Proofs.Ytjlmkhomedoolaa.Root
open Go.RowKit Go.Sort Go.Shelf Go.Proofs.Ytjlmkhomedoolaa Go.Proofs.Ytjlmkhomedoolaa.Page
attribute [local go_sem ↓] slice_bytes loadVar_ro storeVar_ro loadVar_page storeVar_page

def bareP (r : Ro) : Pg := ⟨2, 0, r.gen, []⟩
theorem mayR_is (r : Ro) (n : Int) : mayR r n = (mayB (bareP r) n && (decide ((r.nums.length : Int) ≤ mostI n) && !(r.nums.any wrongB))) := rfl
theorem most_small (n : Int) : mostI n ≤ 64 := by unfold mostI; omega
theorem Bx.ldR {w : World} {B : Nat} {cs : Array Value} (h : Bx 25 w B cs) (h2 : cs.size = 2) (d : Nat) (os : Array Obj) : (roLoad ⟨B, 0, none⟩).run Try.prog (grow (redrawn w d) os) = .ok (.agg cs) (grow (redrawn w d) os) :=
  Bx.ld (h.later (below_regrown w d os)) h2

set_option maxHeartbeats 4000000 in
set_option maxRecDepth 100000 in
theorem may_any (r : Ro) (u : Value) (n : Int) (w : World) (hR : RdN w u r.nums) : Calls Try.prog 7 #[roV r u, .int .i64 n] w fun e w' => e = .returned (.bool (mayR r n)) ∧ Below w.heap.size w w' := by
  have HZ := Lib.hid (mayR_is r n)
  have hml := most_small n
  obtain ⟨a, cap, hv, hl1, hl2⟩ := hR.len
  unfold maxLen at hl2
  obtain ⟨W1, hW1⟩ : ∃ W1, W1 = w.alloc (.cells (roC r u) 25) := ⟨_, rfl⟩
  have hb1 : Below w.heap.size w W1 := by rw [hW1]; exact below1 _ _
  have hx1 : Bx 25 W1 w.heap.size (roC r u) := by rw [hW1]; exact Bx.new _ w _
  have c0 : W1.cell? ⟨w.heap.size, 0, none⟩ = some (.int .u64 (r.gen : Int)) := hx1.cell 0
  have st := store_new W1 (bareP r) (v := .slice none 0 0) rfl
  obtain ⟨W, hW⟩ : ∃ W, W = W1.alloc (.cells (pgC (bareP r) (.slice none 0 0)) 45) := ⟨_, rfl⟩
  have hb2 : Below W1.heap.size W1 W := by rw [hW]; exact below1 _ _
  have hpx : Page.Box W W1.heap.size (pgC (bareP r) (.slice none 0 0)) := by rw [hW]; exact Box.new W1 _
  rw [← hW] at st
  have c1 : W.cell? ⟨w.heap.size, 1, none⟩ = some u := (hx1.later hb2).cell 1
  have HB : Hid (Below w.heap.size w W) := hb1.trans (hb2.mono hb1.size)
  have LP := show Hid _ from fun (d : Nat) (os : Array Obj) => Box.load (hpx.later (below_regrown W d os)) rfl
  have L1 := show Hid _ from fun d os => cell_regrown c1 d os
  have C1 := show Hid _ from fun (d : Nat) (os : Array Obj) => Calls.regrown_of (Page.may_any (bareP r) (.slice none 0 0) n (grow (redrawn W d) os) (OwnB.nil _ 0).rd)
  have C2 := show Hid _ from fun (d : Nat) (os : Array Obj) => Calls.regrown_of (calls_below (most_any n (grow (redrawn W d) os)))
  have C3 := show Hid _ from fun (d : Nat) (os : Array Obj) => Calls.regrown_of (calls_below (containsN_any r.nums u (grow (redrawn W d) os) ((hR.later HB.out).regrown d os)))
  unfold pgV at C1
  unfold pgC bareP at LP C1 st
  unfold roC at hW1
  unfold roV
  rw [HZ.out]
  unfold zp at st
  dsimp only at *
  obtain ⟨m, hm⟩ : ∃ m, r.nums.length = m := ⟨_, rfl⟩
  rw [hm] at hv hl1 ⊢
  have hm3 : (m : Int) ≤ 9223372036854775807 := by omega
  subst hv
  obtain ⟨g, hg⟩ : ∃ g, r.gen = g := ⟨_, rfl⟩
  obtain ⟨q, hq⟩ : ∃ q, r.nums.any wrongB = q := ⟨_, rfl⟩
  obtain ⟨b, hb⟩ : ∃ b, mayB (bareP r) n = b := ⟨_, rfl⟩
  have hb' : mayB ⟨2, 0, g, []⟩ n = b := by rw [← hg]; exact hb
  rw [hg] at c0 st C1 hW1 LP ⊢
  rw [hq] at C3 ⊢
  rw [hb]
  rw [hb'] at C1
  obtain ⟨M, hM⟩ : ∃ M, mostI n = M := ⟨_, rfl⟩
  rw [hM] at C2 hml ⊢
  have st' := show Hid _ from st
  clear hR hl1 hl2 HZ hm hg hq hb hb' hM c1 hb1 hb2 hx1 hpx hW st
  go_enter Try.func7, Try.ntmps7
  go_upto_region 1 with fail
  rw [← hW1]
  clear hW1
  have st := st'.out
  go_upto_region 2 with fail
  clear st c0
  cases b with
  | false =>
    have C1 := C1.out
    have C2 := C2.out
    have C3 := C3.out
    have L1 := L1.out
    have LP := LP.out
    go_wp2_with fail
    refine wp_region_quiet_below (by kernel_rfl) (by kernel_rfl) ?_
    repeat (go_big_quiet_step (first | exact C1 _ _ | exact C2 _ _ | exact C3 _ _))
    refine wpQuiet_nil fun w1 hw1 => ?_
    have hb1 : Below W.heap.size W w1 := by obtain ⟨p, rfl⟩ := hw1; exact below_regrown W p.d p.os
    have HB1 := Lib.hid (HB.out.trans (hb1.mono HB.out.size))
    clear hw1 hb1 C1 C2 C3 L1 LP
    go_wp2
    go_ret
    exact ⟨ret_bool rfl, HB1.out⟩
  | true =>
    by_cases hle : (m : Int) ≤ M
    · cases q with
      | false =>
        have HL : Hid (decide ((m : Int) ≤ M) = true) := decide_eq_true hle
        have C1 := C1.out
        have C2 := C2.out
        have C3 := C3.out
        have L1 := L1.out
        have LP := LP.out
        go_wp2_with fail
        refine wp_region_quiet_below (by kernel_rfl) (by kernel_rfl) ?_
        repeat (go_big_quiet_step (first | exact C1 _ _ | exact C2 _ _ | exact C3 _ _))
        refine wpQuiet_nil fun w1 hw1 => ?_
        have hb1 : Below W.heap.size W w1 := by obtain ⟨p, rfl⟩ := hw1; exact below_regrown W p.d p.os
        have HB1 := Lib.hid (HB.out.trans (hb1.mono HB.out.size))
        clear hw1 hb1 C1 C2 C3 L1 LP
        go_wp2
        go_ret
        exact ⟨ret_bool (by rw [HL.out]; rfl), HB1.out⟩
      | true =>
        have HL : Hid (decide ((m : Int) ≤ M) = true) := decide_eq_true hle
        have C1 := C1.out
        have C2 := C2.out
        have C3 := C3.out
        have L1 := L1.out
        have LP := LP.out
        go_wp2_with fail
        refine wp_region_quiet_below (by kernel_rfl) (by kernel_rfl) ?_
        repeat (go_big_quiet_step (first | exact C1 _ _ | exact C2 _ _ | exact C3 _ _))
        refine wpQuiet_nil fun w1 hw1 => ?_
        have hb1 : Below W.heap.size W w1 := by obtain ⟨p, rfl⟩ := hw1; exact below_regrown W p.d p.os
        have HB1 := Lib.hid (HB.out.trans (hb1.mono HB.out.size))
        clear hw1 hb1 C1 C2 C3 L1 LP
        go_wp2
        go_ret
        exact ⟨ret_bool (by rw [HL.out]; rfl), HB1.out⟩
    · have HL : Hid (decide ((m : Int) ≤ M) = false) := decide_eq_false hle
      have hd := HL.out
      clear hle
      have C1 := C1.out
      have C2 := C2.out
      have C3 := C3.out
      have L1 := L1.out
      have LP := LP.out
      go_wp2_with fail
      refine wp_region_quiet_below (by kernel_rfl) (by kernel_rfl) ?_
      repeat (go_big_quiet_step (first | exact C1 _ _ | exact C2 _ _ | exact C3 _ _))
      refine wpQuiet_nil fun w1 hw1 => ?_
      have hb1 : Below W.heap.size W w1 := by obtain ⟨p, rfl⟩ := hw1; exact below_regrown W p.d p.os
      have HB1 := Lib.hid (HB.out.trans (hb1.mono HB.out.size))
      clear hw1 hb1 C1 C2 C3 L1 LP
      go_wp2
      go_ret
      exact ⟨ret_bool (by rw [HL.out]; rfl), HB1.out⟩

theorem all_take {ls : List (List UInt8)} {k : Nat} {b : List UInt8} (h : ls[k]? = some b) (h1 : (ls.take k).all (fun b => allB b 255) = true) (h2 : allB b 255 = true) : (ls.take (k + 1)).all (fun b => allB b 255) = true := by
  rw [List.take_add_one, h, List.all_append, h1]
  simp [h2]
set_option maxHeartbeats 2000000 in
set_option maxRecDepth 100000 in
theorem lack_any (ls : List (List UInt8)) (v : Value) (w : World) (hR : RdL w v ls) : Calls Try.prog 20 #[v] w fun e w' => e = .returned (.int .i64 (lackE ls)) ∧ Below w.heap.size w w' := by
  have HR := Lib.hid hR
  obtain ⟨a, cap, e1, h1, h2⟩ := hR.len
  obtain ⟨n, hn⟩ : ∃ n, ls.length = n := ⟨_, rfl⟩
  have HN := Lib.hid hn
  rw [hn] at e1 h1
  have hm : n ≤ 9223372036854775807 := by unfold maxLen at h2; omega
  subst e1
  clear hR hn h1 h2
  go_enter Try.func20, Try.ntmps20
  go_wp2
  go_loopw [4, 7] (fun _ i wr => ∃ k : Nat, k ≤ n ∧ i = .int .i64 k ∧ Hid ((ls.take k).all (fun b => allB b 255) = true) ∧ Below w.heap.size w wr) (fun _ i _ => n - (intOf i).toNat)
  case atStart => exact ⟨0, Nat.zero_le _, rfl, rfl, Below.refl _ _⟩
  case round =>
    obtain ⟨k, hk, rfl, HT, hb⟩ := hrel
    have HB := Lib.hid hb
    clear hb
    by_cases hlt : k < n
    · have hltI : (k : Int) < n := by omega
      obtain ⟨b1, o1, q1, e1, hc1⟩ := HR.out.form (by rw [HN.out]; omega)
      rw [HN.out] at e1
      cases e1
      obtain ⟨x, hx⟩ : ∃ x, ls[k]? = some x := ⟨_, List.getElem?_eq_getElem (by rw [HN.out]; exact hlt)⟩
      obtain ⟨u, hu, hru⟩ := hc1 k x hx
      have c1 := keep_cell hu HB.out
      have HC := Lib.hid (blank_any x u wr (hru.later HB.out))
      have HX := Lib.hid hx
      clear hx hc1 hu hru
      cases hp : allB x 255 with
      | true =>
        rw [hp] at HC
        have HT2 := Lib.hid (all_take HX.out HT.out hp)
        clear hp
        go_wp2_with fail
        with_reducible refine HC.out.mono ?_
        rintro e w1 ⟨rfl, hb1⟩
        have HB1 := Lib.hid (HB.out.trans (hb1.mono HB.out.size))
        clear hb1 c1
        go_wp2
        go_roundw
        case rel => exact ⟨k + 1, hlt, by go_num, HT2, HB1.out⟩
        case measure => simp [intOf]; omega
      | false =>
        rw [hp] at HC
        have HE : Hid (lackE ls = 2) := by
          show _ = _
          unfold lackE
          rw [if_neg]
          intro h
          rw [List.all_eq_true] at h
          rw [h x (List.mem_iff_getElem?.2 ⟨k, HX.out⟩)] at hp
          cases hp
        clear hp
        go_wp2_with fail
        with_reducible refine HC.out.mono ?_
        rintro e w1 ⟨rfl, hb1⟩
        have HB1 := Lib.hid (HB.out.trans (hb1.mono HB.out.size))
        clear hb1 c1
        go_wp2
        go_ret
        exact ⟨by rw [HE.out]; rfl, HB1.out⟩
    · obtain rfl : k = n := by omega
      have HE : Hid (lackE ls = 6) := by
        show _ = _
        unfold lackE
        have := HT.out
        rw [List.take_of_length_le (by rw [HN.out]; exact Nat.le_refl _)] at this
        rw [if_pos this]
      go_wp2
      go_ret
      exact ⟨by rw [HE.out]; rfl, HB.out⟩
end Go.Proofs.Ytjlmkhomedoolaa.Root
