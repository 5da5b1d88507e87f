/- The document's own ReadPrefix of layer 2. -/
import Derived.Test.YtlokhhochhajmaaDoorRefKey
import Derived.Test.YtlokhhochhajmaaDoorReadPre
import Derived.Test.YtlokhhochhajmaaDoorRefMay
import Derived.Deep.RegionHeld3
import Derived.Test.YtlokhhochhajmaaDoorTextLaws
namespace Go.Proofs.YtlokhhochhajmaaDoor
open Go.RowKit Go.Sort
attribute [local go_sem ↓] loadVar_key loadVar_pre storeVar_key storeVar_pre build_pre

theorem pieces_two {c : UInt8} {s : List UInt8} (h : (pieces c s).length = 2) : pieces c s = [ahead c s, behind c s] ∧ c ∈ s := by
  match e : pieces c s, h with
  | [p, q], _ =>
    obtain ⟨h1, h2, h3⟩ := pieces_more e
    obtain ⟨_, h4⟩ := pieces_one h3.symm
    exact ⟨by rw [h2, h4], h1⟩

theorem pieces_not_two {c : UInt8} {s : List UInt8} (hc : isDigit c = false) (h : (pieces c s).length ≠ 2) (most : Nat) : readNum most (behind c s) = none := by
  cases hn : readNum most (behind c s) with
  | none => rfl
  | some n =>
    exfalso
    by_cases hm : c ∈ s
    · obtain ⟨e, hna⟩ := split_first hm
      have hb : c ∉ behind c s := by rw [(readNum_is hn).1]; exact dec_not hc
      rw [e, pieces_at _ hna, pieces_none hb] at h
      exact h rfl
    · rw [(ahead_none hm).2, readNum_nil] at hn; cases hn

theorem readPreT_no {s : List UInt8} (h : ∀ most, readNum most (behind 47 s) = none) : readPreT s = none := by
  unfold readPreT
  rw [h]
  split
  · rename_i e; cases e
  · rfl

theorem readPreT_two {s : List UInt8} {k : Nat → Nat} (hk : readKeyT (ahead 47 s) = some k) : readPreT s = if mayB ⟨keyBits (ahead 47 s), numZ 128 (behind 47 s), k⟩ = true then some ⟨keyBits (ahead 47 s), numZ 128 (behind 47 s), k⟩ else none := by
  obtain ⟨kb, hkb, h128⟩ : ∃ kb : Nat, keyBits (ahead 47 s) = kb ∧ kb ≤ 128 := by unfold keyBits; split <;> exact ⟨_, rfl, by decide⟩
  unfold readPreT
  rw [hk, hkb, Int.toNat_natCast]
  unfold numZ
  cases h1 : readNum 128 (behind 47 s) with
  | none =>
    have h2 : readNum kb (behind 47 s) = none := by
      cases h2 : readNum kb (behind 47 s) with
      | none => rfl
      | some m =>
        obtain ⟨e1, e2⟩ := readNum_is h2
        have : readNum 128 (behind 47 s) = some m := readNum_iff.2 ⟨e1, by omega⟩
        rw [h1] at this; cases this
    rw [h2]
    simp [mayB]
  | some n =>
    obtain ⟨e1, e2⟩ := readNum_is h1
    by_cases hle : n ≤ kb
    · rw [readNum_iff.2 ⟨e1, hle⟩]
    · have h2 : readNum kb (behind 47 s) = none := by
        cases h2 : readNum kb (behind 47 s) with
        | none => rfl
        | some m =>
          obtain ⟨e3, e4⟩ := readNum_is h2
          have : readNum 128 (behind 47 s) = some m := readNum_iff.2 ⟨e3, by omega⟩
          rw [h1] at this
          cases this
          omega
      rw [h2]
      have : mayB ⟨(kb : Int), (n : Int), k⟩ = false := Bool.eq_false_iff.2 fun h => by
        simp [mayB] at h
        omega
      rw [this]
      rfl

theorem tuple_pre {v w : Value} (h : v = w) : Ending.returned v = .returned w := by rw [h]

set_option maxHeartbeats 1000000 in
set_option maxRecDepth 100000 in
theorem rrpre_long (s : List UInt8) (w : World) (hs : s.length < 1000000) (h60 : 60 < s.length) :
    Calls Tryd.prog 16 #[.string (bs s)] w fun e w' => e = .returned (.tuple #[.agg (pc preZ), .int .i64 3]) ∧ Below w.heap.size w w' := by
  have hz := preZ_lit
  have O0 := outPre_new w
  have hsz := bs_size s
  have hsI : (s.length : Int) < 1000000 := by omega
  have h60' : (60 : Int) < s.length := by omega
  have S2 := O0.store preZ
  have L2 := O0.load preZ
  have D2 := O0.done preZ
  have B0 := fun w => run_preBuild0 w
  clear O0
  go_enter Tryd.func16, Tryd.ntmps16
  go_wp2
  exact bodyPost_ret (v := .tuple #[.agg (pc preZ), .int .i64 3]) (results_row_tmp rfl _ _ _ _ rfl rfl L2) rfl ⟨rfl, D2⟩

set_option maxHeartbeats 1000000 in
set_option maxRecDepth 100000 in
theorem rrpre_none (s : List UInt8) (ps : List (List UInt8)) (w : World) (h60 : ¬ 60 < s.length) (h2 : ps.length ≠ 2)
    (C1 : Hid (∀ w : World, Calls Tryd.prog 29 #[.string (bs s), .int .u8 47] w fun e w' => ∃ g cap, e = .returned (.slice (some ⟨g, 0, none⟩) ps.length cap) ∧ (∀ i p, ps[i]? = some p → w'.cell? ⟨g, i, none⟩ = some (.string (bs p))) ∧ w.heap.size ≤ g ∧ g < w'.heap.size ∧ Below w.heap.size w w')) :
    Calls Tryd.prog 16 #[.string (bs s)] w fun e w' => e = .returned (.tuple #[.agg (pc preZ), .int .i64 2]) ∧ Below w.heap.size w w' := by
  have hz := preZ_lit
  have O0 := outPre_new w
  have hsz := bs_size s
  have hsI : (s.length : Int) < 1000000 := by omega
  have h60' : ¬ (60 : Int) < s.length := by omega
  have h2' : ((ps.length : Int) != 2) = true := by rw [bne_iff_ne]; omega
  have B0 := fun w => run_preBuild0 w
  clear h2
  go_enter Tryd.func16, Tryd.ntmps16
  go_wp2_with fail
  (with_reducible refine (C1.out _).mono ?_)
  rintro e w1 ⟨g, cap, rfl, hcells, hf, hlt, hb⟩
  have O1 := O0.later hb
  have S2 := O1.store preZ
  have L2 := O1.load preZ
  have D2 := O1.done preZ
  clear hcells hf hlt hb C1 O0 O1
  go_wp2
  exact bodyPost_ret (v := .tuple #[.agg (pc preZ), .int .i64 2]) (results_row_tmp rfl _ _ _ _ rfl rfl L2) rfl ⟨rfl, D2⟩

set_option maxHeartbeats 4000000 in
set_option maxRecDepth 100000 in
theorem rrpre_two (s a b : List UInt8) (er kb n : Int) (m : Bool) (k : Nat → Nat) (w : World) (h60 : ¬ 60 < s.length)
    (C1 : Hid (∀ w : World, Calls Tryd.prog 29 #[.string (bs s), .int .u8 47] w fun e w' => ∃ g cap, e = .returned (.slice (some ⟨g, 0, none⟩) 2 cap) ∧ (w'.cell? ⟨g, 0, none⟩ = some (.string (bs a)) ∧ w'.cell? ⟨g, 1, none⟩ = some (.string (bs b))) ∧ w.heap.size ≤ g ∧ g < w'.heap.size ∧ Below w.heap.size w w'))
    (C2 : Hid (∀ w : World, Calls Tryd.prog 18 #[.string (bs a)] w fun e w' => e = .returned (.tuple #[.agg (kc k), .int .i64 kb, .int .i64 er]) ∧ Below w.heap.size w w'))
    (C3 : Hid (∀ w : World, Calls Tryd.prog 30 #[.string (bs b), .int .i64 128] w fun e w' => e = .returned (.int .i64 n) ∧ w = w'))
    (C4 : Hid (∀ w : World, Calls Tryd.prog 24 #[.agg (pc ⟨kb, n, k⟩)] w fun e w' => e = .returned (.bool m) ∧ Below w.heap.size w w')) :
    Calls Tryd.prog 16 #[.string (bs s)] w fun e w' => e = .returned (preOr (er == 0 && m) ⟨kb, n, k⟩) ∧ Below w.heap.size w w' := by
  have hz := preZ_lit
  have hzk := zkey_lit
  have O0 := outPre_new w
  have hsz := bs_size s
  have hsI : (s.length : Int) < 1000000 := by omega
  have h60' : ¬ (60 : Int) < s.length := by omega
  have B0 := fun w => run_preBuild0 w
  have B1 := fun w => run_preBuild kb n k w
  go_enter Tryd.func16, Tryd.ntmps16
  go_wp2_with fail
  (with_reducible refine (C1.out _).mono ?_)
  rintro e w1 ⟨g, cap, rfl, ⟨c0, c1⟩, hf, hlt, hb⟩
  have O1 := O0.later hb
  clear hf hb C1 O0
  go_wp2_with fail
  (with_reducible refine (C2.out _).mono ?_)
  rintro e w2 ⟨rfl, h2⟩
  have O2 := (O1.later h2).alloc (.cells (kc k) 23)
  have S1 := key_laid w2 k
  have r1 := rowAt_new w2 (kc k) 23
  have c2 : (w2.alloc (.cells (kc k) 23)).cell? ⟨g, 1, none⟩ = some (.string (bs b)) := by
    rw [((Below.refl w2.heap.size w2).alloc (Nat.le_refl _) (.cells (kc k) 23)).cell (p := ⟨g, 1, none⟩) (Nat.lt_of_lt_of_le hlt h2.size), h2.cell (p := ⟨g, 1, none⟩) hlt]
    exact c1
  have hg0 : g < (w2.alloc (.cells (kc k) 23)).heap.size := by have := h2.size; simp; omega
  clear O1 h2 c0 c1 hlt
  go_wp2
  clear S1
  have hlt2 : w2.heap.size < (w2.alloc (.cells (kc k) 23)).heap.size := by simp
  generalize w2.alloc (.cells (kc k) 23) = W2 at *
  generalize w2.heap.size = g2 at *
  have hd : W2.drew.heap.size = W2.heap.size := rfl
  have hg : g < W2.drew.heap.size := hg0
  have O4 : OutPre w (W2.alloc (.cells (pc ⟨kb, n, k⟩) 25)).drew := ⟨(O2.alloc _).below.drew, (O2.alloc _).out⟩
  have r4 : RowAt (W2.alloc (.cells (pc ⟨kb, n, k⟩) 25)).drew W2.heap.size 0 (pc ⟨kb, n, k⟩) := rowAt_new W2 (pc ⟨kb, n, k⟩) 25
  have hlt4 : W2.heap.size < (W2.alloc (.cells (pc ⟨kb, n, k⟩) 25)).drew.heap.size := by simp
  have B := fun o => (Below.refl W2.drew.heap.size W2.drew).alloc (Nat.le_refl _) o
  have R1 : W2.drew.rangeAt g2 0 (kc k).toList := fun j v hj => r1 j v (by rw [← Array.getElem?_toList]; exact hj)
  have s1 : W2.drew.cell? ⟨g, 1, none⟩ = some (.string (bs b)) := c2
  have s2 : (W2.drew.alloc (.cells (pc preZ) 25)).cell? ⟨g, 1, none⟩ = some (.string (bs b)) := ((B _).cell (p := ⟨g, 1, none⟩) hg).trans s1
  have s3 : (W2.drew.alloc (.cells (pc ⟨kb, n, k⟩) 25)).cell? ⟨g, 1, none⟩ = some (.string (bs b)) := ((B _).cell (p := ⟨g, 1, none⟩) hg).trans s1
  have R2 := World.rangeAt_alloc R1 (.cells (pc preZ) 25)
  have R3 := World.rangeAt_alloc R1 (.cells (pc ⟨kb, n, k⟩) 25)
  have S3 : (preStore ⟨W2.heap.size, 0, none⟩ (.agg (pc ⟨kb, n, k⟩))).run Tryd.prog (W2.alloc (.cells (pc preZ) 25)).drew = .ok () (W2.alloc (.cells (pc ⟨kb, n, k⟩) 25)).drew := pre_laid W2.drew ⟨kb, n, k⟩
  have T1 := Tryd.underlying23
  have T2 : (Tryd.prog.info? 23).map (·.size) = some (kc k).toList.length := by rw [Array.length_toList, kc_size]; kernel_rfl
  have B2 := fun w => run_preBuild kb n k w
  rw [show kc k = (kc k).toList.toArray by simp] at B2
  clear r1 c2 O2 B hg hg0 hd hlt2
  go_region_held3 (fun w' => w'.cell? ⟨g, 1, none⟩ = some (.string (bs b)) ∧ w'.rangeAt g2 0 (kc k).toList)
    (first | exact ⟨s1, R1⟩ | exact ⟨s2, R2⟩ | exact ⟨s3, R3⟩)
    (first | (go_at_call 30; (with_reducible refine (C3.out _).mono ?_); rintro e w' ⟨rfl, rfl⟩))
  all_goals
    clear s1 s2 s3 R1 R2 R3 S3 T1 T2 B1 B2
    generalize (W2.alloc (.cells (pc ⟨kb, n, k⟩) 25)).drew = W3 at *
    generalize W2.heap.size = g3 at *
    by_cases her : er = 0
    · subst her
      have L5 := run_preLoad r4
      go_wp2_with fail
      clear L5
      (with_reducible refine (C4.out _).mono ?_)
      rintro e w4 ⟨rfl, h4⟩
      have O5 := O4.later h4
      cases m
      · have S5 := O5.store preZ
        have L5 := O5.load preZ
        have D5 := O5.done preZ
        clear O4 O5 h4 r4
        go_wp2
        exact bodyPost_ret (v := .tuple #[.agg (pc preZ), .int .i64 2]) (results_row_tmp rfl _ _ _ _ rfl rfl L5) rfl ⟨rfl, D5⟩
      · have L6 := run_preLoad (r4.below h4 hlt4)
        have S5 := O5.store ⟨kb, n, k⟩
        have L5 := O5.load ⟨kb, n, k⟩
        have D5 := O5.done ⟨kb, n, k⟩
        clear O4 O5 h4 r4
        go_wp2
        exact bodyPost_ret (v := .tuple #[.agg (pc ⟨kb, n, k⟩), .int .i64 0]) (results_row_tmp rfl _ _ _ _ rfl rfl L5) rfl ⟨rfl, D5⟩
    · have her2 : (er != 0) = true := by rw [bne_iff_ne]; exact her
      have HE : Hid ((er == 0) = false) := by show _ = _; rw [beq_eq_false_iff_ne]; exact her
      have S5 := O4.store preZ
      have L5 := O4.load preZ
      have D5 := O4.done preZ
      clear O4 r4 her
      go_wp2
      exact bodyPost_ret (v := .tuple #[.agg (pc preZ), .int .i64 2]) (results_row_tmp rfl _ _ _ _ rfl rfl L5) rfl ⟨by rw [HE.out]; rfl, D5⟩

theorem rrpre_any (s : List UInt8) (w : World) (hs : s.length < 1000000) :
    Calls Tryd.prog 16 #[.string (bs s)] w fun e w' => e = .returned (readPreV s) ∧ Below w.heap.size w w' := by
  unfold readPreV
  by_cases h60 : 60 < s.length
  · rw [if_pos h60]; exact rrpre_long s w hs h60
  · rw [if_neg h60]
    have hl := ahead_le 47 s
    have S := fun w : World => rsplit_at 47 47 rfl s w (by omega)
    unfold SplitPost at S
    by_cases h2 : (pieces 47 s).length = 2
    · obtain ⟨hp, _⟩ := pieces_two h2
      rw [hp] at S
      have C1 : Hid (∀ w : World, Calls Tryd.prog 29 #[.string (bs s), .int .u8 47] w fun e w' => ∃ g cap, e = .returned (.slice (some ⟨g, 0, none⟩) 2 cap) ∧ (w'.cell? ⟨g, 0, none⟩ = some (.string (bs (ahead 47 s))) ∧ w'.cell? ⟨g, 1, none⟩ = some (.string (bs (behind 47 s)))) ∧ w.heap.size ≤ g ∧ g < w'.heap.size ∧ Below w.heap.size w w') :=
        Lib.hid fun w => (S w).mono fun e w' ⟨g, cap, he, hc, hr⟩ => ⟨g, cap, he, ⟨hc 0 _ rfl, hc 1 _ rfl⟩, hr⟩
      have C3 := Lib.hid (fun w : World => rnumber_same 128 128 rfl (behind 47 s) w (by decide) (by omega))
      have C2 := fun w : World => rrkey_any (ahead 47 s) w (by omega)
      unfold readKeyV at C2
      rw [if_neg (show ¬ 60 < (ahead 47 s).length by omega)] at C2
      cases hk : readKeyT (ahead 47 s) with
      | none =>
        simp only [hk] at C2
        have C4 := Lib.hid (fun w : World => rmay_any ⟨0, numZ 128 (behind 47 s), zkey⟩ (fun _ => by show (0 : Nat) < 256; decide) w)
        have e : readPreT s = none := by unfold readPreT; rw [hk]
        rw [e]
        exact rrpre_two s _ _ 2 0 _ _ zkey w h60 C1 (Lib.hid C2) C3 C4
      | some k =>
        simp only [hk] at C2
        have C4 := Lib.hid (fun w : World => rmay_any ⟨keyBits (ahead 47 s), numZ 128 (behind 47 s), k⟩ (readKeyT_bytes hk) w)
        rw [readPreT_two hk]
        refine (rrpre_two s _ _ 0 _ _ _ k w h60 C1 (Lib.hid C2) C3 C4).mono fun e w' ⟨he, hw⟩ => ⟨?_, hw⟩
        rw [he]
        cases hm : mayB ⟨keyBits (ahead 47 s), numZ 128 (behind 47 s), k⟩ <;> simp [preOr]
    · rw [readPreT_no (pieces_not_two (by decide) h2)]
      exact rrpre_none s _ w h60 h2 (Lib.hid S)

end Go.Proofs.YtlokhhochhajmaaDoor
