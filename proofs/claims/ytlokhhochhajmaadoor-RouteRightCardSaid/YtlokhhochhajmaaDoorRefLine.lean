/- The document's own ReadLine of layer 2. -/
import Derived.Test.YtlokhhochhajmaaDoorRefPre
import Derived.Test.YtlokhhochhajmaaDoorReadLine
namespace Go.Proofs.YtlokhhochhajmaaDoor
open Go.RowKit Go.Sort
attribute [local go_sem ↓] loadVar_key loadVar_pre storeVar_key storeVar_pre build_pre loadVar_route storeVar_route build_route

theorem readLineT_no {s : List UInt8} (h : ∀ most, readNum most (behind 32 s) = none) : readLineT s = none := by
  unfold readLineT
  rw [h]
  split
  · rename_i e; cases e
  · rfl

set_option maxHeartbeats 1000000 in
set_option maxRecDepth 100000 in
theorem rrline_long (s : List UInt8) (w : World) (hs : s.length < 1000000) (h60 : 60 < s.length) :
    Calls Tryd.prog 14 #[.string (bs s)] w fun e w' => e = .returned (.tuple #[.agg (rc preZ 0), .int .i64 3]) ∧ Below w.heap.size w w' := by
  have hz := routeZ_lit
  have O0 := outRt_new w
  have hsz := bs_size s
  have hsI : (s.length : Int) < 1000000 := by omega
  have h60' : (60 : Int) < s.length := by omega
  have S2 := O0.store preZ 0
  have L2 := O0.load preZ 0
  have D2 := O0.done preZ 0
  have B0 := fun w => run_routeBuild0 w
  clear O0
  go_enter Tryd.func14, Tryd.ntmps14
  go_wp2
  exact bodyPost_ret (v := .tuple #[.agg (rc preZ 0), .int .i64 3]) (results_row_tmp rfl _ _ _ _ rfl rfl L2) rfl ⟨rfl, D2⟩

set_option maxHeartbeats 1000000 in
set_option maxRecDepth 100000 in
theorem rrline_none (s : List UInt8) (ps : List (List UInt8)) (w : World) (h60 : ¬ 60 < s.length) (h2 : ps.length ≠ 2)
    (C1 : Hid (∀ w : World, Calls Tryd.prog 29 #[.string (bs s), .int .u8 32] w fun e w' => ∃ g cap, e = .returned (.slice (some ⟨g, 0, none⟩) ps.length cap) ∧ (∀ i p, ps[i]? = some p → w'.cell? ⟨g, i, none⟩ = some (.string (bs p))) ∧ w.heap.size ≤ g ∧ g < w'.heap.size ∧ Below w.heap.size w w')) :
    Calls Tryd.prog 14 #[.string (bs s)] w fun e w' => e = .returned (.tuple #[.agg (rc preZ 0), .int .i64 2]) ∧ Below w.heap.size w w' := by
  have hz := routeZ_lit
  have O0 := outRt_new w
  have hsz := bs_size s
  have hsI : (s.length : Int) < 1000000 := by omega
  have h60' : ¬ (60 : Int) < s.length := by omega
  have h2' : ((ps.length : Int) != 2) = true := by rw [bne_iff_ne]; omega
  have B0 := fun w => run_routeBuild0 w
  clear h2
  go_enter Tryd.func14, Tryd.ntmps14
  go_wp2_with fail
  (with_reducible refine (C1.out _).mono ?_)
  rintro e w1 ⟨g, cap, rfl, hcells, hf, hlt, hb⟩
  have O1 := O0.later hb
  have S2 := O1.store preZ 0
  have L2 := O1.load preZ 0
  have D2 := O1.done preZ 0
  clear hcells hf hlt hb C1 O0 O1
  go_wp2
  exact bodyPost_ret (v := .tuple #[.agg (rc preZ 0), .int .i64 2]) (results_row_tmp rfl _ _ _ _ rfl rfl L2) rfl ⟨rfl, D2⟩

def lineOr (er n : Int) (p : Pre) : Value := if er = 0 ∧ 0 ≤ n then .tuple #[.agg (rc p n.toNat), .int .i64 0] else .tuple #[.agg (rc preZ 0), .int .i64 2]

set_option maxHeartbeats 4000000 in
set_option maxRecDepth 100000 in
theorem rrline_two (s a b : List UInt8) (er n : Int) (p : Pre) (w : World) (h60 : ¬ 60 < s.length) (hn : n < 65536)
    (C1 : Hid (∀ w : World, Calls Tryd.prog 29 #[.string (bs s), .int .u8 32] w fun e w' => ∃ g cap, e = .returned (.slice (some ⟨g, 0, none⟩) 2 cap) ∧ (w'.cell? ⟨g, 0, none⟩ = some (.string (bs a)) ∧ w'.cell? ⟨g, 1, none⟩ = some (.string (bs b))) ∧ w.heap.size ≤ g ∧ g < w'.heap.size ∧ Below w.heap.size w w'))
    (C2 : Hid (∀ w : World, Calls Tryd.prog 16 #[.string (bs a)] w fun e w' => e = .returned (.tuple #[.agg (pc p), .int .i64 er]) ∧ Below w.heap.size w w'))
    (C3 : Hid (∀ w : World, Calls Tryd.prog 30 #[.string (bs b), .int .i64 65535] w fun e w' => e = .returned (.int .i64 n) ∧ w = w')) :
    Calls Tryd.prog 14 #[.string (bs s)] w fun e w' => e = .returned (lineOr er n p) ∧ Below w.heap.size w w' := by
  have hz := routeZ_lit
  have hzp := preZ_lit
  have O0 := outRt_new w
  have hsz := bs_size s
  have hsI : (s.length : Int) < 1000000 := by omega
  have h60' : ¬ (60 : Int) < s.length := by omega
  have B0 := fun w => run_routeBuild0 w
  go_enter Tryd.func14, Tryd.ntmps14
  go_wp2_with fail
  (with_reducible refine (C1.out _).mono ?_)
  rintro e w1 ⟨g, cap, rfl, ⟨c0, c1⟩, hf, hlt, hb⟩
  have O1 := O0.later hb
  clear hf hb C1 O0
  go_wp2_with fail
  (with_reducible refine (C2.out _).mono ?_)
  rintro e w2 ⟨rfl, h2⟩
  have O2 := (O1.later h2).alloc (.cells (pc p) 25)
  have S1 := pre_laid w2 p
  have r1 := rowAt_new w2 (pc p) 25
  have c2 : (w2.alloc (.cells (pc p) 25)).cell? ⟨g, 1, none⟩ = some (.string (bs b)) := by
    rw [((Below.refl w2.heap.size w2).alloc (Nat.le_refl _) (.cells (pc p) 25)).cell (p := ⟨g, 1, none⟩) (Nat.lt_of_lt_of_le hlt h2.size), h2.cell (p := ⟨g, 1, none⟩) hlt]
    exact c1
  clear O1 h2 c0 c1 hlt
  go_wp2_with fail
  clear S1
  generalize w2.alloc (.cells (pc p) 25) = W2 at *
  generalize w2.heap.size = g2 at *
  (with_reducible refine (C3.out _).mono ?_)
  rintro e w3 ⟨rfl, rfl⟩
  clear c2
  by_cases her : er = 0
  · subst her
    by_cases hn0 : n < 0
    · have HV : Hid (lineOr 0 n p = .tuple #[.agg (rc preZ 0), .int .i64 2]) := by show _ = _; unfold lineOr; rw [if_neg (fun h => by omega)]
      have S5 := O2.store preZ 0
      have L5 := O2.load preZ 0
      have D5 := O2.done preZ 0
      clear O2 r1 hn
      go_wp2
      exact bodyPost_ret (v := .tuple #[.agg (rc preZ 0), .int .i64 2]) (results_row_tmp rfl _ _ _ _ rfl rfl L5) rfl ⟨by rw [HV.out], D5⟩
    · obtain ⟨m, hm⟩ : ∃ m : Nat, n = m := ⟨n.toNat, by omega⟩
      have HV : Hid (lineOr 0 n p = .tuple #[.agg (rc p m), .int .i64 0]) := by show _ = _; unfold lineOr; rw [if_pos ⟨rfl, by omega⟩, hm, Int.toNat_natCast]
      have B1 := fun w => run_routeBuild p m w
      rw [← hm] at B1
      have hn1 : 0 ≤ n := by omega
      have L3 := run_preLoad r1
      have S5 := O2.store p m
      have L5 := O2.load p m
      have D5 := O2.done p m
      clear O2 r1 h60 h60' hsI hz hzp B0 hm hn0
      go_wp2
      exact bodyPost_ret (v := .tuple #[.agg (rc p m), .int .i64 0]) (results_row_tmp rfl _ _ _ _ rfl rfl L5) rfl ⟨by rw [HV.out], D5⟩
  · have her2 : (er != 0) = true := by rw [bne_iff_ne]; exact her
    have HV : Hid (lineOr er n p = .tuple #[.agg (rc preZ 0), .int .i64 2]) := by show _ = _; unfold lineOr; rw [if_neg (fun h => her h.1)]
    have S5 := O2.store preZ 0
    have L5 := O2.load preZ 0
    have D5 := O2.done preZ 0
    clear O2 r1 her hn
    go_wp2
    exact bodyPost_ret (v := .tuple #[.agg (rc preZ 0), .int .i64 2]) (results_row_tmp rfl _ _ _ _ rfl rfl L5) rfl ⟨by rw [HV.out], D5⟩

theorem rrline_any (s : List UInt8) (w : World) (hs : s.length < 1000000) :
    Calls Tryd.prog 14 #[.string (bs s)] w fun e w' => e = .returned (readLineV s) ∧ Below w.heap.size w w' := by
  unfold readLineV
  by_cases h60 : 60 < s.length
  · rw [if_pos h60]; exact rrline_long s w hs h60
  · rw [if_neg h60]
    have hl := ahead_le 32 s
    have S := fun w : World => rsplit_at 32 32 rfl s w (by omega)
    unfold SplitPost at S
    by_cases h2 : (pieces 32 s).length = 2
    · obtain ⟨hp, _⟩ := pieces_two h2
      rw [hp] at S
      have C1 : Hid (∀ w : World, Calls Tryd.prog 29 #[.string (bs s), .int .u8 32] w fun e w' => ∃ g cap, e = .returned (.slice (some ⟨g, 0, none⟩) 2 cap) ∧ (w'.cell? ⟨g, 0, none⟩ = some (.string (bs (ahead 32 s))) ∧ w'.cell? ⟨g, 1, none⟩ = some (.string (bs (behind 32 s)))) ∧ w.heap.size ≤ g ∧ g < w'.heap.size ∧ Below w.heap.size w w') :=
        Lib.hid fun w => (S w).mono fun e w' ⟨g, cap, he, hc, hr⟩ => ⟨g, cap, he, ⟨hc 0 _ rfl, hc 1 _ rfl⟩, hr⟩
      have C3 := Lib.hid (fun w : World => rnumber_same 65535 65535 rfl (behind 32 s) w (by decide) (by omega))
      have C2 := fun w : World => rrpre_any (ahead 32 s) w (by omega)
      have hlt : numZ 65535 (behind 32 s) < 65536 := by
        unfold numZ
        cases hn : readNum 65535 (behind 32 s) with
        | none => decide
        | some n => have := (readNum_is hn).2; simp; omega
      unfold readPreV at C2
      rw [if_neg (show ¬ 60 < (ahead 32 s).length by omega)] at C2
      unfold readLineT
      cases hk : readPreT (ahead 32 s) with
      | none =>
        simp only [hk] at C2
        refine (rrline_two s _ _ 2 _ preZ w h60 hlt C1 (Lib.hid C2) C3).mono fun e w' ⟨he, hw⟩ => ⟨?_, hw⟩
        rw [he]
        rfl
      | some p =>
        simp only [hk] at C2
        refine (rrline_two s _ _ 0 _ p w h60 hlt C1 (Lib.hid C2) C3).mono fun e w' ⟨he, hw⟩ => ⟨?_, hw⟩
        rw [he]
        unfold numZ lineOr
        cases hn : readNum 65535 (behind 32 s) with
        | none => rfl
        | some n => simp [lineV]
    · rw [readLineT_no (pieces_not_two (by decide) h2)]
      exact rrline_none s _ w h60 h2 (Lib.hid S)

end Go.Proofs.YtlokhhochhajmaaDoor
