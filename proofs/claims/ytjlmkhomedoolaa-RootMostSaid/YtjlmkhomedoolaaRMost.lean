/- The statement RootMost, walked. -/
import Derived.Test.YtjlmkhomedoolaaRootAwake
namespace Go.Proofs.Ytjlmkhomedoolaa.Root
open Go.RowKit Go.Sort Go.Shelf Go.Proofs.Ytjlmkhomedoolaa Go.Proofs.Ytjlmkhomedoolaa.Page
attribute [local go_sem ↓] slice_bytes cut_bytes loadVar_ro storeVar_ro loadVar_page storeVar_page

/-- A new row of zeros. -/
theorem make_zerosN (w : World) (k : Nat) (hk : k ≤ 1000000) : ∃ w1, (Instr.makeSlice 23 (.int .i64 (k : Int)) (.int .i64 (k : Int))).run Try.prog w = .ok (.slice (some ⟨w.heap.size, 0, none⟩) k k) w1 ∧
    OwnN w1 w.heap.size (.slice (some ⟨w.heap.size, 0, none⟩) k k) (List.replicate k 0) ∧ Below w.heap.size w w1 := by
  obtain ⟨i0, e0, e1, e2, e3⟩ := info_parts infoN
  have hr := run_make (P := Try.prog) w 23 3 i0 (.int .i64 0) Try.underlying23 e0 e1 .i64 .i64 (k : Int) (k : Int) (by omega) (by omega) (by rw [e3]; omega) (by omega)
  refine ⟨_, by simpa using hr, ?_, (Below.refl _ _).alloc (Nat.le_refl _) _⟩
  refine ⟨by rw [cellsN_length]; omega, .inr ⟨w.heap.size, k, _, by rw [List.length_replicate], Nat.le_refl _, heap_alloc_new w _, by rw [List.length_replicate]; exact Nat.le_refl _, by unfold maxLen; omega, by rw [size_madeCells, e2], ?_⟩⟩
  rw [List.length_replicate, e2, Nat.mul_one]
  apply List.ext_getElem?
  intro j
  rw [List.getElem?_take]
  unfold cellsN
  rw [List.getElem?_map, List.getElem?_replicate]
  by_cases hj : j < k
  · rw [if_pos hj, if_pos hj]
    simp [madeCells, hj, nV, Value.cells, Nat.mod_one]
  · rw [if_neg hj, if_neg hj]; rfl
theorem any_zeros (k : Nat) : (List.replicate k (0 : Int)).any wrongB = false := by
  rw [List.any_eq_false]
  intro x hx
  rw [(List.mem_replicate.1 hx).2]; decide
theorem may_most {z : Int} {m g : Nat} (hs : sizedB z = true) (hm : mostI z = m) (hg : g < 281474976710656) : mayR ⟨g, List.replicate m 0⟩ z = true ∧ mayR ⟨g, List.replicate (m + 1) 0⟩ z = false := by
  constructor
  · exact mayR_iff.2 ⟨sized_iff.1 hs, hg, by rw [List.length_replicate, hm]; exact Int.le_refl _, any_zeros m⟩
  · cases h : mayR ⟨g, List.replicate (m + 1) 0⟩ z with
    | false => rfl
    | true =>
      have := (mayR_iff.1 h).2.2.1
      rw [hm] at this
      simp only [List.length_replicate] at this
      omega
theorem most_nat (z : Int) : ∃ m : Nat, mostI z = m ∧ m ≤ 64 := by
  have h1 := most_small z
  have h2 : 0 ≤ mostI z := by
    unfold mostI roomI
    split
    · rename_i h; have := sized_iff.1 h; omega
    · omega
  exact ⟨(mostI z).toNat, by omega, by omega⟩

set_option maxHeartbeats 8000000 in
set_option maxRecDepth 200000 in
theorem walkMost (z : Int) (g : Nat) (ls : List (List UInt8)) (v : Value) (w : World) (hg : g < 18446744073709551616) (hR : RdL w v ls) :
    Calls Try.prog 4 #[.int .i64 z, .int .u64 (g : Int), v] w fun e w' => e = .returned (.bool true) ∧ Below w.heap.size w w' := by
  have HAW := Lib.hid (awake_any w)
  have HR := Lib.hid hR
  obtain ⟨a, cap, e1, h1, h2⟩ := hR.len
  obtain ⟨n, hn⟩ : ∃ n, ls.length = n := ⟨_, rfl⟩
  have HN := Lib.hid hn
  rw [hn] at e1 h1
  have hm63 : n ≤ 9223372036854775807 := by unfold maxLen at h2; omega
  subst e1
  obtain ⟨m, hm, hm64⟩ := most_nat z
  have HM := Lib.hid hm
  have HMC := Lib.hid (fun W => most_any z W)
  rw [hm] at HMC
  clear hR hn h1 h2 hm
  by_cases h20 : 20 < n
  · have h20I : (20 : Int) < n := by omega
    go_enter Try.func4, Try.ntmps4
    go_wp2_with fail
    (with_reducible refine HAW.out.mono ?_)
    rintro e w1 ⟨rfl, hb1⟩
    have HB1 := Lib.hid hb1
    clear hb1
    go_wp2
    go_ret
    exact ⟨rfl, HB1.out⟩
  have h20I : (n : Int) ≤ 20 := by omega
  have dn : decide ((20 : Int) < n) = false := decide_eq_false (by omega)
  have dm0 : decide ((m : Int) < 0) = false := decide_eq_false (by omega)
  have dm6 : decide ((64 : Int) < m) = false := decide_eq_false (by omega)
  have HG := Lib.hid hg
  clear hg
  go_enter Try.func4, Try.ntmps4
  go_wp2_with fail
  (with_reducible refine HAW.out.mono ?_)
  rintro e w1 ⟨rfl, hb1⟩
  have HB1 := Lib.hid hb1
  clear hb1
  go_wp2_with fail
  (with_reducible refine (HMC.out w1).mono ?_)
  rintro e w1' ⟨rfl, rfl⟩
  go_upto_region 8 with fail
  go_cut [37] from 32 to 37 (fun t wx => t = .bool (sizedB z) ∧ wx = w1)
  case first =>
    by_cases h1 : 24 ≤ z
    · by_cases h2 : z ≤ 256
      · have HS : Hid (sizedB z = true) := sized_iff.2 ⟨h1, h2⟩
        go_wp2
        go_meet
        exact ⟨by rw [HS.out], rfl⟩
      · have HS : Hid (sizedB z = false) := by show _ = _; simp [sizedB]; omega
        go_wp2
        go_meet
        exact ⟨by rw [HS.out], rfl⟩
    · have HS : Hid (sizedB z = false) := by show _ = _; simp [sizedB]; omega
      go_wp2
      go_meet
      exact ⟨by rw [HS.out], rfl⟩
  case rest =>
  obtain ⟨rfl, hwc⟩ := hcut
  obtain rfl : w1 = wc := hwc.symm
  go_upto_if 37 with fail
  go_cut [8, 9] from 37 to 57 (fun _ _ wx => Below w.heap.size w wx)
  case first =>
    cases hs : sizedB z with
    | false =>
      go_wp2
      go_meet
      exact HB1.out
    | true =>
      have HMY := Lib.hid (may_most hs HM.out (Nat.mod_lt g (by decide : 0 < 281474976710656)))
      obtain ⟨q, hq⟩ : ∃ q, g % 281474976710656 = q := ⟨_, rfl⟩
      rw [hq] at HMY
      have q1 : (g : Int) % 281474976710656 = q := by omega
      have q2 : (g : Int).tmod 281474976710656 = q := by rw [Int.tmod_eq_emod_of_nonneg (by omega)]; exact q1
      clear hq hs
      obtain ⟨w2, mk1, ho2, hb2⟩ := make_zerosN w1 m (by omega)
      have st3 := ro_new w2 ⟨q, List.replicate m 0⟩ (v := .slice (some ⟨w1.heap.size, 0, none⟩) m m) rfl
      have hb3 : Below w2.heap.size w2 (w2.alloc (.cells (roC ⟨q, List.replicate m 0⟩ (.slice (some ⟨w1.heap.size, 0, none⟩) m m)) 25)) := below1 _ _
      have hx3 := Bx.new 25 w2 (roC ⟨q, List.replicate m 0⟩ (.slice (some ⟨w1.heap.size, 0, none⟩) m m))
      obtain ⟨W3, hW3⟩ : ∃ W3, w2.alloc (.cells (roC ⟨q, List.replicate m 0⟩ (.slice (some ⟨w1.heap.size, 0, none⟩) m m)) 25) = W3 := ⟨_, rfl⟩
      rw [hW3] at st3 hb3 hx3
      obtain ⟨w4, mk2, ho4, hb4⟩ := make_zerosN W3 (m + 1) (by omega)
      have mk2' : (Instr.makeSlice 23 (.int .i64 ((m : Int) + 1)) (.int .i64 ((m : Int) + 1))).run Try.prog W3 = .ok (.slice (some ⟨W3.heap.size, 0, none⟩) (m + 1) (m + 1)) w4 := by
        rw [show ((m : Int) + 1) = ((m + 1 : Nat) : Int) by omega]; exact mk2
      have st5 := ro_new w4 ⟨q, List.replicate (m + 1) 0⟩ (v := .slice (some ⟨W3.heap.size, 0, none⟩) (m + 1) (m + 1)) rfl
      have hb5 : Below w4.heap.size w4 (w4.alloc (.cells (roC ⟨q, List.replicate (m + 1) 0⟩ (.slice (some ⟨W3.heap.size, 0, none⟩) (m + 1) (m + 1))) 25)) := below1 _ _
      have hx5 := Bx.new 25 w4 (roC ⟨q, List.replicate (m + 1) 0⟩ (.slice (some ⟨W3.heap.size, 0, none⟩) (m + 1) (m + 1)))
      obtain ⟨W5, hW5⟩ : ∃ W5, w4.alloc (.cells (roC ⟨q, List.replicate (m + 1) 0⟩ (.slice (some ⟨W3.heap.size, 0, none⟩) (m + 1) (m + 1))) 25) = W5 := ⟨_, rfl⟩
      rw [hW5] at st5 hb5 hx5
      have B35 : Below W3.heap.size W3 W5 := hb4.trans (hb5.mono hb4.size)
      have B23 : Below w1.heap.size w1 W3 := hb2.trans (hb3.mono hb2.size)
      have B15 := B23.trans (B35.mono B23.size)
      have HB5 := Lib.hid (HB1.out.trans (B15.mono HB1.out.size))
      have HMA := Lib.hid (may_any ⟨q, List.replicate m 0⟩ _ z W5 ((ho2.later hb3).later B35).rd)
      have HMB : Hid (∀ W, Below W5.heap.size W5 W → Calls Try.prog 7 #[roV ⟨q, List.replicate (m + 1) 0⟩ (.slice (some ⟨W3.heap.size, 0, none⟩) (m + 1) (m + 1)), .int .i64 z] W fun e w' => e = .returned (.bool false) ∧ Below W.heap.size W w') := fun W h => by
        have := may_any ⟨q, List.replicate (m + 1) 0⟩ _ z W ((ho4.later hb5).later h).rd
        rw [HMY.out.2] at this
        exact this
      rw [HMY.out.1] at HMA
      have ldA := (hx3.later B35).ld rfl
      have HLB : Hid (∀ W, Below W5.heap.size W5 W → (roLoad ⟨w4.heap.size, 0, none⟩).run Try.prog W = .ok (.agg (roC ⟨q, List.replicate (m + 1) 0⟩ (.slice (some ⟨W3.heap.size, 0, none⟩) (m + 1) (m + 1)))) W) := fun W h => (hx5.later h).ld rfl
      unfold zr roC at st3 st5
      unfold roC at ldA HLB
      unfold roV at HMA HMB
      dsimp only at st3 st5 ldA HLB HMA HMB
      clear hb2 hb3 hx3 hW3 ho2 hb4 ho4 mk2 hb5 hx5 hW5 B35 B23 B15
      go_wp2_with fail
      (with_reducible refine HMA.out.mono ?_)
      rintro e w6 ⟨rfl, hb6⟩
      have ldB := HLB.out w6 hb6
      have HMB2 := Lib.hid (HMB.out w6 hb6)
      have HB6 := Lib.hid (HB5.out.trans (hb6.mono HB5.out.size))
      clear hb6 ldA st3 st5 mk1 mk2' q1 q2
      go_wp2_with fail
      (with_reducible refine HMB2.out.mono ?_)
      rintro e w7 ⟨rfl, hb7⟩
      have HB7 := Lib.hid (HB6.out.trans (hb7.mono HB6.out.size))
      clear hb7 ldB
      go_wp2
      go_meet
      exact HB7.out
  case rest =>
  obtain ⟨W, hWc⟩ : ∃ W, wc = W := ⟨_, rfl⟩
  rw [hWc] at hcut ⊢
  have HB := Lib.hid hcut
  clear hcut hWc
  go_upto_region 14 with fail
  go_loop [10] (fun i => ∃ k : Nat, k ≤ n ∧ i = .int .i64 k) (fun i => n - (intOf i).toNat)
  case atStart => exact ⟨0, Nat.zero_le _, rfl⟩
  case round =>
    obtain ⟨k, hk, rfl⟩ := hrel
    by_cases hlt : k < n
    · have hltI : (k : Int) < n := by omega
      obtain ⟨b1, o1, q1, e1, hc1⟩ := HR.out.form (by rw [HN.out]; omega)
      rw [HN.out] at e1
      cases e1
      obtain ⟨b, hx⟩ : ∃ x, ls[k]? = some x := ⟨_, List.getElem?_eq_getElem (by rw [HN.out]; exact hlt)⟩
      obtain ⟨u, hu, hru⟩ := hc1 k b hx
      obtain ⟨ax, cx, hux, -⟩ := hru.len
      have c1 := keep_cell hu HB.out
      obtain ⟨lx, hlx⟩ : ∃ lx, b.length = lx := ⟨_, rfl⟩
      rw [hlx] at hux
      subst hux
      clear hx hc1 hu hru hlx
      by_cases h3 : 300 < lx
      · have h3I : (300 : Int) < lx := by omega
        go_wp2
        go_ret
        exact ⟨rfl, HB.out⟩
      · have h3I : decide ((300 : Int) < lx) = false := decide_eq_false (by omega)
        go_wp2
        go_round
        case rel => exact ⟨k + 1, hlt, by go_num⟩
        case measure => simp [intOf]; omega
    · obtain rfl : k = n := by omega
      have HNW := Lib.hid (newest_any ls _ W (HR.out.later HB.out))
      unfold NewPost at HNW
      obtain ⟨N, hN⟩ : ∃ N, newL ls = N := ⟨_, rfl⟩
      have HNE := Lib.hid (new_err ls)
      have HNA : Hid ((newL ls).err = 0 → At ls (newL ls).pos (newL ls).root ∧ ∀ j s, At ls j s → s.gen ≤ (newL ls).root.gen ∧ ((newL ls).pos < j → s.gen < (newL ls).root.gen)) := new_at
      have HNO : Hid ((newL ls).err ≠ 0 → ∀ j s, ¬ At ls j s) := new_no
      rw [hN] at HNW HNE HNA HNO
      obtain ⟨P, r, er⟩ := N
      dsimp only at HNW HNE HNA HNO
      clear hN
      go_wp2_with fail
      (with_reducible refine HNW.out.mono ?_)
      rintro e w8 ⟨xv, rfl, ho8, hb8⟩
      have hone := RdN.one ho8.rd
      have st12 := ro_new w8 r (v := xv) hone
      have hb9 : Below w8.heap.size w8 (w8.alloc (.cells (roC r xv) 25)) := below1 _ _
      have hx9 := Bx.new 25 w8 (roC r xv)
      obtain ⟨W9, hW9⟩ : ∃ W9, w8.alloc (.cells (roC r xv) 25) = W9 := ⟨_, rfl⟩
      rw [hW9] at st12 hb9 hx9
      obtain ⟨R, hRR⟩ : ∃ R, w8.heap.size = R := ⟨_, rfl⟩
      rw [hRR] at st12 hx9
      have B9 : Below W.heap.size W W9 := hb8.trans (hb9.mono hb8.size)
      have H9 : Hid (Bx 25 W9 R (roC r xv) ∧ RdN W9 xv r.nums ∧ Below w.heap.size w W9) := ⟨hx9, (ho8.later hb9).rd, HB.out.trans (B9.mono HB.out.size)⟩
      unfold zr roC at st12
      unfold roV
      clear hone hb9 hx9 hW9 B9 ho8 hb8
      go_upto_region 20 with fail
      clear st12 hRR
      go_loopw [14, 15, 16] (fun i _ _ wr => ∃ k1 : Nat, k1 ≤ k ∧ i = .int .i64 k1 ∧ Hid (Below W9.heap.size W9 wr)) (fun i _ _ _ => k - (intOf i).toNat)
      case atStart => exact ⟨0, Nat.zero_le _, rfl, Below.refl _ _⟩
      case round =>
        obtain ⟨k1, hk1, rfl, HW⟩ := hrel
        by_cases hlt1 : k1 < k
        · have hltI : (k1 : Int) < k := by omega
          obtain ⟨b1, o1, q1, e1, hc1⟩ := HR.out.form (by rw [HN.out]; omega)
          rw [HN.out] at e1
          cases e1
          obtain ⟨b, hx⟩ : ∃ x, ls[k1]? = some x := ⟨_, List.getElem?_eq_getElem (by rw [HN.out]; exact hlt1)⟩
          obtain ⟨u, hu, hru⟩ := hc1 k1 b hx
          have Bw : Below w.heap.size w wr := H9.out.2.2.trans (HW.out.mono H9.out.2.2.size)
          have c1 := keep_cell hu Bw
          have HC := Lib.hid (readR_any b u wr (hru.later Bw))
          unfold ReadRPost at HC
          obtain ⟨s, hs⟩ : ∃ s, (readR b).1 = s := ⟨_, rfl⟩
          obtain ⟨es, hes⟩ : ∃ es, (readR b).2 = es := ⟨_, rfl⟩
          have HAT : Hid (es = 0 → At ls k1 s) := fun h => ⟨b, hx, by rw [← hs, ← h, ← hes]⟩
          rw [hs, hes] at HC
          clear hx hc1 hu hru hs hes Bw
          go_wp2_with fail
          (with_reducible refine HC.out.mono ?_)
          rintro e w10 ⟨yv, rfl, ho10, hb10⟩
          have hone := RdN.one ho10.rd
          have st15 := ro_new w10 s (v := yv) hone
          have hb11 : Below w10.heap.size w10 (w10.alloc (.cells (roC s yv) 25)) := below1 _ _
          have hx11 := Bx.new 25 w10 (roC s yv)
          obtain ⟨W11, hW11⟩ : ∃ W11, w10.alloc (.cells (roC s yv) 25) = W11 := ⟨_, rfl⟩
          rw [hW11] at st15 hb11 hx11
          have HW11 : Hid (Below W9.heap.size W9 W11) := HW.out.trans ((hb10.trans (hb11.mono hb10.size)).mono HW.out.size)
          have c15 : W11.cell? ⟨w10.heap.size, 0, none⟩ = some (.int .u64 (s.gen : Int)) := hx11.cell 0
          have c12 : W11.cell? ⟨R, 0, none⟩ = some (.int .u64 (r.gen : Int)) := (H9.out.1.later HW11.out).cell 0
          unfold zr roC at st15
          unfold roV
          clear hone hb11 hx11 hW11 ho10 hb10
          by_cases he : es = 0
          · have hat := HAT.out he
            have her : er = 0 := Classical.byContradiction fun h => HNO.out h k1 s hat
            subst he
            have hgs := (HNA.out her).2 k1 s hat
            subst her
            have d1 : decide ((r.gen : Int) < (s.gen : Int)) = false := decide_eq_false (by omega)
            have d1' : decide (r.gen < s.gen) = false := decide_eq_false (by omega)
            by_cases hp : P < k1
            · have hpI : (P : Int) < k1 := by omega
              have d2 : ((s.gen : Int) == r.gen) = false := by have := hgs.2 hp; simp; omega
              have d2' : (s.gen == r.gen) = false := by have := hgs.2 hp; simp; omega
              clear hat hgs hp
              go_wp2
              go_roundw
              case rel => exact ⟨k1 + 1, hlt1, by go_num, HW11⟩
              case measure => simp [intOf]; omega
            · have d2 : decide ((P : Int) < k1) = false := decide_eq_false (by omega)
              have d2' : decide (P < k1) = false := decide_eq_false hp
              clear hat hgs hp
              go_wp2
              go_roundw
              case rel => exact ⟨k1 + 1, hlt1, by go_num, HW11⟩
              case measure => simp [intOf]; omega
          · have e2 : (es == 0) = false := by simp [he]
            clear he
            go_wp2
            go_roundw
            case rel => exact ⟨k1 + 1, hlt1, by go_num, HW11⟩
            case measure => simp [intOf]; omega
        · obtain rfl : k1 = k := by omega
          have hb12 := H9.out.1.later HW.out
          have hr12 := H9.out.2.1.later HW.out
          have Bw : Below w.heap.size w wr := H9.out.2.2.trans (HW.out.mono H9.out.2.2.size)
          have HBw := Lib.hid Bw
          by_cases he : er = 0
          · obtain ⟨⟨b, hx, hrb⟩, -⟩ := HNA.out he
            have hPk : P < k1 := by have := (List.getElem?_eq_some_iff.1 hx).1; rw [HN.out] at this; exact this
            subst he
            obtain ⟨b1, o1, q1, e1, hc1⟩ := HR.out.form (by rw [HN.out]; omega)
            rw [HN.out] at e1
            cases e1
            obtain ⟨u, hu, hru⟩ := hc1 P b hx
            have c1 := keep_cell hu Bw
            have HC := Lib.hid (readR_any b u wr (hru.later Bw))
            unfold ReadRPost at HC
            rw [hrb] at HC
            have hPI : (P : Int) < k1 := by omega
            have HX12 := Lib.hid (And.intro hb12 hr12)
            clear hx hc1 hu hru hrb Bw hb12 hr12
            go_wp2_with fail
            (with_reducible refine HC.out.mono ?_)
            rintro e w10 ⟨yv, rfl, ho10, hb10⟩
            have hone := RdN.one ho10.rd
            have st17 := ro_new w10 r (v := yv) hone
            have hb11 : Below w10.heap.size w10 (w10.alloc (.cells (roC r yv) 25)) := below1 _ _
            have hx11 := Bx.new 25 w10 (roC r yv)
            obtain ⟨W11, hW11⟩ : ∃ W11, w10.alloc (.cells (roC r yv) 25) = W11 := ⟨_, rfl⟩
            rw [hW11] at st17 hb11 hx11
            have B11 : Below wr.heap.size wr W11 := hb10.trans (hb11.mono hb10.size)
            have HB11 := Lib.hid (HBw.out.trans (B11.mono HBw.out.size))
            have ld17 := hx11.ld rfl
            have ld12 := (HX12.out.1.later B11).ld rfl
            have HS := Lib.hid (same_any r r yv xv W11 (ho10.later hb11).rd (HX12.out.2.later B11))
            rw [sameR_refl] at HS
            unfold zr roC at st17
            unfold roC at ld17 ld12
            unfold roV at HS ⊢
            clear hone hb11 hx11 hW11 B11 ho10 hb10
            go_wp2_with fail
            (with_reducible refine HS.out.mono ?_)
            rintro e w13 ⟨rfl, hb13⟩
            have FIN := Lib.hid (HB11.out.trans (hb13.mono HB11.out.size))
            clear hb13 st17 ld17 ld12 c1
            go_wp2
            go_ret
            exact ⟨rfl, FIN.out⟩
          · have e1 : (er == 0) = false := by simp [he]
            have e2 : (er != 0) = true := by simp [he]
            obtain ⟨rfl, rfl, -⟩ := HNE.out.resolve_left he
            have ld12 := hb12.ld rfl
            have HS := Lib.hid (same_any zeroR zeroR xv (.slice none 0 0) wr hr12 (OwnN.nil _ 0).rd)
            rw [sameR_refl] at HS
            replace ld12 : (roLoad ⟨R, 0, none⟩).run Try.prog wr = .ok (.agg #[.int .u64 0, xv]) wr := ld12
            replace HS : Hid (Calls Try.prog 9 #[.agg #[.int .u64 0, xv], .agg #[.int .u64 0, .slice none 0 0]] wr fun e w' => e = .returned (.bool true) ∧ Below wr.heap.size wr w') := HS
            clear he Bw hb12 hr12
            go_wp2_with fail
            (with_reducible refine HS.out.mono ?_)
            rintro e w13 ⟨rfl, hb13⟩
            have FIN := Lib.hid (HBw.out.trans (hb13.mono HBw.out.size))
            clear hb13 ld12
            go_wp2
            go_ret
            exact ⟨rfl, FIN.out⟩
end Go.Proofs.Ytjlmkhomedoolaa.Root
