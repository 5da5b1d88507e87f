/- root.laid and Put: what each hands back. -/
import Derived.Test.YtjlmkhomedoolaaRootMay
import Derived.Deep.RegionHeld3
namespace Go.Proofs.Ytjlmkhomedoolaa.Root
open Go.RowKit Go.Sort Go.Shelf Go.Proofs.Ytjlmkhomedoolaa Go.Proofs.Ytjlmkhomedoolaa.Page
attribute [local go_sem ↓] slice_bytes loadVar_ro storeVar_ro loadVar_page storeVar_page

/-- A new row with room, of which nothing counts yet. -/
theorem make_room (w : World) (c : Nat) (hc : c ≤ 1000000) : ∃ w1, (Instr.makeSlice 29 (.int .i64 0) (.int .i64 (c : Int))).run Try.prog w = .ok (.slice (some ⟨w.heap.size, 0, none⟩) 0 c) w1 ∧
    OwnB w1 w.heap.size (.slice (some ⟨w.heap.size, 0, none⟩) 0 c) [] ∧ Below w.heap.size w w1 := by
  obtain ⟨i0, e0, e1, e2, e3⟩ := info_parts infoB
  obtain ⟨w', r1, r2, r3⟩ := run_make_own (P := Try.prog) w w.heap.size 29 5 i0 (.int .u8 0) 1 Try.underlying29 e0 e1 e2 .i64 .i64 c (by rw [e3]; omega) (by unfold maxLen; omega) (Nat.le_refl _)
  exact ⟨w', r1, r2, (Below.refl _ _).grown r3 (Nat.le_refl _) (fun k hk => by cases hk)⟩
theorem bytes_next {l : List Int} {k : Nat} {x : Int} (h : l[k]? = some x) : bytesL (l.take (k + 1)) = bytesL (l.take k) ++ two x := by
  unfold bytesL
  rw [List.take_add_one, h, List.flatMap_append]
  simp
theorem two_new (W : World) (y : Int) (h0 : 0 ≤ y) (h : y < 65536) : OwnB (W.alloc (.cells #[.int .u8 (y / 256 % 256), .int .u8 (y % 256)] 5)) W.heap.size (.slice (some ⟨W.heap.size, 0, none⟩) 2 2) (two y) := by
  have e1 : byV (hi y) = .int .u8 (y / 256 % 256) := by
    unfold byV hi
    rw [UInt8.toNat_ofNat']
    congr 1; omega
  have e2 : byV (lo y) = .int .u8 (y % 256) := by
    unfold byV lo
    rw [UInt8.toNat_ofNat']
    congr 1; omega
  rw [← e1, ← e2]
  rcases OwnB.made W (two y) with h | h
  · exact h
  · exact absurd (by unfold maxLen; simp [two]) h
theorem wrong_nat {l : List Int} (h : l.any wrongB = false) {k : Nat} {x : Int} (hx : l[k]? = some x) : 0 ≤ x ∧ x < 65536 := by
  rw [List.any_eq_false] at h
  have := h x (List.mem_of_getElem? hx)
  simp [wrongB] at this
  exact ⟨by omega, by omega⟩

set_option maxHeartbeats 4000000 in
set_option maxRecDepth 100000 in
theorem laid_any (r : Ro) (u : Value) (w : World) (hR : RdN w u r.nums) (hn : r.nums.length ≤ 64) (hw : r.nums.any wrongB = false) :
    Calls Try.prog 13 #[roV r u] w fun e w' => ∃ v, e = .returned (pgV (laidP r) v) ∧ OwnB w' w.heap.size v (laidP r).body ∧ Below w.heap.size w w' := by
  obtain ⟨a, cap, hv, hl1, hl2⟩ := hR.len
  obtain ⟨W1, hW1⟩ : ∃ W1, W1 = w.alloc (.cells (roC r u) 25) := ⟨_, rfl⟩
  have hb1 : Below w.heap.size w W1 := by rw [hW1]; exact below1 _ _
  have hx1 : Bx 25 W1 w.heap.size (roC r u) := by rw [hW1]; exact Bx.new _ w _
  obtain ⟨W, hW⟩ : ∃ W, W = W1.alloc (.cells zp 45) := ⟨_, rfl⟩
  have hb2 : Below W1.heap.size W1 W := by rw [hW]; exact below1 _ _
  have hpx : Page.Box W W1.heap.size zp := by rw [hW]; exact Box.new W1 _
  have hs1 : w.heap.size < W1.heap.size := hx1.lt
  have hs2 : W1.heap.size < W.heap.size := hpx.lt
  have hsz1 : W1.heap.size = w.heap.size + 1 := by rw [hW1]; simp
  obtain ⟨B, hB⟩ : ∃ B, w.heap.size + 1 = B := ⟨_, rfl⟩
  rw [hsz1, hB] at hb2 hpx hs1 hs2
  have HX : Hid (Bx 25 W w.heap.size (roC r u) ∧ Page.Box W B zp ∧ Below w.heap.size w W ∧ w.heap.size < B ∧ B < W.heap.size) := ⟨hx1.upto hb2 hs1, hpx, hb1.trans (hb2.mono (by omega)), hs1, hs2⟩
  have HR := Lib.hid hR
  have HWR := Lib.hid hw
  obtain ⟨m, hm⟩ : ∃ m, r.nums.length = m := ⟨_, rfl⟩
  rw [hm] at hv hl1 hn
  obtain ⟨w1, mk, ho1, hbw1⟩ := make_room W (2 * m) (by omega)
  have HO := Lib.hid (And.intro ho1 hbw1)
  have c1 : W.cell? ⟨w.heap.size, 1, none⟩ = some u := HX.out.1.cell 1
  have c1' : w1.cell? ⟨w.heap.size, 1, none⟩ = some u := keep_cell c1 hbw1
  have mk' : (Instr.makeSlice 29 (.int .i64 0) (.int .i64 (2 * (m : Int)))).run Try.prog W = .ok (.slice (some ⟨W.heap.size, 0, none⟩) 0 (2 * m)) w1 := by
    rw [show (2 * (m : Int)) = ((2 * m : Nat) : Int) by omega]; exact mk
  have HM := Lib.hid hm
  have HW1 := Lib.hid hW1
  subst hv
  unfold roC at HW1
  unfold roV
  unfold zp at hW
  clear hR hw hl1 hl2 hb1 hx1 hb2 hpx hs1 hs2 hm mk ho1 hbw1 hW1
  go_enter Try.func13, Try.ntmps13
  go_upto_region 1 with fail
  rw [← HW1.out, ← hW]
  clear hW HW1 hB hsz1
  go_upto_region 3 with fail
  clear mk' c1
  go_loopw [3, 5, 14] (fun o _ i wr => ∃ k : Nat, k ≤ m ∧ i = .int .i64 k ∧ OwnB wr W.heap.size o (bytesL (r.nums.take k)) ∧ Below W.heap.size W wr) (fun _ _ i _ => m - (intOf i).toNat)
  case atStart => exact ⟨0, Nat.zero_le _, rfl, HO.out.1, HO.out.2⟩
  case round =>
    obtain ⟨k, hk, rfl, ho, hb⟩ := hrel
    have HW := Lib.hid (And.intro ho hb)
    clear ho hb c1'
    by_cases hlt : k < m
    · have hltI : (k : Int) < m := by omega
      obtain ⟨b1, o1, q1, e1, hc1⟩ := HR.out.form (by rw [HM.out]; omega)
      rw [HM.out] at e1
      cases e1
      obtain ⟨y, hy⟩ : ∃ x, r.nums[k]? = some x := ⟨_, List.getElem?_eq_getElem (by rw [HM.out]; exact hlt)⟩
      have HN := Lib.hid (bytes_next hy)
      have hcell := keep_cell (hc1 k _ hy) (HX.out.2.2.1.trans (HW.out.2.mono HX.out.2.2.1.size))
      unfold nV at hcell
      have HY := Lib.hid (wrong_nat HWR.out hy)
      obtain ⟨wa, hwa⟩ : ∃ wa, wa = wr.alloc (.cells #[.int .u8 (y / 256 % 256), .int .u8 (y % 256)] 5) := ⟨_, rfl⟩
      have hba : Below wr.heap.size wr wa := by rw [hwa]; exact below1 _ _
      have HA : Hid (OwnB wa W.heap.size u3 (bytesL (r.nums.take k)) ∧ RdB wa (.slice (some ⟨wr.heap.size, 0, none⟩) 2 2) (two y) ∧ W.heap.size ≤ wa.heap.size ∧ Below W.heap.size W wa) :=
        ⟨HW.out.1.later hba, by rw [hwa]; exact (two_new wr y HY.out.1 HY.out.2).rd, Nat.le_trans HW.out.2.size hba.size, HW.out.2.trans (hba.mono HW.out.2.size)⟩
      have HLE : Hid ((bytesL (r.nums.take k)).length + (two y).length ≤ 1000000) := by
        show _ ≤ _
        rw [bytes_length, List.length_take]
        show _ + 2 ≤ _
        omega
      clear hy hc1 hba
      go_upto_region 5 with fail
      clear hcell
      go_wp2_with (first
        | (at_builtin; rw [← hwa]; refine wpList_appendB rfl _ _ rfl rfl rfl HA.out.1 HA.out.2.1 HA.out.2.2.1 HLE.out ?_; intro v' w' h1 h2)
        | go_in)
      have HN2 : Hid (OwnB w' W.heap.size v' (bytesL (r.nums.take (k + 1))) ∧ Below W.heap.size W w') := by
        refine ⟨by rw [HN.out]; exact h1, HA.out.2.2.2.trans (HA.out.1.below h2 HA.out.2.2.1)⟩
      clear h1 h2 HA hwa
      go_wp2
      go_roundw
      case rel => exact ⟨k + 1, hlt, by go_num, HN2.out.1, HN2.out.2⟩
      case measure => simp [intOf]; omega
    · obtain rfl : k = m := by omega
      rw [List.take_of_length_le (by rw [HM.out]; exact Nat.le_refl _)] at HW
      obtain ⟨ou, cu, eu, -⟩ := HW.out.1.rd.len
      obtain ⟨nu, hnu⟩ : ∃ nu, (bytesL r.nums).length = nu := ⟨_, rfl⟩
      rw [hnu] at eu
      subst eu
      have hbx := (HX.out.1.later HW.out.2).later ((Below.refl _ wr).drew)
      have hpb := (HX.out.2.1.later HW.out.2).later ((Below.refl _ wr).drew)
      have s1 : wr.drew.cell? ⟨w.heap.size, 0, none⟩ = some (.int .u64 (r.gen : Int)) ∧ wr.drew.cell? ⟨w.heap.size, 1, none⟩ = some (.slice a k cap) := ⟨hbx.cell 0, hbx.cell 1⟩
      have s2 : wr.cell? ⟨w.heap.size, 1, none⟩ = some (.slice a k cap) := (HX.out.1.later HW.out.2).cell 1
      have s3 : ∀ ds : Array Value, (wr.drew.setRow B ds).cell? ⟨w.heap.size, 0, none⟩ = some (.int .u64 (r.gen : Int)) ∧ (wr.drew.setRow B ds).cell? ⟨w.heap.size, 1, none⟩ = some (.slice a k cap) := fun ds => by
        have hlt := HX.out.2.2.2.1
        have h := below_row (Below.refl B wr.drew) (by have := hpb.lt; omega) (Nat.le_refl B) ds
        exact ⟨(h.cell (p := ⟨w.heap.size, 0, none⟩) hlt).trans s1.1, (h.cell (p := ⟨w.heap.size, 1, none⟩) hlt).trans s1.2⟩
      have s3 := show Hid _ from s3
      have HC := Lib.hid (idOf_any k (by omega) wr.drew)
      obtain ⟨q, hq⟩ : ∃ q, idL k = q := ⟨_, rfl⟩
      have HQ : Hid (laidP r = ⟨2, q, r.gen, bytesL r.nums⟩) := by show _ = _; unfold laidP; rw [HM.out, hq]
      rw [hq] at HC
      have hone := Page.RdB.one HW.out.1.rd
      have st := hpb.store rfl ⟨2, q, r.gen, bytesL r.nums⟩ hone
      have ld := (hpb.row (pgC ⟨2, q, r.gen, bytesL r.nums⟩ (.slice ou nu cu))).load rfl
      have hbw : Below w.heap.size w wr := HX.out.2.2.1.trans (HW.out.2.mono HX.out.2.2.1.size)
      have FIN : Hid (OwnB (wr.drew.setRow B (pgC ⟨2, q, r.gen, bytesL r.nums⟩ (.slice ou nu cu))) w.heap.size (.slice ou nu cu) (bytesL r.nums) ∧ Below w.heap.size w (wr.drew.setRow B (pgC ⟨2, q, r.gen, bytesL r.nums⟩ (.slice ou nu cu)))) := by
        refine ⟨(own_row (HW.out.1.later ((Below.refl _ wr).drew)) _ HX.out.2.2.2.2).mono HX.out.2.2.1.size, below_row hbw.drew hbw.size ?_ _⟩
        have := HX.out.2.2.2.1; omega
      unfold pgC at st ld FIN
      dsimp only at st ld FIN
      clear hnu hbx hpb hq hone hbw
      go_upto_region 7 with fail
      go_region_held3 (fun w' => w'.cell? ⟨w.heap.size, 0, none⟩ = some (.int .u64 (r.gen : Int)) ∧ w'.cell? ⟨w.heap.size, 1, none⟩ = some (.slice a k cap))
        (first | exact s1 | exact s3.out _)
        (first
          | ((with_reducible refine HC.out.mono ?_); rintro e w2 ⟨rfl, rfl⟩))
      go_wp2
      exact bodyPost_ret (results_row rfl _ _ _ _ rfl ld) rfl ⟨_, by rw [HQ.out]; rfl, FIN.out⟩

set_option maxHeartbeats 2000000 in
set_option maxRecDepth 100000 in
/-- What is put of a root that may be. -/
theorem put_yes (r : Ro) (u : Value) (n : Nat) (w : World) (hR : RdN w u r.nums) (hm : mayR r n = true) :
    Calls Try.prog 6 #[roV r u, .int .i64 (n : Int)] w fun e w' => ∃ v, e = .returned (.tuple #[v, .int .i64 0]) ∧ OwnB w' w.heap.size v (putB2 r n) ∧ Below w.heap.size w w' := by
  have hm' := mayR_iff.1 hm
  have hml := most_small n
  obtain ⟨W, hW⟩ : ∃ W, W = w.alloc (.cells (roC r u) 25) := ⟨_, rfl⟩
  have hb : Below w.heap.size w W := by rw [hW]; exact below1 _ _
  have hx : Bx 25 W w.heap.size (roC r u) := by rw [hW]; exact Bx.new _ w _
  have ld := hx.ld rfl
  have HX := Lib.hid (And.intro hx hb)
  have HC1 := Lib.hid (may_any r u n W (hR.later hb))
  rw [hm] at HC1
  have HC2 : Hid (∀ W', Below W.heap.size W W' → (roLoad ⟨w.heap.size, 0, none⟩).run Try.prog W' = .ok (.agg (roC r u)) W' ∧ Below w.heap.size w W' ∧ Calls Try.prog 13 #[roV r u] W' fun e w' => ∃ v, e = .returned (pgV (laidP r) v) ∧ OwnB w' W'.heap.size v (laidP r).body ∧ Below W'.heap.size W' w') :=
    fun W' h => ⟨(hx.later h).ld rfl, hb.trans (h.mono hb.size), laid_any r u W' ((hR.later hb).later h) (by omega) hm'.2.2.2⟩
  have HC3 : Hid (∀ W' v, RdB W' v (laidP r).body → Calls Try.prog 12 #[pgV (laidP r) v, .int .i64 (n : Int)] W' fun e w' => ∃ v', e = .returned (.tuple #[v', .int .i64 0]) ∧ OwnB w' W'.heap.size v' (putB2 r n) ∧ Below W'.heap.size W' w') := fun W' v h => by
    have := Page.put_yes (laidP r) v n W' h (laid_may hm)
    have e1 : putE (laidP r) n = 0 := by unfold putE; rw [laid_may hm]; rfl
    have e2 : putR (laidP r) n = putB2 r n := by unfold putR; rw [laid_may hm]; rfl
    unfold PutPost at this
    rw [e1, e2] at this
    exact this
  obtain ⟨P, hP⟩ : ∃ P, laidP r = P := ⟨_, rfl⟩
  rw [hP] at HC2 HC3
  unfold roC at hW ld HC2
  unfold roV at HC1 HC2 ⊢
  clear hR hm hm' hml hb hx hP
  go_enter Try.func6, Try.ntmps6
  go_upto_region 1 with fail
  rw [← hW]
  clear hW
  go_wp2_with fail
  with_reducible refine HC1.out.mono ?_
  rintro e w1 ⟨rfl, hb1⟩
  obtain ⟨ld1, hbw, HL⟩ := HC2.out w1 hb1
  have HLD := Lib.hid HL
  have HB := Lib.hid hbw
  clear HL hbw hb1 ld
  go_wp2_with fail
  with_reducible refine HLD.out.mono ?_
  rintro e w2 ⟨v2, rfl, ho2, hb2⟩
  have HC4 := Lib.hid (HC3.out w2 v2 ho2.rd)
  have HB2 := Lib.hid (HB.out.trans (hb2.mono HB.out.size))
  clear ho2 hb2 ld1
  go_wp2_with fail
  with_reducible refine HC4.out.mono ?_
  rintro e w3 ⟨v3, rfl, ho3, hb3⟩
  have FIN := Lib.hid (And.intro (ho3.mono HB2.out.size) (HB2.out.trans (hb3.mono HB2.out.size)))
  clear ho3 hb3
  go_wp2
  go_ret2
  exact ⟨_, rfl, FIN.out⟩
set_option maxHeartbeats 2000000 in
set_option maxRecDepth 100000 in
/-- What is put of a root that may not be. -/
theorem put_no (r : Ro) (u : Value) (n : Int) (w : World) (hR : RdN w u r.nums) (hm : mayR r n = false) :
    Calls Try.prog 6 #[roV r u, .int .i64 n] w fun e w' => e = .returned (.tuple #[.slice none 0 0, .int .i64 1]) ∧ Below w.heap.size w w' := by
  obtain ⟨W, hW⟩ : ∃ W, W = w.alloc (.cells (roC r u) 25) := ⟨_, rfl⟩
  have hb : Below w.heap.size w W := by rw [hW]; exact below1 _ _
  have hx : Bx 25 W w.heap.size (roC r u) := by rw [hW]; exact Bx.new _ w _
  have ld := hx.ld rfl
  have HX := Lib.hid hb
  have HC1 := Lib.hid (may_any r u n W (hR.later hb))
  rw [hm] at HC1
  unfold roC at hW ld
  unfold roV at HC1 ⊢
  clear hR hm hb hx
  go_enter Try.func6, Try.ntmps6
  go_upto_region 1 with fail
  rw [← hW]
  clear hW
  go_wp2_with fail
  with_reducible refine HC1.out.mono ?_
  rintro e w1 ⟨rfl, hb1⟩
  have FIN := Lib.hid (HX.out.trans (hb1.mono HX.out.size))
  clear hb1 ld
  go_wp2
  go_ret2
  exact ⟨rfl, FIN.out⟩
end Go.Proofs.Ytjlmkhomedoolaa.Root
