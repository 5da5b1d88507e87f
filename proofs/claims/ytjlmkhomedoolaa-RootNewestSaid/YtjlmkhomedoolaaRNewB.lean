/- The statement RootNewest, walked where there is a root. -/
import Derived.Test.YtjlmkhomedoolaaRNewA
namespace Go.Proofs.Ytjlmkhomedoolaa.Root
open Go.RowKit Go.Sort Go.Shelf Go.Proofs.Ytjlmkhomedoolaa Go.Proofs.Ytjlmkhomedoolaa.Page
attribute [local go_sem ↓] slice_bytes cut_bytes loadVar_ro storeVar_ro loadVar_page storeVar_page

/-- What stands in memory once all were looked for. -/
structure Laid (w : World) (S R14 R17 R20 : Nat) (r ra rb ro : Ro) (u xo xa xb : Value) (vb v : Value) (b : List UInt8) (ls : List (List UInt8)) (W : World) : Prop where
  br : Bx 25 W S (roC r u)
  ur : RdN W u r.nums
  bo : Bx 25 W R14 (roC ro xo)
  uo : RdN W xo ro.nums
  ba : Bx 25 W R17 (roC ra xa)
  ua : RdN W xa ra.nums
  bb : Bx 25 W R20 (roC rb xb)
  ub : RdN W xb rb.nums
  rb : RdB W vb b
  rl : RdL W v ls
  be : Below w.heap.size w W
theorem Laid.later {w : World} {S R14 R17 R20 : Nat} {r ra rb ro : Ro} {u xo xa xb vb v : Value} {b : List UInt8} {ls : List (List UInt8)} {W W' : World} (h : Laid w S R14 R17 R20 r ra rb ro u xo xa xb vb v b ls W) (hb : Below W.heap.size W W') : Laid w S R14 R17 R20 r ra rb ro u xo xa xb vb v b ls W' :=
  ⟨h.br.later hb, h.ur.later hb, h.bo.later hb, h.uo.later hb, h.ba.later hb, h.ua.later hb, h.bb.later hb, h.ub.later hb, h.rb.later hb, h.rl.later hb, h.be.trans (hb.mono h.be.size)⟩

set_option maxHeartbeats 8000000 in
set_option maxRecDepth 200000 in
theorem walkNewest_yes (r : Ro) (u : Value) (N : Nat) (ls : List (List UInt8)) (v : Value) (kb : Nat) (w : World) (hkb : kb < 65536) (hU : RdN w u r.nums) (hR : RdL w v ls) (h80 : r.nums.length ≤ 80) (h20 : ls.length ≤ 20) (hmay : mayR r N = true) :
    Calls Try.prog 3 #[roV r u, .int .i64 (N : Int), v, .int .u16 (kb : Int)] w fun e w' => e = .returned (.bool true) ∧ Below w.heap.size w w' := by
  obtain ⟨W, hW⟩ : ∃ W, W = w.alloc (.cells (roC r u) 25) := ⟨_, rfl⟩
  have hb : Below w.heap.size w W := by rw [hW]; exact below1 _ _
  have hx : Bx 25 W w.heap.size (roC r u) := by rw [hW]; exact Bx.new _ w _
  have HAW := Lib.hid (awake_any W)
  obtain ⟨au, cu, hu, hu1, hu2⟩ := hU.len
  obtain ⟨a, cap, hv, hv1, hv2⟩ := hR.len
  obtain ⟨m, hm⟩ : ∃ m, r.nums.length = m := ⟨_, rfl⟩
  obtain ⟨n, hn⟩ : ∃ n, ls.length = n := ⟨_, rfl⟩
  rw [hm] at hu hu1 h80
  rw [hn] at hv hv1 h20
  have HN := Lib.hid hn
  have h80I : decide ((80 : Int) < m) = false := decide_eq_false (by omega)
  have h20I : decide ((20 : Int) < n) = false := decide_eq_false (by omega)
  have hm63 : (m : Int) ≤ 80 := by omega
  have hn63 : (n : Int) ≤ 20 := by omega
  have hNs := (mayR_iff.1 hmay).1
  have hN24 : 24 ≤ N := by omega
  have hN256 : N ≤ 256 := by omega
  subst hv
  have HX : Hid (∀ W', Below W.heap.size W W' → W'.cell? ⟨w.heap.size, 1, none⟩ = some u ∧ (roLoad ⟨w.heap.size, 0, none⟩).run Try.prog W' = .ok (.agg #[.int .u64 (r.gen : Int), u]) W' ∧ Below w.heap.size w W' ∧ RdN W' u r.nums ∧ RdL W' (.slice a n cap) ls ∧ Bx 25 W' w.heap.size (roC r u)) := fun W' h =>
    ⟨(hx.later h).cell 1, (hx.later h).ld rfl, hb.trans (h.mono hb.size), (hU.later hb).later h, (hR.later hb).later h, hx.later h⟩
  have HMAY := Lib.hid hmay
  have HKB := Lib.hid hkb
  have HN2 := Lib.hid (And.intro hN24 hN256)
  have HB := Lib.hid hb
  subst hu
  unfold roC at hW
  unfold roV
  clear hb hx hU hR hu1 hu2 hv1 hv2 hm hn h80 h20 hmay hkb hNs
  go_enter Try.func3, Try.ntmps3
  go_upto_region 1 with fail
  rw [← hW]
  clear hW
  go_wp2_with fail
  (with_reducible refine HAW.out.mono ?_)
  rintro e w1 ⟨rfl, hb1⟩
  obtain ⟨c1, ld1, hbw, hr1, -⟩ := HX.out w1 hb1
  have HP := Lib.hid (put_yes r _ N w1 hr1 HMAY.out)
  have HB1 := Lib.hid hb1
  unfold roV at HP
  clear hbw hr1 hb1
  go_wp2_with fail
  (with_reducible refine HP.out.mono ?_)
  rintro e w2 ⟨vb, rfl, ho2, hb2⟩
  obtain ⟨ab, cb, hvb, -⟩ := ho2.rd.len
  rw [put2_length HMAY.out] at hvb
  subst hvb
  have HV2 := Lib.hid ho2.rd
  have HB2 := Lib.hid (HB1.out.trans (hb2.mono HB1.out.size))
  have HRD : Hid (Calls Try.prog 8 #[.slice ab N cb] w2 fun e w' => ∃ x, e = .returned (.tuple #[.agg #[.int .u64 (r.gen : Int), x], .int .i64 0]) ∧ OwnN w' w2.heap.size x r.nums ∧ Below w2.heap.size w2 w') := by
    have := readR_any (putB2 r N) _ w2 HV2.out
    unfold ReadRPost at this
    rw [readR_put HMAY.out] at this
    exact this
  clear ho2 hb2 ld1 c1
  go_wp2_with fail
  (with_reducible refine HRD.out.mono ?_)
  rintro e w3 ⟨x11, rfl, ho3, hb3⟩
  have hone := RdN.one ho3.rd
  have st11 := ro_new w3 r (v := x11) hone
  have hb4 : Below w3.heap.size w3 (w3.alloc (.cells (roC r x11) 25)) := below1 _ _
  have hx4 := Bx.new 25 w3 (roC r x11)
  obtain ⟨W4, hW4⟩ : ∃ W4, w3.alloc (.cells (roC r x11) 25) = W4 := ⟨_, rfl⟩
  rw [hW4] at st11 hb4 hx4
  have B24 : Below w2.heap.size w2 W4 := hb3.trans (hb4.mono hb3.size)
  have B4 := HB2.out.trans (B24.mono HB2.out.size)
  obtain ⟨c1, ld4, -, hr4, -⟩ := HX.out W4 B4
  have ld11 := hx4.ld rfl
  have HSM := Lib.hid (same_any r r _ _ W4 (ho3.later hb4).rd hr4)
  rw [sameR_refl] at HSM
  have HV4 := Lib.hid (HV2.out.later B24)
  have HB4 := Lib.hid B4
  unfold zr roC at st11
  unfold roC at ld11
  unfold roV at HSM
  clear hone hb4 hx4 hW4 B24 B4 ho3 hb3 hr4 c1
  go_wp2_with fail
  (with_reducible refine HSM.out.mono ?_)
  rintro e w5 ⟨rfl, hb5⟩
  have HB5 := Lib.hid (HB4.out.trans (hb5.mono HB4.out.size))
  have HV5 := Lib.hid (HV4.out.later hb5)
  obtain ⟨-, -, -, -, hl5, -⟩ := HX.out w5 HB5.out
  have HNW := Lib.hid (newest_any ls _ w5 hl5)
  unfold NewPost at HNW
  clear hb5 ld4 ld11 st11 hl5
  obtain ⟨NW, hNW⟩ : ∃ NW, newL ls = NW := ⟨_, rfl⟩
  have HNB := Lib.hid (new_behind (l := ls) (readR_put HMAY.out))
  have HNA := Lib.hid (new_ahead (l := ls) (readR_put HMAY.out))
  have HNE := Lib.hid (new_err ls)
  have HNT : Hid (∀ k, k < 8 * N → newL (ls ++ [flipB (putB2 r N) k]) = if (newL ls).err = 0 then newL ls else ⟨(newL ls).pos, (newL ls).root, 2⟩) := fun k hk => new_torn (by rw [readR_flip HMAY.out hk]; decide) (flip_lack HMAY.out k)
  have HPN : Hid ((newL ls).err = 0 → (newL ls).pos < n) := fun h => by rw [← HN.out]; exact (new_at h).1.lt
  rw [hNW] at HNW HNB HNA HNE HNT HPN
  obtain ⟨P, ro, er⟩ := NW
  dsimp only at HNW HNB HNA HNE HNT HPN
  clear hNW
  rw [HN.out] at HNB
  obtain ⟨Pa, ra, hea, hca⟩ : ∃ Pa ra, newL (ls ++ [putB2 r N]) = ⟨Pa, ra, 0⟩ ∧ (((er ≠ 0 ∨ ro.gen ≤ r.gen) ∧ Pa = n ∧ ra = r) ∨ ((er = 0 ∧ r.gen < ro.gen) ∧ Pa = P ∧ ra = ro)) := by
    by_cases hA : er ≠ 0 ∨ ro.gen ≤ r.gen
    · exact ⟨n, r, by rw [HNB.out, if_pos hA], .inl ⟨hA, rfl, rfl⟩⟩
    · exact ⟨P, ro, by rw [HNB.out, if_neg hA], .inr ⟨⟨Classical.byContradiction fun h => hA (.inl h), Nat.lt_of_not_le fun h => hA (.inr h)⟩, rfl, rfl⟩⟩
  obtain ⟨Pb, rb, heb, hcb⟩ : ∃ Pb rb, newL (putB2 r N :: ls) = ⟨Pb, rb, 0⟩ ∧ (((er ≠ 0 ∨ ro.gen < r.gen) ∧ Pb = 0 ∧ rb = r) ∨ ((er = 0 ∧ r.gen ≤ ro.gen) ∧ Pb = P + 1 ∧ rb = ro)) := by
    by_cases hA : er ≠ 0 ∨ ro.gen < r.gen
    · exact ⟨0, r, by rw [HNA.out, if_pos hA], .inl ⟨hA, rfl, rfl⟩⟩
    · exact ⟨P + 1, ro, by rw [HNA.out, if_neg hA], .inr ⟨⟨Classical.byContradiction fun h => hA (.inl h), Nat.le_of_not_lt fun h => hA (.inr h)⟩, rfl, rfl⟩⟩
  have HEA := Lib.hid (And.intro hea hca)
  have HEB := Lib.hid (And.intro heb hcb)
  clear hea hca heb hcb HNB HNA
  go_wp2_with fail
  (with_reducible refine HNW.out.mono ?_)
  rintro e w6 ⟨x14, rfl, ho6, hb6⟩
  have hone := RdN.one ho6.rd
  have st14 := ro_new w6 ro (v := x14) hone
  have hb7 : Below w6.heap.size w6 (w6.alloc (.cells (roC ro x14) 25)) := below1 _ _
  have hx7 := Bx.new 25 w6 (roC ro x14)
  obtain ⟨W7, hW7⟩ : ∃ W7, w6.alloc (.cells (roC ro x14) 25) = W7 := ⟨_, rfl⟩
  rw [hW7] at st14 hb7 hx7
  have B57 : Below w5.heap.size w5 W7 := hb6.trans (hb7.mono hb6.size)
  have B7 := HB5.out.trans (B57.mono HB5.out.size)
  have H7 : Hid (Bx 25 W7 w6.heap.size (roC ro x14) ∧ RdN W7 x14 ro.nums ∧ RdB W7 (.slice ab N cb) (putB2 r N) ∧ Below W.heap.size W W7) := ⟨hx7, (ho6.later hb7).rd, HV5.out.later B57, B7⟩
  obtain ⟨-, -, -, -, hl7, -⟩ := HX.out W7 B7
  unfold zr roC at st14
  unfold roV
  clear hone hb7 hx7 hW7 B57 B7 ho6 hb6
  -- the rows of slices
  obtain ⟨cs, hrow, hcl, hce⟩ := hl7
  have HCS := Lib.hid (And.intro hcl hce)
  have hcone := rows_all hce hcl
  obtain ⟨W8, hW8⟩ : ∃ W8, W8 = W7.alloc (.cells #[] 29) := ⟨_, rfl⟩
  have hb8 : Below W7.heap.size W7 W8 := by rw [hW8]; exact below1 _ _
  have HA1 : Hid (OwnS W8 W7.heap.size (.slice (some ⟨W7.heap.size, 0, none⟩) 0 0) [] ∧ RdRow W8 (.slice a n cap) cs ∧ W7.heap.size ≤ W8.heap.size ∧ Below W7.heap.size W7 W8) :=
    ⟨by rw [hW8]; exact OwnS.made W7 [] (by unfold maxLen; simp), hrow.later hb8, hb8.size, hb8⟩
  have HON := Lib.hid hcone
  have HCL : Hid (cs.length = n) := by show _ = _; rw [hcl, HN.out]
  clear hrow hcl hce hcone hb8
  go_upto_region 12 with fail
  clear st14
  go_wp2_with (first
    | (at_builtin; rw [← hW8]; refine wpList_appendS rfl (.tmp 81) (.tmp 82) rfl rfl rfl HA1.out.1 HA1.out.2.1 HON.out HA1.out.2.2.1 (by rw [HCL.out, List.length_nil]; omega) ?_; intro v9 w9 g1 g2; have HG1 := Lib.hid (And.intro g1 g2); have HA2 := Lib.hid (grow_one g1 (Nat.le_trans HA1.out.2.2.1 g2.size) ab N cb); clear g1 g2)
    | (at_builtin; refine wpList_appendS rfl (.tmp 83) (.tmp 85) rfl rfl rfl HA2.out.1 HA2.out.2.1 (one_cell ab N cb) HA2.out.2.2.1 (by rw [List.nil_append, HCL.out, List.length_singleton]; omega) ?_; intro v10 w10 g3 g4; have HG3 := Lib.hid (behind_of HA1.out.1 HA1.out.2.2.2 HG1.out.1 HG1.out.2 g3 g4 HCS.out.1 HCS.out.2 H7.out.2.2.1); clear g3 g4)
    | fail)
  clear hW8
  have HNW2 := Lib.hid (newest_any _ _ w10 HG3.out.1)
  unfold NewPost at HNW2
  rw [HEA.out.1] at HNW2
  dsimp only at HNW2
  have HB10 := Lib.hid HG3.out.2
  have H10 : Hid (Bx 25 w10 w6.heap.size (roC ro x14) ∧ RdN w10 x14 ro.nums ∧ RdB w10 (.slice ab N cb) (putB2 r N) ∧ Below W.heap.size W w10) :=
    ⟨H7.out.1.later HB10.out, H7.out.2.1.later HB10.out, H7.out.2.2.1.later HB10.out, H7.out.2.2.2.trans (HB10.out.mono H7.out.2.2.2.size)⟩
  clear HA1 HG1 HA2 HG3 HCS
  (with_reducible refine HNW2.out.mono ?_)
  rintro e w11 ⟨x17, rfl, ho11, hb11⟩
  have hone := RdN.one ho11.rd
  have st17 := ro_new w11 ra (v := x17) hone
  have hb12 : Below w11.heap.size w11 (w11.alloc (.cells (roC ra x17) 25)) := below1 _ _
  have hx12 := Bx.new 25 w11 (roC ra x17)
  obtain ⟨W12, hW12⟩ : ∃ W12, w11.alloc (.cells (roC ra x17) 25) = W12 := ⟨_, rfl⟩
  rw [hW12] at st17 hb12 hx12
  have B12 : Below w10.heap.size w10 W12 := hb11.trans (hb12.mono hb11.size)
  have H12 : Hid (Bx 25 W12 w11.heap.size (roC ra x17) ∧ RdN W12 x17 ra.nums ∧ Bx 25 W12 w6.heap.size (roC ro x14) ∧ RdN W12 x14 ro.nums ∧ RdB W12 (.slice ab N cb) (putB2 r N) ∧ Below W.heap.size W W12) :=
    ⟨hx12, (ho11.later hb12).rd, H10.out.1.later B12, H10.out.2.1.later B12, H10.out.2.2.1.later B12, H10.out.2.2.2.trans (B12.mono H10.out.2.2.2.size)⟩
  obtain ⟨-, -, -, -, hl12, -⟩ := HX.out W12 H12.out.2.2.2.2.2
  unfold zr roC at st17
  unfold roV
  clear hone hb12 hx12 hW12 B12 ho11 hb11
  obtain ⟨cs2, hrow, hcl, hce⟩ := hl12
  have HCS := Lib.hid (And.intro hcl hce)
  have hcone := rows_all hce hcl
  obtain ⟨W13, hW13⟩ : ∃ W13, W13 = W12.alloc (.cells #[.slice ab N cb] 29) := ⟨_, rfl⟩
  have hb13 : Below W12.heap.size W12 W13 := by rw [hW13]; exact below1 _ _
  have HA1 : Hid (OwnS W13 W12.heap.size (.slice (some ⟨W12.heap.size, 0, none⟩) 1 1) [.slice ab N cb] ∧ RdRow W13 (.slice a n cap) cs2 ∧ W12.heap.size ≤ W13.heap.size ∧ Below W12.heap.size W12 W13) :=
    ⟨by rw [hW13]; exact OwnS.made W12 [.slice ab N cb] (by unfold maxLen; simp), hrow.later hb13, hb13.size, hb13⟩
  have HON2 := Lib.hid hcone
  have HCL2 : Hid (cs2.length = n) := by show _ = _; rw [hcl, HN.out]
  clear hrow hcl hce hcone hb13
  go_upto_region 13 with fail
  clear st17
  go_wp2_with (first
    | (at_builtin; rw [← hW13]; refine wpList_appendS rfl (.tmp 93) (.tmp 94) rfl rfl rfl HA1.out.1 HA1.out.2.1 HON2.out HA1.out.2.2.1 (by rw [HCL2.out, List.length_singleton]; omega) ?_; intro v14 w14 g1 g2; have HG1 := Lib.hid (ahead_of HA1.out.1 HA1.out.2.2.2 g1 g2 HCS.out.1 HCS.out.2 H12.out.2.2.2.2.1); clear g1 g2)
    | fail)
  clear hW13
  have HNW3 := Lib.hid (newest_any _ _ w14 HG1.out.1)
  unfold NewPost at HNW3
  rw [HEB.out.1] at HNW3
  dsimp only at HNW3
  have HB14 := Lib.hid HG1.out.2
  clear HA1 HG1 HCS
  (with_reducible refine HNW3.out.mono ?_)
  rintro e w15 ⟨x20, rfl, ho15, hb15⟩
  have hone := RdN.one ho15.rd
  have st20 := ro_new w15 rb (v := x20) hone
  have hb16 : Below w15.heap.size w15 (w15.alloc (.cells (roC rb x20) 25)) := below1 _ _
  have hx16 := Bx.new 25 w15 (roC rb x20)
  obtain ⟨W16, hW16⟩ : ∃ W16, w15.alloc (.cells (roC rb x20) 25) = W16 := ⟨_, rfl⟩
  rw [hW16] at st20 hb16 hx16
  have B16 : Below W12.heap.size W12 W16 := HB14.out.trans ((hb15.trans (hb16.mono hb15.size)).mono HB14.out.size)
  obtain ⟨R14, hR14⟩ : ∃ R, w6.heap.size = R := ⟨_, rfl⟩
  obtain ⟨R17, hR17⟩ : ∃ R, w11.heap.size = R := ⟨_, rfl⟩
  obtain ⟨R20, hR20⟩ : ∃ R, w15.heap.size = R := ⟨_, rfl⟩
  rw [hR14, hR17] at H12
  rw [hR20] at st20 hx16
  have HLD : Hid (Laid w w.heap.size R14 R17 R20 r ra rb ro (.slice au m cu) x14 x17 x20 (.slice ab N cb) (.slice a n cap) (putB2 r N) ls W16) := by
    have h := H12.out
    have hbb := h.2.2.2.2.2.trans (B16.mono h.2.2.2.2.2.size)
    obtain ⟨-, -, f3, f4, f5, f6⟩ := HX.out W16 hbb
    exact ⟨f6, f4, h.2.2.1.later B16, h.2.2.2.1.later B16, h.1.later B16, h.2.1.later B16, hx16, (ho15.later hb16).rd, h.2.2.2.2.1.later B16, f5, f3⟩
  unfold zr roC at st20
  unfold roV
  clear hone hb16 hx16 hW16 B16 ho15 hb15 HAW HP HRD HSM HNW HNW2 HNW3 H7 H10 H12 HB14 HB10 HV2 HV4 HV5 HB1 HB2 HB4 HB5 HON HON2 HCL HCL2 hN24 hN256
  go_upto_region 16 with fail
  clear st20 hR14 hR17 hR20
  have c4 : W16.cell? ⟨w.heap.size, 0, none⟩ = some (.int .u64 (r.gen : Int)) := HLD.out.br.cell 0
  have c14 : W16.cell? ⟨R14, 0, none⟩ = some (.int .u64 (ro.gen : Int)) := HLD.out.bo.cell 0
  obtain ⟨qa, hqa⟩ : ∃ qa, decide (er ≠ 0 ∨ ro.gen ≤ r.gen) = qa := ⟨_, rfl⟩
  have HQA := Lib.hid hqa
  clear hqa
  go_cut [114] from 106 to 114 (fun t wx => t = .bool qa ∧ wx = W16)
  case first =>
    by_cases he : er = 0
    · by_cases hg : ro.gen ≤ r.gen
      · have hgI : (ro.gen : Int) ≤ (r.gen : Int) := by omega
        have HQ : Hid (qa = true) := by show _ = _; rw [← HQA.out]; exact decide_eq_true (.inr hg)
        subst he
        clear hg
        go_wp2
        go_meet
        exact ⟨by rw [HQ.out], rfl⟩
      · have hgI : decide ((ro.gen : Int) ≤ (r.gen : Int)) = false := decide_eq_false (by omega)
        have hgN : decide (ro.gen ≤ r.gen) = false := decide_eq_false hg
        have HQ : Hid (qa = false) := by show _ = _; rw [← HQA.out]; exact decide_eq_false (fun h => h.elim (fun h => h he) hg)
        subst he
        clear hg
        go_wp2
        go_meet
        exact ⟨by rw [HQ.out], rfl⟩
    · have e1 : (er == 0) = false := by simp [he]
      have e2 : (er != 0) = true := by simp [he]
      have HQ : Hid (qa = true) := by show _ = _; rw [← HQA.out]; exact decide_eq_true (.inl he)
      clear he
      go_wp2
      go_meet
      exact ⟨by rw [HQ.out], rfl⟩
  case rest =>
  obtain ⟨rfl, hwc⟩ := hcut
  obtain rfl : W16 = wc := hwc.symm
  clear c4 c14
  go_upto_if 114 with fail
  go_cut [] from 114 to 133 (fun wx => Below W16.heap.size W16 wx)
  case first =>
    have ldA := HLD.out.ba.ld rfl
    have ldR := HLD.out.br.ld rfl
    have ldO := HLD.out.bo.ld rfl
    cases qa with
    | true =>
      obtain ⟨-, rfl, rfl⟩ := HEA.out.2.resolve_right (fun h => by have := of_decide_eq_true HQA.out; rcases this with h1 | h1; exact h1 h.1.1; have := h.1.2; omega)
      have HS := Lib.hid (same_any ra ra _ _ W16 HLD.out.ua HLD.out.ur)
      rw [sameR_refl] at HS
      unfold roC at ldA ldR
      unfold roV at HS
      clear ldO
      go_wp2_with fail
      (with_reducible refine HS.out.mono ?_)
      rintro e w17 ⟨rfl, hb17⟩
      have HB17 := Lib.hid hb17
      clear hb17 ldA ldR
      go_wp2
      go_meet
      exact HB17.out
    | false =>
      have hnA := of_decide_eq_false HQA.out
      obtain ⟨-, rfl, rfl⟩ := HEA.out.2.resolve_left (fun h => hnA h.1)
      have HS := Lib.hid (same_any ra ra _ _ W16 HLD.out.ua HLD.out.uo)
      rw [sameR_refl] at HS
      unfold roC at ldA ldO
      unfold roV at HS
      clear ldR hnA
      go_wp2_with fail
      (with_reducible refine HS.out.mono ?_)
      rintro e w17 ⟨rfl, hb17⟩
      have HB17 := Lib.hid hb17
      clear hb17 ldA ldO
      go_wp2
      go_meet
      exact HB17.out
  case rest =>
  obtain ⟨W17, hW17⟩ : ∃ W, wc = W := ⟨_, rfl⟩
  rw [hW17] at hcut ⊢
  have HL17 := Lib.hid (HLD.out.later hcut)
  clear hcut hW17
  go_upto_region 21 with fail
  have c4 : W17.cell? ⟨w.heap.size, 0, none⟩ = some (.int .u64 (r.gen : Int)) := HL17.out.br.cell 0
  have c14 : W17.cell? ⟨R14, 0, none⟩ = some (.int .u64 (ro.gen : Int)) := HL17.out.bo.cell 0
  obtain ⟨qb, hqb⟩ : ∃ qb, decide (er ≠ 0 ∨ ro.gen < r.gen) = qb := ⟨_, rfl⟩
  have HQB := Lib.hid hqb
  clear hqb
  go_cut [142] from 134 to 142 (fun t wx => t = .bool qb ∧ wx = W17)
  case first =>
    by_cases he : er = 0
    · by_cases hg : ro.gen < r.gen
      · have hgI : (ro.gen : Int) < (r.gen : Int) := by omega
        have HQ : Hid (qb = true) := by show _ = _; rw [← HQB.out]; exact decide_eq_true (.inr hg)
        subst he
        clear hg
        go_wp2
        go_meet
        exact ⟨by rw [HQ.out], rfl⟩
      · have hgI : decide ((ro.gen : Int) < (r.gen : Int)) = false := decide_eq_false (by omega)
        have hgN : decide (ro.gen < r.gen) = false := decide_eq_false hg
        have HQ : Hid (qb = false) := by show _ = _; rw [← HQB.out]; exact decide_eq_false (fun h => h.elim (fun h => h he) hg)
        subst he
        clear hg
        go_wp2
        go_meet
        exact ⟨by rw [HQ.out], rfl⟩
    · have e1 : (er == 0) = false := by simp [he]
      have e2 : (er != 0) = true := by simp [he]
      have HQ : Hid (qb = true) := by show _ = _; rw [← HQB.out]; exact decide_eq_true (.inl he)
      clear he
      go_wp2
      go_meet
      exact ⟨by rw [HQ.out], rfl⟩
  case rest =>
  obtain ⟨rfl, hwc⟩ := hcut
  obtain rfl : W17 = wc := hwc.symm
  clear c4 c14
  go_upto_if 142 with fail
  go_cut [] from 142 to 160 (fun wx => Below W17.heap.size W17 wx)
  case first =>
    have ldB := HL17.out.bb.ld rfl
    have ldR := HL17.out.br.ld rfl
    have ldO := HL17.out.bo.ld rfl
    cases qb with
    | true =>
      obtain ⟨-, rfl, rfl⟩ := HEB.out.2.resolve_right (fun h => by have := of_decide_eq_true HQB.out; rcases this with h1 | h1; exact h1 h.1.1; have := h.1.2; omega)
      have HS := Lib.hid (same_any rb rb _ _ W17 HL17.out.ub HL17.out.ur)
      rw [sameR_refl] at HS
      unfold roC at ldB ldR
      unfold roV at HS
      clear ldO
      go_wp2_with fail
      (with_reducible refine HS.out.mono ?_)
      rintro e w18 ⟨rfl, hb18⟩
      have HB18 := Lib.hid hb18
      clear hb18 ldB ldR
      go_wp2
      go_meet
      exact HB18.out
    | false =>
      have hnA := of_decide_eq_false HQB.out
      obtain ⟨⟨he0, -⟩, hPb, rfl⟩ := HEB.out.2.resolve_left (fun h => hnA h.1)
      have hPn := HPN.out he0
      have hP1 : (P : Int) + 1 = Pb := by omega
      have hP20 : (P : Int) ≤ 20 := by omega
      have HS := Lib.hid (same_any rb rb _ _ W17 HL17.out.ub HL17.out.uo)
      rw [sameR_refl] at HS
      unfold roC at ldB ldO
      unfold roV at HS
      clear ldR hnA hPb hPn he0
      go_wp2_with fail
      (with_reducible refine HS.out.mono ?_)
      rintro e w18 ⟨rfl, hb18⟩
      have HB18 := Lib.hid hb18
      clear hb18 ldB ldO
      go_wp2
      go_meet
      exact HB18.out
  case rest =>
  obtain ⟨W18, hW18⟩ : ∃ W, wc = W := ⟨_, rfl⟩
  rw [hW18] at hcut ⊢
  have HL18 := Lib.hid (HL17.out.later hcut)
  clear hcut hW18
  obtain ⟨W19, hW19⟩ : ∃ W19, W19 = W18.alloc (.cells #[] 5) := ⟨_, rfl⟩
  have hb19 : Below W18.heap.size W18 W19 := by rw [hW19]; exact below1 _ _
  have HA1 : Hid (OwnB W19 W18.heap.size (.slice (some ⟨W18.heap.size, 0, none⟩) 0 0) [] ∧ RdB W19 (.slice ab N cb) (putB2 r N) ∧ W18.heap.size ≤ W19.heap.size ∧ Below W18.heap.size W18 W19) :=
    ⟨by rw [hW19]; exact World.ownsRow_made W18 #[] 0 (Nat.le_refl _) (Nat.zero_le _) rfl, HL18.out.rb.later hb19, hb19.size, hb19⟩
  have HLN : Hid ((putB2 r N).length = N) := put2_length HMAY.out
  clear hb19
  go_upto_region 27 with (at_builtin; rw [← hW19]; refine wpList_appendB rfl (.tmp 161) (.tmp 162) rfl rfl rfl HA1.out.1 HA1.out.2.1 HA1.out.2.2.1 (by rw [HLN.out, List.length_nil]; have := HN2.out; omega) ?_; intro v20 w20 g1 g2)
  clear hW19
  have hb20 : Below W18.heap.size W18 w20 := HA1.out.2.2.2.trans (HA1.out.1.below g2 HA1.out.2.2.1)
  rw [List.nil_append] at g1
  obtain ⟨gt, ct, hv20⟩ : ∃ gt ct, v20 = .slice (some ⟨gt, 0, none⟩) N ct := by
    rcases g1.2 with ⟨-, e2⟩ | ⟨g, cap2, cur, e2, -⟩
    · rw [HLN.out] at e2; have := HN2.out; omega
    · exact ⟨g, cap2, by rw [e2, HLN.out]⟩
  subst hv20
  have HO20 := Lib.hid g1
  have HB20 := Lib.hid hb20
  have hN24 : (24 : Int) ≤ N := by have := HN2.out; omega
  have hN256 : (N : Int) ≤ 256 := by have := HN2.out; omega
  have hkb : (kb : Int) < 65536 := by have := HKB.out; omega
  clear g1 g2 hb20 HA1
  go_upto_region 28 with fail
  obtain ⟨x, hx, hx8⟩ := mod_nat kb N (by omega)
  rw [hx]
  clear hx hkb
  obtain ⟨y, hy⟩ : ∃ y, (putB2 r N)[x / 8]? = some y := ⟨_, List.getElem?_eq_getElem (by rw [HLN.out]; omega)⟩
  obtain ⟨hcell, hfr⟩ := HO20.out.at hy
  unfold byV at hcell
  have hst := HO20.out.store (x / 8) (y ^^^ UInt8.ofNat (2 ^ (x % 8)))
  rw [flip_eq hy] at hst
  unfold byV at hst
  rw [← flip_val y x] at hst
  have HTN := Lib.hid (HNT.out x hx8)
  obtain ⟨L1, hL1⟩ : ∃ L, flipB (putB2 r N) x = L := ⟨_, rfl⟩
  rw [hL1] at hst HTN
  obtain ⟨xq, hxq⟩ : ∃ q, x / 8 = q := ⟨_, rfl⟩
  obtain ⟨xr, hxr⟩ : ∃ r, x % 8 = r := ⟨_, rfl⟩
  have e1 : (x : Int) / 8 = (xq : Int) := by omega
  have e2 : (x : Int) % 8 = (xr : Int) := by omega
  have hqN : xq < N := by omega
  have hr8 : (xr : Int) < 8 := by omega
  rw [hxq] at hcell hfr hst
  rw [hxr] at hst
  have HB21 := Lib.hid (HB20.out.trans hst.2)
  have HO21 := Lib.hid hst.1
  clear hst hL1 hxq hxr hy hx8
  go_upto_region 29 with fail
  obtain ⟨W21, hW21⟩ : ∃ W21, w20.setCell ⟨gt, xq, none⟩ (.int .u8 (bits .xor .u8 (y.toNat : Int) ((2 : Int) ^ xr % 256))) = W21 := ⟨_, rfl⟩
  rw [hW21] at HB21 HO21 ⊢
  have HL21 := Lib.hid (HL18.out.later HB21.out)
  clear hW21 hcell hfr e1 e2 hqN hr8
  obtain ⟨cs3, hrow, hcl, hce⟩ := HL21.out.rl
  have HCS := Lib.hid (And.intro hcl hce)
  have hcone := rows_all hce hcl
  obtain ⟨W22, hW22⟩ : ∃ W22, W22 = W21.alloc (.cells #[] 29) := ⟨_, rfl⟩
  have hb22 : Below W21.heap.size W21 W22 := by rw [hW22]; exact below1 _ _
  have HA1 : Hid (OwnS W22 W21.heap.size (.slice (some ⟨W21.heap.size, 0, none⟩) 0 0) [] ∧ RdRow W22 (.slice a n cap) cs3 ∧ W21.heap.size ≤ W22.heap.size ∧ Below W21.heap.size W21 W22) :=
    ⟨by rw [hW22]; exact OwnS.made W21 [] (by unfold maxLen; simp), hrow.later hb22, hb22.size, hb22⟩
  have HON := Lib.hid hcone
  have HCL : Hid (cs3.length = n) := by show _ = _; rw [hcl, HN.out]
  clear hrow hcl hce hcone hb22
  go_wp2_with (first
    | (at_builtin; rw [← hW22]; refine wpList_appendS rfl (.tmp 184) (.tmp 185) rfl rfl rfl HA1.out.1 HA1.out.2.1 HON.out HA1.out.2.2.1 (by rw [HCL.out, List.length_nil]; omega) ?_; intro v23 w23 g1 g2; have HG1 := Lib.hid (And.intro g1 g2); have HA2 := Lib.hid (grow_one g1 (Nat.le_trans HA1.out.2.2.1 g2.size) (some ⟨gt, 0, none⟩) N ct); clear g1 g2)
    | (at_builtin; refine wpList_appendS rfl (.tmp 186) (.tmp 188) rfl rfl rfl HA2.out.1 HA2.out.2.1 (one_cell _ N ct) HA2.out.2.2.1 (by rw [List.nil_append, HCL.out, List.length_singleton]; omega) ?_; intro v24 w24 g3 g4; have HG3 := Lib.hid (behind_of HA1.out.1 HA1.out.2.2.2 HG1.out.1 HG1.out.2 g3 g4 HCS.out.1 HCS.out.2 HO21.out.rd); clear g3 g4)
    | fail)
  clear hW22
  obtain ⟨ej, hej, hcj⟩ : ∃ ej, newL (ls ++ [L1]) = ⟨P, ro, ej⟩ ∧ (ej = er ∨ (er = 6 ∧ ej = 2)) := by
    rw [HTN.out]
    by_cases he : er = 0
    · rw [if_pos he]; exact ⟨er, rfl, .inl rfl⟩
    · rw [if_neg he]
      rcases (HNE.out.resolve_left he).2.2 with h | h
      · exact ⟨2, rfl, .inr ⟨h, rfl⟩⟩
      · exact ⟨2, rfl, .inl h.symm⟩
  have HNW4 := Lib.hid (newest_any _ _ w24 HG3.out.1)
  unfold NewPost at HNW4
  rw [hej] at HNW4
  dsimp only at HNW4
  have HL24 := Lib.hid (HL21.out.later HG3.out.2)
  clear HA1 HG1 HA2 HG3 HCS hej
  (with_reducible refine HNW4.out.mono ?_)
  rintro e w25 ⟨x25, rfl, ho25, hb25⟩
  have hone := RdN.one ho25.rd
  have st25 := ro_new w25 ro (v := x25) hone
  have hb26 : Below w25.heap.size w25 (w25.alloc (.cells (roC ro x25) 25)) := below1 _ _
  have hx26 := Bx.new 25 w25 (roC ro x25)
  obtain ⟨W26, hW26⟩ : ∃ W26, w25.alloc (.cells (roC ro x25) 25) = W26 := ⟨_, rfl⟩
  rw [hW26] at st25 hb26 hx26
  have HL26 := Lib.hid (HL24.out.later (hb25.trans (hb26.mono hb25.size)))
  have ld25 := hx26.ld rfl
  have ld14 := HL26.out.bo.ld rfl
  have HS := Lib.hid (same_any ro ro _ _ W26 (ho25.later hb26).rd HL26.out.uo)
  rw [sameR_refl] at HS
  unfold zr roC at st25
  unfold roC at ld25 ld14
  unfold roV at HS ⊢
  clear hone hb26 hx26 hW26 ho25 hb25
  rcases hcj with rfl | ⟨rfl, rfl⟩
  · go_wp2_with fail
    (with_reducible refine HS.out.mono ?_)
    rintro e w27 ⟨rfl, hb27⟩
    have FIN := Lib.hid (HL26.out.later hb27).be
    clear hb27 ld25 ld14 st25
    go_wp2
    go_ret
    exact ⟨rfl, FIN.out⟩
  · have FIN := Lib.hid HL26.out.be
    go_wp2
    go_ret
    exact ⟨rfl, FIN.out⟩

theorem walkNewest (r : Ro) (u : Value) (z : Int) (ls : List (List UInt8)) (v : Value) (kb : Nat) (w : World) (hkb : kb < 65536) (hU : RdN w u r.nums) (hR : RdL w v ls) :
    Calls Try.prog 3 #[roV r u, .int .i64 z, v, .int .u16 (kb : Int)] w fun e w' => e = .returned (.bool true) ∧ Below w.heap.size w w' := by
  by_cases h80 : 80 < r.nums.length
  · exact walkNewest_no r u z ls v kb w hU hR (.inl h80)
  by_cases h20 : 20 < ls.length
  · exact walkNewest_no r u z ls v kb w hU hR (.inr (.inl h20))
  cases hm : mayR r z with
  | false => exact walkNewest_no r u z ls v kb w hU hR (.inr (.inr hm))
  | true =>
    obtain ⟨N, rfl⟩ : ∃ N : Nat, z = N := ⟨z.toNat, by have := (mayR_iff.1 hm).1; omega⟩
    exact walkNewest_yes r u N ls v kb w hkb hU hR (by omega) (by omega) hm
end Go.Proofs.Ytjlmkhomedoolaa.Root
