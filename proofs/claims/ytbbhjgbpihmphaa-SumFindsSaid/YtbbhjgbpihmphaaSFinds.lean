/- The statement SumFinds, walked: every call of it hands back true. -/
import Derived.Test.YtbbhjgbpihmphaaSumAwake
namespace Go.Proofs.Ytbbhjgbpihmphaa.sumFinds
open Go.RowKit Go.Sort
attribute [local go_sem ↓] slice_bytes text_bytes eq_text ne_text

theorem mod_nat (i N : Nat) (h : 0 < N) : ∃ x : Nat, (i : Int) % (8 * (N : Int)) = (x : Int) ∧ x < 8 * N :=
  ⟨i % (8 * N), by rw [Int.natCast_emod, Int.natCast_mul]; rfl, Nat.mod_lt _ (by omega)⟩
theorem flip_val (z : UInt8) (p : Nat) : bits .xor .u8 (z.toNat : Int) ((2 : Int) ^ (p % 8) % 256) = ((z ^^^ UInt8.ofNat (2 ^ (p % 8))).toNat : Int) := by
  have h2 : 2 ^ (p % 8) < 256 := Nat.pow_lt_pow_right (a := 2) (by decide) (show p % 8 < 8 from Nat.mod_lt _ (by decide))
  have h3 : (2 : Int) ^ (p % 8) % 256 = ((2 ^ (p % 8) : Nat) : Int) := by
    rw [show (2 : Int) ^ (p % 8) = ((2 ^ (p % 8) : Nat) : Int) from by rw [Int.natCast_pow]; rfl]
    generalize 2 ^ (p % 8) = q at *
    omega
  rw [h3, u8_xor_nat _ _ z.toNat_lt h2, UInt8.toNat_xor, two_nat]
theorem flip_eq {l : List UInt8} {p : Nat} {z : UInt8} (h : l[p / 8]? = some z) : l.set (p / 8) (z ^^^ UInt8.ofNat (2 ^ (p % 8))) = flipB l p := by
  unfold flipB
  rw [List.getD_eq_getElem?_getD, h]
  rfl

set_option maxHeartbeats 2000000 in
set_option maxRecDepth 100000 in
theorem walk_good (l : List UInt8) (v : Value) (i k : Nat) (w : World) (hi : i < 65536) (hk : k < 65536) (hR : RdB w v l) (hl : l.length ≤ 1000) :
    Calls Try.prog 4 #[v, .int .u16 (i : Int), .int .u16 (k : Int)] w fun e w' => e = .returned (.bool true) ∧ Below w.heap.size w w' := by
  have H1 := Lib.hid (awake_any w)
  have HR := Lib.hid hR
  have HS : Hid (∀ W, RdB W v l → Calls Try.prog 17 #[v] W fun e w' => ∃ v', e = .returned v' ∧ OwnB w' W.heap.size v' (l ++ sealB l) ∧ Below W.heap.size W w') := fun W h => sealed_any l v W h (by omega)
  have HO : Hid (∀ W u m, RdB W u m → m.length = l.length + 4 → Calls Try.prog 8 #[u] W fun e w' => ∃ v', e = .returned (.tuple #[v', .int .i64 (openL m).2]) ∧ OwnB w' W.heap.size v' (openL m).1 ∧ Below W.heap.size W w') := fun W u m h hm => open_any m u W h (by omega)
  have HE := Lib.hid (open_sealed l)
  obtain ⟨a, cap, hv, -⟩ := hR.len
  obtain ⟨n, hn⟩ : ∃ n, l.length = n := ⟨_, rfl⟩
  rw [hn] at hv hl HO
  have HN := Lib.hid hn
  have hnI : (n : Int) ≤ 1000 := by omega
  subst hv
  clear hR hn
  go_enter Try.func4, Try.ntmps4
  go_wp2_with fail
  refine H1.out.mono ?_
  rintro e w1 ⟨rfl, hb1⟩
  have B1 := Lib.hid hb1
  clear hb1
  go_wp2_with fail
  refine (HS.out _ (HR.out.later B1.out)).mono ?_
  rintro e w2 ⟨vs, rfl, ho, hb⟩
  have B2 := Lib.hid (B1.out.trans (hb.mono B1.out.size))
  obtain ⟨g, cs, hvs, -, -⟩ : ∃ g cs, vs = .slice (some ⟨g, 0, none⟩) (n + 4) cs ∧ w.heap.size ≤ g ∧ True := by
    obtain ⟨b, o, cap', e1, -⟩ := ho.rd.form (by rw [List.length_append, sealB_length]; omega)
    rcases ho.2 with ⟨e2, -⟩ | ⟨g, cap2, cur, e2, e3, -⟩
    · rw [e1] at e2; cases e2
    · have e4 : (l ++ sealB l).length = n + 4 := by rw [List.length_append, sealB_length, HN.out]
      exact ⟨g, cap2, by rw [e2, e4], by have := B1.out.size; omega, trivial⟩
  subst hvs
  obtain ⟨N, hN⟩ : ∃ N, n + 4 = N := ⟨_, rfl⟩
  rw [hN] at ho HO ⊢
  have O2 := Lib.hid ho
  clear ho hb
  have hNI : (N : Int) = (n : Int) + 4 := by omega
  have hN2 : (N : Int) ≤ 1004 := by omega
  have hN0 : (4 : Int) ≤ N := by omega
  have HNI := Lib.hid hNI
  have HLN : Hid ((l ++ sealB l).length = N) := by show _ = _; rw [List.length_append, sealB_length, HN.out, hN]
  have HNN := Lib.hid hN
  clear hNI hN
  go_wp2_with fail
  refine (HO.out _ _ _ O2.out.rd HLN.out).mono ?_
  rw [HE.out]
  rintro e w3 ⟨vc, rfl, ho, hb⟩
  have B3 := Lib.hid (B2.out.trans (hb.mono B2.out.size))
  have O3 := Lib.hid (O2.out.later hb)
  have C3 := Lib.hid ho
  clear ho hb
  have t1 := run_text C3.out.rd
  have t2 := run_text (HR.out.later B3.out)
  have tn := run_textNe l l w3
  have q4 : ((N : Int) != (n : Int) + 4) = false := by rw [bne_eq_false_iff_eq]; exact HNI.out
  rw [decide_eq_true rfl] at tn
  simp only [Bool.not_true] at tn
  clear HE
  go_wp2_with fail
  go_quiet (fail)
  rename_i nq
  have hq : Below w3.heap.size w3 (w3.drewN nq) := ⟨rfl, rfl, rfl, Nat.le_refl _, fun _ _ => rfl⟩
  have O4 := Lib.hid (O3.out.later hq)
  have B4 := Lib.hid (B3.out.trans (hq.mono B3.out.size))
  obtain ⟨x, hx, hx8⟩ := mod_nat i N (by omega)
  obtain ⟨y, hy, hy8⟩ := mod_nat k N (by omega)
  rw [hx, hy]
  obtain ⟨w4, hw4⟩ : ∃ w4, w3.drewN nq = w4 := ⟨_, rfl⟩
  rw [hw4] at O4 B4 ⊢
  clear hw4 hq hx hy t1 t2 tn q4 hi hk
  have HF1 : Hid (openL (flipB (l ++ sealB l) x) = ([], 4)) := open_flip (by rw [HN.out, HNN.out]; exact hx8)
  obtain ⟨z, hz⟩ : ∃ z, (l ++ sealB l)[x / 8]? = some z := ⟨_, List.getElem?_eq_getElem (by rw [HLN.out]; omega)⟩
  obtain ⟨hcell, hfr⟩ := O4.out.at hz
  unfold byV at hcell
  have hst := O4.out.store (x / 8) (z ^^^ UInt8.ofNat (2 ^ (x % 8)))
  rw [flip_eq hz] at hst
  unfold byV at hst
  rw [← flip_val z x] at hst
  have HLF : Hid ((flipB (l ++ sealB l) x).length = N) := by show _ = _; rw [flipB_length]; exact HLN.out
  obtain ⟨L1, hL1⟩ : ∃ L, flipB (l ++ sealB l) x = L := ⟨_, rfl⟩
  rw [hL1] at hst HF1 HLF
  have HL1 := Lib.hid hL1
  obtain ⟨xq, hxq⟩ : ∃ q, x / 8 = q := ⟨_, rfl⟩
  obtain ⟨xr, hxr⟩ : ∃ r, x % 8 = r := ⟨_, rfl⟩
  have e1 : (x : Int) / 8 = (xq : Int) := by omega
  have e2 : (x : Int) % 8 = (xr : Int) := by omega
  have hqN : xq < N := by omega
  have hr8 : (xr : Int) < 8 := by omega
  rw [hxq] at hcell hfr hst
  rw [hxr] at hst
  have B5 := Lib.hid (B4.out.trans (hst.2.mono (by have := B1.out.size; omega)))
  have O5 := Lib.hid hst.1
  have HX8 := Lib.hid hx8
  clear hst hL1 hxq hxr hz hx8
  go_wp2_with fail
  refine (HO.out _ _ _ O5.out.rd HLF.out).mono ?_
  rw [HF1.out]
  rintro e w6 ⟨vc2, rfl, ho, hb⟩
  have B6 := Lib.hid (B5.out.trans (hb.mono B5.out.size))
  have O6 := Lib.hid (O5.out.later hb)
  clear ho hb hcell hfr e1 e2 hqN hr8 HF1
  obtain ⟨z2, hz⟩ : ∃ z, L1[y / 8]? = some z := ⟨_, List.getElem?_eq_getElem (by rw [HLF.out]; omega)⟩
  obtain ⟨hcell, hfr⟩ := O6.out.at hz
  unfold byV at hcell
  have hst := O6.out.store (y / 8) (z2 ^^^ UInt8.ofNat (2 ^ (y % 8)))
  rw [flip_eq hz] at hst
  unfold byV at hst
  rw [← flip_val z2 y] at hst
  have HLG : Hid ((flipB L1 y).length = N) := by show _ = _; rw [flipB_length]; exact HLF.out
  have HF2 : Hid (openL (flipB L1 y) = if x = y then (l, 0) else ([], 4)) := by
    show _ = _
    rw [← HL1.out]
    by_cases hxy : x = y
    · rw [if_pos hxy, ← hxy]
      exact open_back (by rw [HN.out, HNN.out]; exact HX8.out)
    · rw [if_neg hxy]
      exact open_two (by rw [HN.out]; exact hl) (by rw [HN.out, HNN.out]; exact HX8.out) (by rw [HN.out, HNN.out]; exact hy8) hxy
  obtain ⟨L2, hL2⟩ : ∃ L, flipB L1 y = L := ⟨_, rfl⟩
  rw [hL2] at hst HF2 HLG
  obtain ⟨xq, hxq⟩ : ∃ q, y / 8 = q := ⟨_, rfl⟩
  obtain ⟨xr, hxr⟩ : ∃ r, y % 8 = r := ⟨_, rfl⟩
  have e1 : (y : Int) / 8 = (xq : Int) := by omega
  have e2 : (y : Int) % 8 = (xr : Int) := by omega
  have hqN : xq < N := by omega
  have hr8 : (xr : Int) < 8 := by omega
  rw [hxq] at hcell hfr hst
  rw [hxr] at hst
  have B7 := Lib.hid (B6.out.trans (hst.2.mono (by have := B1.out.size; omega)))
  have O7 := Lib.hid hst.1
  clear hst hL2 hxq hxr hz
  go_wp2_with fail
  refine (HO.out _ _ _ O7.out.rd HLG.out).mono ?_
  rw [HF2.out]
  clear HF2 hcell hfr e1 e2 hqN hr8
  by_cases hxy : x = y
  · rw [if_pos hxy]
    rintro e w8 ⟨vc3, rfl, ho, hb⟩
    have B8 := Lib.hid (B7.out.trans (hb.mono B7.out.size))
    have exy : ((x : Int) == (y : Int)) = true := by rw [beq_iff_eq]; omega
    have t1 := run_text ho.rd
    have t2 := run_text (HR.out.later B8.out)
    have tq := run_textEq l l w8
    rw [decide_eq_true rfl] at tq
    clear hxy ho hb
    go_wp2
    go_ret
    exact ⟨rfl, B8.out⟩
  · rw [if_neg hxy]
    rintro e w8 ⟨vc3, rfl, ho, hb⟩
    have B8 := Lib.hid (B7.out.trans (hb.mono B7.out.size))
    have exy : ((x : Int) == (y : Int)) = false := by rw [beq_eq_false_iff_ne]; omega
    obtain ⟨a3, c3, hv3, -⟩ := ho.rd.len
    subst hv3
    clear hxy ho hb
    go_wp2
    go_ret
    exact ⟨rfl, B8.out⟩

set_option maxHeartbeats 400000 in
theorem walk_no (a : Option Addr) (n cap : Nat) (i k : Nat) (w : World) (hl : ¬ n ≤ 1000) (_hm : n ≤ maxLen) :
    Calls Try.prog 4 #[.slice a n cap, .int .u16 (i : Int), .int .u16 (k : Int)] w fun e w' => e = .returned (.bool true) ∧ Below w.heap.size w w' := by
  have H1 := Lib.hid (awake_any w)
  have hnI : (1000 : Int) < n := by omega
  unfold maxLen at _hm
  clear hl
  go_enter Try.func4, Try.ntmps4
  go_wp2_with fail
  refine H1.out.mono ?_
  rintro e w1 ⟨rfl, hb1⟩
  have B1 := Lib.hid hb1
  clear hb1
  go_wp2
  go_ret
  exact ⟨rfl, B1.out⟩
theorem walkAll (l : List UInt8) (v : Value) (i k : Nat) (w : World) (hi : i < 65536) (hk : k < 65536) (hR : RdB w v l) :
    Calls Try.prog 4 #[v, .int .u16 (i : Int), .int .u16 (k : Int)] w fun e w' => e = .returned (.bool true) ∧ Below w.heap.size w w' := by
  by_cases hl : l.length ≤ 1000
  · exact walk_good l v i k w hi hk hR hl
  · obtain ⟨a, cap, rfl, h1, h2⟩ := hR.len
    exact walk_no a l.length cap i k w hl (by omega)
end Go.Proofs.Ytbbhjgbpihmphaa.sumFinds
