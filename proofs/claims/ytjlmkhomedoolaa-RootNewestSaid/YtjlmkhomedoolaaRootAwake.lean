/- The fixed answer of layer 10's statements: true. -/
import Derived.Test.YtjlmkhomedoolaaRootNew
namespace Go.Proofs.Ytjlmkhomedoolaa.Root
open Go.RowKit Go.Sort Go.Shelf Go.Proofs.Ytjlmkhomedoolaa Go.Proofs.Ytjlmkhomedoolaa.Page
attribute [local go_sem ↓] slice_bytes cut_bytes loadVar_ro storeVar_ro loadVar_page storeVar_page

def R1 : Ro := ⟨3, [0, 258]⟩
def R2 : Ro := ⟨5, [7]⟩
def zeros : List UInt8 := List.replicate 24 0
def ls3 : List (List UInt8) := [putB2 R1 24, putB2 R2 24, zeros]
theorem may1 : mayR R1 (24 : Nat) = true := by decide
theorem may2 : mayR R2 (24 : Nat) = true := by decide
theorem zeros_no : (readR zeros).2 ≠ 0 := by decide +kernel
theorem new3 : newL ls3 = ⟨1, R2, 0⟩ := by
  have h1 : newN ls3 1 = ⟨0, R1, 0⟩ := by
    rw [newN_next (b := putB2 R1 24) rfl]
    unfold stepN
    rw [readR_put may1, if_pos ⟨rfl, Nat.zero_le _⟩]
  have h2 : newN ls3 2 = ⟨1, R2, 0⟩ := by
    rw [newN_next (b := putB2 R2 24) rfl, h1]
    unfold stepN
    rw [readR_put may2, if_pos ⟨rfl, by decide⟩]
  show newN ls3 3 = _
  rw [newN_next (b := zeros) rfl, h2]
  unfold stepN
  rw [if_neg (fun h => zeros_no h.1)]
theorem row_of {w : World} {v : Value} {cs : List Value} {ls : List (List UInt8)} (h : RdRow w v cs) (hl : cs.length = ls.length) (hc : ∀ (i : Nat) b, ls[i]? = some b → ∃ u, cs[i]? = some u ∧ RdB w u b) : RdL w v ls := ⟨cs, h, hl, hc⟩
set_option maxHeartbeats 4000000 in
set_option maxRecDepth 100000 in
theorem awake_any (w : World) : Calls Try.prog 5 #[] w fun e w' => e = .returned (.bool true) ∧ Below w.heap.size w w' := by
  obtain ⟨W1, hW1⟩ : ∃ W1, W1 = w.alloc (.cells #[.int .i64 0, .int .i64 258] 3) := ⟨_, rfl⟩
  have hb1 : Below w.heap.size w W1 := by rw [hW1]; exact below1 _ _
  have hr1 : RdN W1 (.slice (some ⟨w.heap.size, 0, none⟩) 2 2) R1.nums := by
    rcases OwnN.made w [0, 258] with h | h
    · rw [hW1]; exact h.rd
    · exact absurd (by unfold maxLen; simp) h
  have HP1 : Hid (Calls Try.prog 6 #[.agg #[.int .u64 3, .slice (some ⟨w.heap.size, 0, none⟩) 2 2], .int .i64 24] W1 fun e w' => ∃ v, e = .returned (.tuple #[v, .int .i64 0]) ∧ OwnB w' W1.heap.size v (putB2 R1 24) ∧ Below W1.heap.size W1 w') := put_yes R1 _ 24 W1 hr1 may1
  have HB1 := Lib.hid hb1
  clear hb1 hr1
  go_enter Try.func5, Try.ntmps5
  go_wp2_with fail
  rw [← hW1]
  clear hW1
  (with_reducible refine HP1.out.mono ?_)
  rintro e w2 ⟨v1, rfl, ho, hb⟩
  obtain ⟨a1, c1, hv1, -⟩ := ho.rd.len
  rw [put2_length may1] at hv1
  subst hv1
  have HV1 := Lib.hid ho.rd
  have HB2 := Lib.hid (HB1.out.trans (hb.mono HB1.out.size))
  obtain ⟨W3, hW3⟩ : ∃ W3, W3 = w2.alloc (.cells #[.int .i64 7] 3) := ⟨_, rfl⟩
  have hb3 : Below w2.heap.size w2 W3 := by rw [hW3]; exact below1 _ _
  have hr3 : RdN W3 (.slice (some ⟨w2.heap.size, 0, none⟩) 1 1) R2.nums := by
    rw [hW3]; exact one_num w2 7
  have HP2 : Hid (Calls Try.prog 6 #[.agg #[.int .u64 5, .slice (some ⟨w2.heap.size, 0, none⟩) 1 1], .int .i64 24] W3 fun e w' => ∃ v, e = .returned (.tuple #[v, .int .i64 0]) ∧ OwnB w' W3.heap.size v (putB2 R2 24) ∧ Below W3.heap.size W3 w') := put_yes R2 _ 24 W3 hr3 may2
  have HB3 := Lib.hid hb3
  clear ho hb hb3 hr3
  go_wp2_with fail
  rw [← hW3]
  clear hW3
  (with_reducible refine HP2.out.mono ?_)
  rintro e w4 ⟨v3, rfl, ho, hb⟩
  obtain ⟨a3, c3, hv3, -⟩ := ho.rd.len
  rw [put2_length may2] at hv3
  subst hv3
  have HV3 := Lib.hid ho.rd
  have B24 : Below w2.heap.size w2 w4 := HB3.out.trans (hb.mono HB3.out.size)
  have HB4 := Lib.hid (HB2.out.trans (B24.mono HB2.out.size))
  have HV1' := Lib.hid (HV1.out.later B24)
  have HRD : Hid (Calls Try.prog 8 #[.slice a1 24 c1] w4 fun e w' => ∃ x, e = .returned (.tuple #[.agg #[.int .u64 3, x], .int .i64 0]) ∧ OwnN w' w4.heap.size x [0, 258] ∧ Below w4.heap.size w4 w') := by
    have := readR_any (putB2 R1 24) _ w4 HV1'.out
    unfold ReadRPost at this
    rw [readR_put may1] at this
    exact this
  clear ho hb B24
  go_wp2_with fail
  (with_reducible refine HRD.out.mono ?_)
  rintro e w5 ⟨x, rfl, ho, hb⟩
  obtain ⟨b5, o5, cap5, hx5, hc5⟩ := ho.rd.form (by decide)
  have hx5 : x = .slice (some ⟨b5, o5, none⟩) 2 cap5 := hx5
  have hc51 := hc5 1 258 rfl
  subst hx5
  have st5 := ro_new w5 R1 (v := .slice (some ⟨b5, o5, none⟩) 2 cap5) rfl
  have hb6 : Below w5.heap.size w5 (w5.alloc (.cells (roC R1 (.slice (some ⟨b5, o5, none⟩) 2 cap5)) 25)) := below1 _ _
  have hx6 := Bx.new 25 w5 (roC R1 (.slice (some ⟨b5, o5, none⟩) 2 cap5))
  obtain ⟨W6, hW6⟩ : ∃ W6, w5.alloc (.cells (roC R1 (.slice (some ⟨b5, o5, none⟩) 2 cap5)) 25) = W6 := ⟨_, rfl⟩
  rw [hW6] at st5 hb6 hx6
  obtain ⟨S5, hS5⟩ : ∃ S5, w5.heap.size = S5 := ⟨_, rfl⟩
  rw [hS5] at st5 hx6
  have B46 : Below w4.heap.size w4 W6 := hb.trans (hb6.mono hb.size)
  have HB6 := Lib.hid (HB4.out.trans (B46.mono HB4.out.size))
  have HV1b := Lib.hid (HV1'.out.later B46)
  have HV3b := Lib.hid (HV3.out.later B46)
  have HR6 : Hid (Bx 25 W6 S5 (roC R1 (.slice (some ⟨b5, o5, none⟩) 2 cap5)) ∧ RdN W6 (.slice (some ⟨b5, o5, none⟩) 2 cap5) [0, 258] ∧ W6.cell? ⟨b5, o5 + 1, none⟩ = some (.int .i64 258)) := ⟨hx6, (ho.later hb6).rd, keep_cell hc51 hb6⟩
  obtain ⟨w7, mk7, ho7, hb7⟩ := make_zeros W6 24 (by decide)
  obtain ⟨S6, hS6⟩ : ∃ S6, W6.heap.size = S6 := ⟨_, rfl⟩
  have mk7' : (Instr.makeSlice 29 (.int .i64 24) (.int .i64 24)).run Try.prog W6 = .ok (.slice (some ⟨S6, 0, none⟩) 24 24) w7 := by rw [← hS6]; exact mk7
  obtain ⟨W8, hW8⟩ : ∃ W8, W8 = w7.alloc (.cells #[.slice a1 24 c1, .slice a3 24 c3, .slice (some ⟨S6, 0, none⟩) 24 24] 29) := ⟨_, rfl⟩
  have hb8 : Below w7.heap.size w7 W8 := by rw [hW8]; exact below1 _ _
  have B68 : Below W6.heap.size W6 W8 := hb7.trans (hb8.mono hb7.size)
  have hrow : RdL W8 (.slice (some ⟨w7.heap.size, 0, none⟩) 3 3) ls3 := by
    have h := (OwnS.made w7 [.slice a1 24 c1, .slice a3 24 c3, .slice (some ⟨S6, 0, none⟩) 24 24] (by unfold maxLen; simp)).rd
    refine row_of (by rw [hW8]; exact h) rfl fun i b hi => ?_
    match i, hi with
    | 0, hi => cases hi; exact ⟨_, rfl, HV1b.out.later B68⟩
    | 1, hi => cases hi; exact ⟨_, rfl, HV3b.out.later B68⟩
    | 2, hi => cases hi; exact ⟨_, rfl, by rw [hS6] at ho7; exact ho7.rd.later hb8⟩
    | i + 3, hi => cases hi
  have HNW : Hid (Calls Try.prog 10 #[.slice (some ⟨w7.heap.size, 0, none⟩) 3 3] W8 fun e w' => ∃ x, e = .returned (.tuple #[.int .i64 1, .agg #[.int .u64 5, x], .int .i64 0]) ∧ OwnN w' W8.heap.size x [7] ∧ Below W8.heap.size W8 w') := by
    have := newest_any ls3 _ W8 hrow
    unfold NewPost at this
    rw [new3] at this
    exact this
  have HB8 := Lib.hid (HB6.out.trans (B68.mono HB6.out.size))
  have HR8 : Hid (∀ W, Below W8.heap.size W8 W → Bx 25 W S5 (roC R1 (.slice (some ⟨b5, o5, none⟩) 2 cap5)) ∧ RdN W (.slice (some ⟨b5, o5, none⟩) 2 cap5) [0, 258] ∧ W.cell? ⟨b5, o5 + 1, none⟩ = some (.int .i64 258)) := fun W h =>
    ⟨(HR6.out.1.later B68).later h, (HR6.out.2.1.later B68).later h, keep_cell (keep_cell HR6.out.2.2 B68) h⟩
  replace st5 : (roStore ⟨S5, 0, none⟩ (.agg #[.int .u64 3, .slice (some ⟨b5, o5, none⟩) 2 cap5])).run Try.prog (w5.alloc (.cells #[.int .u64 0, .slice none 0 0] 25)) = .ok () W6 := st5
  clear ho hb hc5 hc51 hb6 hx6 hW6 B46 mk7 ho7 hb7 hb8 B68 hrow
  go_wp2_with fail
  rw [← hW8]
  clear hW8
  (with_reducible refine HNW.out.mono ?_)
  rintro e w9 ⟨y, rfl, ho, hb⟩
  have hone := RdN.one ho.rd
  have st9 := ro_new w9 R2 (v := y) hone
  have hb10 : Below w9.heap.size w9 (w9.alloc (.cells (roC R2 y) 25)) := below1 _ _
  have hx10 := Bx.new 25 w9 (roC R2 y)
  obtain ⟨W10, hW10⟩ : ∃ W10, w9.alloc (.cells (roC R2 y) 25) = W10 := ⟨_, rfl⟩
  rw [hW10] at st9 hb10 hx10
  have B10 : Below W8.heap.size W8 W10 := hb.trans (hb10.mono hb.size)
  have HB10 := Lib.hid (HB8.out.trans (B10.mono HB8.out.size))
  obtain ⟨r1, r2, r3⟩ := HR8.out W10 B10
  have cg : W10.cell? ⟨S5, 0, none⟩ = some (.int .u64 3) := r1.cell 0
  have cx : W10.cell? ⟨S5, 1, none⟩ = some (.slice (some ⟨b5, o5, none⟩) 2 cap5) := r1.cell 1
  have c8 : W10.cell? ⟨w9.heap.size, 0, none⟩ = some (.int .u64 5) := hx10.cell 0
  have ld5 := r1.ld rfl
  have HM4 : Hid (∀ W, Calls Try.prog 11 #[.int .i64 24] W fun e w' => e = .returned (.int .i64 4) ∧ W = w') := fun W => most_any 24 W
  have HMY : Hid (Calls Try.prog 7 #[.agg #[.int .u64 3, .slice (some ⟨b5, o5, none⟩) 2 cap5], .int .i64 24] W10 fun e w' => e = .returned (.bool true) ∧ Below W10.heap.size W10 w') := by
    have := may_any R1 _ (24 : Nat) W10 r2
    rw [may1] at this
    exact this
  replace st9 : (roStore ⟨w9.heap.size, 0, none⟩ (.agg #[.int .u64 5, y])).run Try.prog (w9.alloc (.cells #[.int .u64 0, .slice none 0 0] 25)) = .ok () W10 := st9
  replace ld5 : (roLoad ⟨S5, 0, none⟩).run Try.prog W10 = .ok (.agg #[.int .u64 3, .slice (some ⟨b5, o5, none⟩) 2 cap5]) W10 := ld5
  clear ho hb hone hb10 hx10 hW10 B10 r1 r2 mk7' st5
  go_wp2_with fail
  (with_reducible refine (HM4.out _).mono ?_)
  rintro e w11 ⟨rfl, rfl⟩
  go_wp2_with fail
  (with_reducible refine HMY.out.mono ?_)
  rintro e w12 ⟨rfl, hb12⟩
  have FIN := Lib.hid (HB10.out.trans (hb12.mono HB10.out.size))
  clear hb12 cg cx c8 ld5 r3 st9
  go_wp2
  go_ret
  exact ⟨rfl, FIN.out⟩
end Go.Proofs.Ytjlmkhomedoolaa.Root
