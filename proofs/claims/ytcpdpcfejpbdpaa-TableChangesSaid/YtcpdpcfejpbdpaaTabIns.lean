/- slices.insertionSortCmpFunc over routes, by their order: a part of a row in order, ties as they were. -/
import Derived.Test.YtcpdpcfejpbdpaaTabOrd
import Derived.Test.YtcpdpcfejpbdpaaTabRot
namespace Go.Proofs.Ytcpdpcfejpbdpaa
open Go.RowKit Go.Sort Go.Shelf
attribute [local go_sem ↓] loadVar_key loadVar_pre loadVar_route storeVar_pre storeVar_route buildSlice_row

def cmpV : Value := .func (.func 39) #[] #[]

/-- How far the inner loop is: x is on its way to the left. -/
structure InsAt (w0 : World) (g : Nat) (rest : List Value) (A Z : List Rt) (x : Rt) (R : List Rt) (j : Nat) (Z1 Z2 : List Rt) (W : World) : Prop where
  parts : Z1 ++ Z2 = Z
  at' : A.length + Z1.length = j
  up : ∀ z ∈ Z2, oR x < oR z
  sw : SW w0 g rest (A ++ Z1 ++ x :: (Z2 ++ R)) W

theorem ins_end {Z Z1 Z2 : List Rt} {x : Rt} (hz : Srt oR Z) (hp : Z1 ++ Z2 = Z) (up : ∀ z ∈ Z2, oR x < oR z) (lo : ∀ z ∈ Z1, oR z ≤ oR x) : Srt oR (Z1 ++ x :: Z2) ∧ Cls oR (Z1 ++ x :: Z2) (Z ++ [x]) := by
  subst hp
  constructor
  · refine Srt.app hz.left (List.pairwise_cons.2 ⟨fun z h => Nat.le_of_lt (up z h), hz.right⟩) fun a ha b hb => ?_
    rcases List.mem_cons.1 hb with rfl | hb
    · exact lo a ha
    · exact hz.across a ha b hb
  · have := Cls.swap_at (o := oR) (p := Z1) (u := [x]) (v := Z2) (q := []) (fun a ha b hb => by
      simp at ha; subst ha; exact Nat.ne_of_lt (up b hb))
    simpa using this

set_option maxHeartbeats 4000000 in
set_option maxRecDepth 100000 in
theorem insertion_any (w0 : World) (g : Nat) (rest : List Value) (A X B : List Rt) (a b n cap : Nat) (W : World) (h : SW w0 g rest (A ++ X ++ B) W) (ha : A.length = a) (hb : a + X.length = b) (hn : (A ++ X ++ B).length = n) (h16 : n ≤ 65536) (hm : AllMay X) :
    Calls Try.prog 62 #[.slice (some ⟨g, 0, none⟩) n cap, .int .i64 a, .int .i64 b, cmpV] W fun e w' => e = .returned (.tuple #[]) ∧ ∃ Z, SW w0 g rest (A ++ Z ++ B) w' ∧ Srt oR Z ∧ Cls oR Z X := by
  have hbn : b ≤ n := by rw [← hn]; simp only [List.length_append]; omega
  have hnI : (n : Int) ≤ 65536 := by omega
  have hbI : (b : Int) ≤ n := by omega
  have eg := enters_of Try.func39 (by kernel_rfl) rfl
  unfold cmpV
  by_cases h0 : X = []
  · subst h0
    have hab : b = a := by simp at hb; omega
    subst hab
    have H := Lib.hid h
    clear h hb hm hn ha
    go_enter Try.func62, Try.ntmps62
    go_wp2
    go_loopw [8, 9] (fun t _ wr => t = .int .i64 ((b : Int) + 1) ∧ Hid (SW w0 g rest (A ++ [] ++ B) wr)) (fun _ _ _ => 0)
    case atStart => exact ⟨rfl, H⟩
    case round =>
      obtain ⟨rfl, HW⟩ := hrel
      go_wp2
      go_end0
      exact ⟨rfl, [], HW.out, List.Pairwise.nil, Cls.refl _⟩
  · have hX0 : 0 < X.length := List.length_pos_iff.2 h0
    obtain ⟨x0, X', rfl⟩ : ∃ x0 X', X = x0 :: X' := List.exists_cons_of_ne_nil h0
    have H0 : Hid (SW w0 g rest (A ++ [x0] ++ X' ++ B) W) := by show SW _ _ _ _ _; simpa using h
    have HA := Lib.hid ha
    have HB := Lib.hid hb
    have HN := Lib.hid hn
    have HM := Lib.hid hm
    have hab : a + 1 ≤ b := by rw [← hb]; simp
    have mixed : Try.prog.follows .mixedOrders = true := by kernel_rfl
    clear h h0 hX0 ha hb hn hm
    go_enter Try.func62, Try.ntmps62
    go_wp2
    go_loopw [8, 9] (fun t _ wr => ∃ (i : Nat) (Z R : List Rt), a < i ∧ i ≤ b ∧ t = .int .i64 i ∧ Hid (A.length + Z.length = i) ∧ Hid (Srt oR Z) ∧ Hid (∃ Y, Y ++ R = x0 :: X' ∧ Cls oR Z Y) ∧ Hid (SW w0 g rest (A ++ Z ++ R ++ B) wr)) (fun t _ _ => b - (intOf t).toNat)
    case atStart => exact ⟨a + 1, [x0], X', by omega, hab, by go_num, by have := HA.out; show _ = _; simp; omega, srt_one _, ⟨[x0], rfl, Cls.refl _⟩, H0⟩
    case round =>
      obtain ⟨i, Z, R, hai, hib, rfl, HL, HSZ, HC, HW⟩ := hrel
      by_cases hlt : i < b
      · have hltI : (i : Int) < b := by omega
        have hiI : (i : Int) ≤ 65536 := by omega
        obtain ⟨Y, hY, hcl⟩ := HC.out
        obtain ⟨x, R', rfl⟩ : ∃ x R', R = x :: R' := by
          cases R with
          | nil =>
            exfalso
            have e1 := hcl.length
            have e2 := congrArg List.length hY
            have e3 := HL.out
            have e4 := HB.out
            have e5 := HA.out
            simp at e2 e4
            omega
          | cons x R' => exact ⟨x, R', rfl⟩
        have hYx : (Y ++ [x]) ++ R' = x0 :: X' := by rw [← hY]; simp
        have hmx : mayB x.pre = true := HM.out x (by rw [← hY]; simp)
        have hmZ : ∀ z ∈ Z, mayB z.pre = true := fun z hz => HM.out z (by rw [← hY]; exact List.mem_append_left _ (hcl.mem.1 hz))
        have hlenx : (A ++ Z ++ x :: (R' ++ B)).length = n := by
          rw [← HN.out]
          have := congrArg List.length hY
          have e1 := hcl.length
          simp only [List.length_append, List.length_cons] at this ⊢
          omega
        have H1 : Hid (InsAt w0 g rest A Z x (R' ++ B) i Z [] wr) := ⟨List.append_nil Z, HL.out, fun z hz => by simp at hz, by have := HW.out; simpa using this⟩
        have HX := Lib.hid hmx
        have HZ := Lib.hid hmZ
        have HLX := Lib.hid hlenx
        have HYX := Lib.hid hYx
        have HCL := Lib.hid hcl
        clear hY hcl HC hmx hmZ hlenx hYx
        go_wp2
        go_loopw [9] (fun t wr => ∃ (j : Nat) (Z1 Z2 : List Rt), a ≤ j ∧ j ≤ i ∧ t = .int .i64 j ∧ Hid (InsAt w0 g rest A Z x (R' ++ B) j Z1 Z2 wr)) (fun t _ => (intOf t).toNat)
        case atStart => exact ⟨i, Z, [], by omega, Nat.le_refl _, rfl, H1⟩
        case round =>
          obtain ⟨j, Z1, Z2, haj, hji, rfl, HI⟩ := hrel
          have OUT : Hid ((∀ z ∈ Z1, oR z ≤ oR x) → ∀ w', Below wr.heap.size wr w' → ∃ (Z' : List Rt), A.length + Z'.length = i + 1 ∧ Srt oR Z' ∧ (∃ Y, Y ++ R' = x0 :: X' ∧ Cls oR Z' Y) ∧ SW w0 g rest (A ++ Z' ++ R' ++ B) w') := fun lo w' hb => by
            obtain ⟨h1, h2⟩ := ins_end HSZ.out HI.out.parts HI.out.up lo
            refine ⟨Z1 ++ x :: Z2, ?_, h1, ⟨Y ++ [x], HYX.out, h2.trans (HCL.out.app (Cls.refl _))⟩, ?_⟩
            · have e := congrArg List.length HI.out.parts
              have := HL.out
              simp only [List.length_append, List.length_cons] at e ⊢
              omega
            · have := HI.out.sw.later hb
              simpa using this
          by_cases hja : a < j
          · have hjaI : (a : Int) < j := by omega
            obtain ⟨jp, rfl⟩ : ∃ jp, j = jp + 1 := ⟨j - 1, by omega⟩
            obtain ⟨Z1', z, rfl⟩ : ∃ Z1' z, Z1 = Z1' ++ [z] := by
              have hne : Z1 ≠ [] := by
                intro e
                have h1 := HI.out.at'
                have h2 := HA.out
                rw [e] at h1
                simp at h1
                omega
              exact ⟨Z1.dropLast, Z1.getLast hne, (List.dropLast_concat_getLast hne).symm⟩
            have hq : (A ++ Z1').length = jp := by
              have := HI.out.at'
              simp only [List.length_append, List.length_cons, List.length_nil] at this ⊢
              omega
            have hsw : SW w0 g rest ((A ++ Z1') ++ z :: ([] ++ x :: (Z2 ++ (R' ++ B)))) wr := by
              have := HI.out.sw
              simpa using this
            have hlen2 : ((A ++ Z1') ++ z :: ([] ++ x :: (Z2 ++ (R' ++ B)))).length = n := by
              have e := congrArg List.length HI.out.parts
              rw [← HLX.out]
              simp only [List.length_append, List.length_cons, List.length_nil] at e ⊢
              omega
            have k1 := get_first (A ++ Z1') ([] ++ x :: (Z2 ++ (R' ++ B))) z
            have k2 := get_second (A ++ Z1') [] (Z2 ++ (R' ++ B)) z x
            have hmz : mayB z.pre = true := HZ.out z (by rw [← HI.out.parts]; simp)
            have L1 := fun d os => (hsw.later (below_regrown wr d os)).load k1
            have L2 := fun d os => (hsw.later (below_regrown wr d os)).load k2
            have C1 := fun d os => Calls.regrown_of (order_any x z (grow (redrawn wr d) os))
            have hneg := ordZ_neg HX.out hmz
            rw [hq] at L1
            simp only [hq, List.length_nil, Nat.add_zero] at L2
            have hjn : jp + 1 < n := by rw [← hlen2]; simp only [List.length_append, List.length_cons, List.length_nil] at hq ⊢; omega
            have hwp : IntKind.i64.wrap (jp : Int) = (jp : Int) := by rw [IntKind.wrap_i64]; omega
            have jz : (jp : Int) + 1 < (n : Int) := by omega
            have jz1 : (jp : Int) < (n : Int) := by omega
            have hjaI' : (a : Int) < (jp : Int) + 1 := by omega
            have p0 : (0 : Int) ≤ (jp : Int) + 1 := by omega
            have e0 : ((jp : Int) + 1).toNat = jp + 1 := by omega
            obtain ⟨zc, hzc⟩ : ∃ zc, zc = ordZ x.pre z.pre := ⟨_, rfl⟩
            rw [← hzc] at C1 hneg
            have HNEG := Lib.hid hneg
            have HSW := Lib.hid hsw
            have HK1 := Lib.hid k1
            have HK2 := Lib.hid k2
            have HQ := Lib.hid hq
            clear hsw k1 k2 hq hneg hzc hlen2 hmz
            by_cases hlv : zc < 0
            · have hlvD : decide (zc < 0) = true := decide_eq_true hlv
              go_wp2_with fail
              refine wp_region_quiet_below (by kernel_rfl) (by kernel_rfl) ?_
              repeat (go_big_quiet_step (exact C1 _ _))
              refine wpQuiet_nil fun w3 hw3 => ?_
              have hb3 : Below wr.heap.size wr w3 := by
                obtain ⟨p, rfl⟩ := hw3
                exact below_regrown wr p.d p.os
              clear hw3 L1 L2 C1
              have hd := (HSW.out.later hb3).drew
              have l1 := hd.load HK1.out
              have l2 := hd.load HK2.out
              have i1 := (List.getElem?_eq_some_iff.1 HK1.out).1
              have i2 := (List.getElem?_eq_some_iff.1 HK2.out).1
              obtain ⟨P1, P2, s1, s2, hsw2⟩ := hd.swap i2 i1 x z
              rw [List.set_comm _ _ (by omega), swap_two] at hsw2
              have e1 : (A ++ Z1').length = jp := HQ.out
              simp only [e1, List.length_nil, Nat.add_zero] at l1 l2 s1 s2
              have H2 : Hid (InsAt w0 g rest A Z x (R' ++ B) jp Z1' (z :: Z2) ((w3.drew.setRow g P1).setRow g P2)) := by
                refine ⟨by rw [← HI.out.parts]; simp, by rw [← e1, List.length_append], fun y hy => ?_, by simpa using hsw2⟩
                rcases List.mem_cons.1 hy with rfl | hy
                · exact HNEG.out.1 hlv
                · exact HI.out.up y hy
              clear hd hsw2 i1 i2 e1
              go_wp2_with fail
              go_big_region_o
              all_goals go_wp2
              go_roundw
              case rel => exact ⟨jp, Z1', z :: Z2, by omega, by omega, by first | rfl | go_num, H2⟩
              case measure => simp [intOf]
            · have hlvD : decide (zc < 0) = false := decide_eq_false hlv
              have HLV := Lib.hid hlv
              clear hlv
              go_wp2_with fail
              refine wp_region_quiet_below (by kernel_rfl) (by kernel_rfl) ?_
              repeat (go_big_quiet_step (exact C1 _ _))
              refine wpQuiet_nil fun w3 hw3 => ?_
              have hb3 : Below wr.heap.size wr w3 := by
                obtain ⟨p, rfl⟩ := hw3
                exact below_regrown wr p.d p.os
              clear hw3 L1 L2 C1
              obtain ⟨Z', e1, e2, e3, e4⟩ := OUT.out (fun y hy => by
                have hz : oR z ≤ oR x := by
                  have h1 := HLV.out
                  by_cases h3 : oR x < oR z
                  · have := HNEG.out.2 h3
                    omega
                  · omega
                rcases List.mem_append.1 hy with hy | hy
                · have hs := HSZ.out
                  rw [← HI.out.parts] at hs
                  exact Nat.le_trans (hs.left.across y hy z (by simp)) hz
                · simp at hy; subst hy; exact hz) w3 hb3
              have E1 := Lib.hid e1
              have E2 := Lib.hid e2
              have E3 := Lib.hid e3
              have E4 := Lib.hid e4
              clear e1 e2 e3 e4
              go_wp2
              go_roundw
              case rel => exact ⟨i + 1, Z', R', by omega, by omega, by go_num, E1, E2, E3, E4⟩
              case measure => simp [intOf]; omega
          · have hjaI : ¬ (a : Int) < j := by omega
            have hjaD : decide ((a : Int) < (j : Int)) = false := decide_eq_false hjaI
            have hZ1 : Z1 = [] := by
              have h1 := HI.out.at'
              have h2 := HA.out
              exact List.length_eq_zero_iff.1 (by omega)
            have HZ1 := Lib.hid hZ1
            clear hZ1
            go_wp2_with fail
            refine wp_region_quiet_below (by kernel_rfl) (by kernel_rfl) ?_
            repeat (go_big_quiet_step (fail))
            refine wpQuiet_nil fun w3 hw3 => ?_
            have hb3 : Below wr.heap.size wr w3 := by
              obtain ⟨p, rfl⟩ := hw3
              exact below_regrown wr p.d p.os
            clear hw3
            obtain ⟨Z', e1, e2, e3, e4⟩ := OUT.out (fun y hy => by rw [HZ1.out] at hy; simp at hy) w3 hb3
            have E1 := Lib.hid e1
            have E2 := Lib.hid e2
            have E3 := Lib.hid e3
            have E4 := Lib.hid e4
            clear e1 e2 e3 e4
            go_wp2
            go_roundw
            case rel => exact ⟨i + 1, Z', R', by omega, by omega, by go_num, E1, E2, E3, E4⟩
            case measure => simp [intOf]; omega
      · obtain rfl : i = b := by omega
        have hR : R = [] := by
          obtain ⟨Y, hY, hcl⟩ := HC.out
          have e1 := hcl.length
          have e2 := congrArg List.length hY
          have e3 := HL.out
          have e4 := HB.out
          have e5 := HA.out
          simp only [List.length_append, List.length_cons] at e2 e4
          exact List.length_eq_zero_iff.1 (by omega)
        have HR := Lib.hid hR
        clear hR
        go_wp2
        go_end0
        refine ⟨rfl, Z, ?_, HSZ.out, ?_⟩
        · have := HW.out
          rw [HR.out] at this
          simpa using this
        · obtain ⟨Y, hY, hcl⟩ := HC.out
          rw [HR.out, List.append_nil] at hY
          rw [← hY]; exact hcl
end Go.Proofs.Ytcpdpcfejpbdpaa
