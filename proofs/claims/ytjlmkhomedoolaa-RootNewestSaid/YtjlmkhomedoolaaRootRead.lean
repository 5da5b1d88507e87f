/- root.Read: what it hands back. -/
import Derived.Test.YtjlmkhomedoolaaRootOpened
namespace Go.Proofs.Ytjlmkhomedoolaa.Root
open Go.RowKit Go.Sort Go.Shelf Go.Proofs.Ytjlmkhomedoolaa Go.Proofs.Ytjlmkhomedoolaa.Page
attribute [local go_sem ↓] slice_bytes cut_bytes loadVar_ro storeVar_ro loadVar_page storeVar_page

def ReadRPost (l : List UInt8) (w : World) (e : Ending) (w' : World) : Prop :=
  ∃ x, e = .returned (.tuple #[roV (readR l).1 x, .int .i64 (readR l).2]) ∧ OwnN w' w.heap.size x (readR l).1.nums ∧ Below w.heap.size w w'
theorem readR_end {l : List UInt8} {w : World} {er : Int} (h : readR l = (zeroR, er)) (e : Ending) (w' : World) (hb : Below w.heap.size w w') (he : e = .returned (.tuple #[.agg zr, .int .i64 er])) : ReadRPost l w e w' := by
  unfold ReadRPost
  rw [h]
  exact ⟨.slice none 0 0, he, OwnN.nil _ _, hb⟩
theorem read_body (b : List UInt8) : (readL b).1.body.length ≤ 1000 := by
  unfold readL
  split
  · exact Nat.zero_le _
  · split
    · exact Nat.zero_le _
    · split
      · split
        · rename_i h1 _ _ h
          unfold goodB at h
          rw [Bool.and_eq_true, Bool.and_eq_true] at h
          have := (may_iff.1 h.2.1)
          show (openedP (openL b).1).body.length ≤ 1000
          omega
        · exact Nat.zero_le _
      · exact Nat.zero_le _

set_option maxHeartbeats 4000000 in
set_option maxRecDepth 100000 in
theorem readR_any (l : List UInt8) (v : Value) (w : World) (hR : RdB w v l) : Calls Try.prog 8 #[v] w (ReadRPost l w) := by
  obtain ⟨W, hW⟩ : ∃ W, W = w.alloc (.cells zr 25) := ⟨_, rfl⟩
  have hb : Below w.heap.size w W := by rw [hW]; exact below1 _ _
  have hx : Bx 25 W w.heap.size zr := by rw [hW]; exact Bx.new _ w _
  have HX := Lib.hid (And.intro hx (And.intro hb hx.lt))
  have HC1 := Lib.hid (read_any l v W (hR.later hb))
  have HBD := Lib.hid (read_body l)
  unfold ReadPost at HC1
  have HRR : Hid (readR l = if (readL l).2 = 0 then (if (readL l).1.kind = 0 then (zeroR, 6) else if isR (readL l).1 = true then (openR (readL l).1, 0) else (zeroR, 2)) else (zeroR, (readL l).2)) := rfl
  obtain ⟨P, hP⟩ : ∃ P, (readL l).1 = P := ⟨_, rfl⟩
  obtain ⟨er, her⟩ : ∃ er, (readL l).2 = er := ⟨_, rfl⟩
  rw [hP, her] at HC1 HRR
  rw [hP] at HBD
  -- what a store in the result's variable leaves
  have HST : Hid (∀ W', Below W.heap.size W W' → (roStore ⟨w.heap.size, 0, none⟩ (.agg #[.int .u64 0, .slice none 0 0])).run Try.prog W' = .ok () (W'.setRow w.heap.size #[.int .u64 0, .slice none 0 0]) ∧ (roLoad ⟨w.heap.size, 0, none⟩).run Try.prog (W'.setRow w.heap.size #[.int .u64 0, .slice none 0 0]) = .ok (.agg #[.int .u64 0, .slice none 0 0]) (W'.setRow w.heap.size #[.int .u64 0, .slice none 0 0]) ∧ Below w.heap.size w (W'.setRow w.heap.size #[.int .u64 0, .slice none 0 0])) := fun W' h => by
    have h1 := hx.later h
    have h2 := hb.trans (h.mono hb.size)
    exact ⟨h1.st rfl zeroR (v := .slice none 0 0) rfl, (h1.row _).ld rfl, below_row h2 h2.size (Nat.le_refl _) _⟩
  unfold zr at hW
  clear hR hb hx hP her
  go_enter Try.func8, Try.ntmps8
  go_upto_region 1 with fail
  rw [← hW]
  clear hW
  go_wp2_with fail
  (with_reducible refine HC1.out.mono ?_)
  rintro e w1 ⟨vb, rfl, ho1, hb1⟩
  have hone := Page.RdB.one ho1.rd
  have st4 := store_new w1 P (v := vb) hone
  have hb2 : Below w1.heap.size w1 (w1.alloc (.cells (pgC P vb) 45)) := below1 _ _
  have hpx := Box.new w1 (pgC P vb)
  obtain ⟨W2, hW2⟩ : ∃ W2, w1.alloc (.cells (pgC P vb) 45) = W2 := ⟨_, rfl⟩
  rw [hW2] at st4 hb2 hpx
  have ld4 := hpx.load rfl
  have k4 : W2.cell? ⟨w1.heap.size, 0, none⟩ = some (.int .i64 P.kind) := hpx.cell 0
  have B2 : Below W.heap.size W W2 := hb1.trans (hb2.mono hb1.size)
  have HB2 := Lib.hid B2
  have HBODY := Lib.hid (ho1.rd.later hb2)
  obtain ⟨st2, ld2, bl2⟩ := HST.out W2 B2
  have HBL2 := Lib.hid bl2
  unfold zp pgC at st4
  unfold pgC at ld4
  unfold pgV pgC
  clear hone hb2 hpx hW2 B2 bl2 ho1 hb1
  by_cases he : er = 0
  · subst he
    by_cases hk : P.kind = 0
    · have HE : Hid (readR l = (zeroR, 6)) := by show _ = _; rw [HRR.out, if_pos rfl, if_pos hk]
      rw [hk] at st4 k4 ld4 ⊢
      clear hk
      go_wp2
      exact bodyPost_ret (v := .tuple #[.agg zr, .int .i64 6]) (results_row_tmp rfl _ _ _ _ rfl rfl ld2) rfl (readR_end HE.out _ _ HBL2.out rfl)
    · have e1 : (P.kind == 0) = false := by simp [hk]
      have HC2 := Lib.hid (opened_any P vb W2 HBODY.out HBD.out)
      unfold OpenedPost at HC2
      have HRR2 : Hid (readR l = if isR P = true then (openR P, 0) else (zeroR, 2)) := by show _ = _; rw [HRR.out, if_pos rfl, if_neg hk]
      unfold pgV pgC at HC2
      clear hk st2 ld2
      go_wp2_with fail
      (with_reducible refine HC2.out.mono ?_)
      rintro e w3 ⟨xv, rfl, ho3, hb3⟩
      have hone := RdN.one ho3.rd
      have hr0 : Below w3.heap.size w3 (w3.alloc (.cells (roC (if isR P = true then openR P else zeroR) xv) 25)) := below1 _ _
      have st6 := ro_new w3 (if isR P = true then openR P else zeroR) hone
      have hrx := Bx.new 25 w3 (roC (if isR P = true then openR P else zeroR) xv)
      obtain ⟨W4, hW4⟩ : ∃ W4, w3.alloc (.cells (roC (if isR P = true then openR P else zeroR) xv) 25) = W4 := ⟨_, rfl⟩
      rw [hW4] at st6 hr0 hrx
      have B4 : Below W.heap.size W W4 := HB2.out.trans ((hb3.trans (hr0.mono hb3.size)).mono HB2.out.size)
      have ho4 := ho3.later hr0
      obtain ⟨st2, ld2, bl2⟩ := HST.out W4 B4
      have ld6 := hrx.ld rfl
      have HBL := Lib.hid bl2
      cases hr : isR P with
      | false =>
        have HE : Hid (readR l = (zeroR, 2)) := by show _ = _; rw [HRR2.out, hr]; rfl
        rw [hr] at st6 ld6
        rw [if_neg (by decide)] at st6 ld6 ⊢
        unfold zr roC at st6
        unfold roC at ld6
        unfold roV
        clear hone hr0 hrx hW4 B4 ho4 bl2 ho3 hb3 hr st4 k4 ld4 e1
        go_wp2
        exact bodyPost_ret (v := .tuple #[.agg zr, .int .i64 2]) (results_row_tmp rfl _ _ _ _ rfl rfl ld2) rfl (readR_end HE.out _ _ HBL.out rfl)
      | true =>
        have HE : Hid (readR l = (openR P, 0)) := by show _ = _; rw [HRR2.out, hr]; rfl
        rw [hr] at st6 ld6 ho4
        rw [if_pos rfl] at st6 ld6 ho4 ⊢
        have hbx := HX.out.1.later B4
        have st7 := hbx.st rfl (openR P) hone
        have ld7 := (hbx.row (roC (openR P) xv)).ld rfl
        have hlt : w.heap.size < W2.heap.size := Nat.lt_of_lt_of_le HX.out.2.2 HB2.out.size
        have hbw := HX.out.2.1.trans (B4.mono HX.out.2.1.size)
        have FIN : Hid (ReadRPost l w (.returned (.tuple #[.agg (roC (openR P) xv), .int .i64 0])) (W4.setRow w.heap.size (roC (openR P) xv))) := by
          unfold ReadRPost
          rw [HE.out]
          exact ⟨xv, rfl, (own_rowN ho4 _ hlt).mono (Nat.le_of_lt hlt), below_row hbw hbw.size (Nat.le_refl _) _⟩
        unfold zr roC at st6
        unfold roC at ld6 st7
        unfold roV
        clear hone hr0 hrx hW4 B4 ho4 bl2 ho3 hb3 hr st4 k4 ld4 e1 st2 ld2 hbx hlt hbw
        go_wp2
        exact bodyPost_ret (v := .tuple #[.agg (roC (openR P) xv), .int .i64 0]) (results_row_tmp rfl _ _ _ _ rfl rfl ld7) rfl FIN.out
  · have HE : Hid (readR l = (zeroR, er)) := by show _ = _; rw [HRR.out, if_neg he]
    have e1 : (er == 0) = false := by simp [he]
    have e2 : (er != 0) = true := by simp [he]
    clear he
    go_wp2
    exact bodyPost_ret (v := .tuple #[.agg zr, .int .i64 er]) (results_row_tmp rfl _ _ _ _ rfl rfl ld2) rfl (readR_end HE.out _ _ HBL2.out rfl)
end Go.Proofs.Ytjlmkhomedoolaa.Root
