/- bad.Replace of a right reserve. -/
import Derived.Test.YteifldppipnodaaBadAt
import Derived.Deep.CutRange
namespace Go.Proofs.Yteifldppipnodaa.Bad
open Go.RowKit Go.Sort
attribute [local go_sem ↓] slice_ints loadVar_rs storeVar_rs

set_option maxHeartbeats 4000000 in
set_option maxRecDepth 100000 in
theorem replace_some (r : Value) (st rest : List Nat) (y n : Nat) (w : World) (hR : RdR w r st (y :: rest)) (hG : Good st (y :: rest)) (hn : n < st.length) :
    Calls Try.prog 6 #[r, .int .i64 (n : Int)] w fun e w' => ∃ r', e = .returned (.tuple #[r', .int .i64 0]) ∧ OwnL w' w.heap.size r' (st.set n y) rest ∧ Below w.heap.size w w' := by
  obtain ⟨u, v, rfl, hu, hv⟩ := hR
  obtain ⟨a1, p1, e1, m1, m2⟩ := hu.len
  obtain ⟨g, o, p2, e2, hc⟩ := hv.form (by simp)
  obtain ⟨v', s2, r2⟩ := slice_tail hv (k := 1) (by simp)
  obtain ⟨a3, p3, e3, -⟩ := r2.len
  rw [List.drop_succ_cons, List.drop_zero] at r2 e3
  have hcy := hc 0 y rfl
  rw [Nat.add_zero] at hcy
  unfold nV at hcy
  have hlen := hG.few
  rw [List.length_append, List.length_cons] at hlen
  have HLN := Lib.hid (And.intro hlen hn)
  obtain ⟨n1, hn1⟩ : ∃ n, st.length = n := ⟨_, rfl⟩
  obtain ⟨n2, hn2⟩ : ∃ n, rest.length = n := ⟨_, rfl⟩
  have HE := Lib.hid hn1
  rw [hn1] at e1 hn hlen
  rw [List.length_cons, hn2] at e2
  rw [hn2] at e3 hlen
  have d1 : decide (((n2 + 1 : Nat) : Int) = 0) = false := by simp; omega
  have hnI : (n : Int) < n1 := by omega
  subst e1 e2 e3
  have f2 := fun W => s2 1 W rfl
  obtain ⟨m, hm⟩ : ∃ m, n2 + 1 = m := ⟨_, rfl⟩
  rw [hm] at hv d1 f2
  have hm0 : 0 < m := by omega
  have hmI : (0 : Int) < m := by omega
  rw [hm]
  obtain ⟨W, hW⟩ : ∃ W, W = (w.alloc (.cells #[.slice a1 n1 p1, .slice (some ⟨g, o, none⟩) m p2] 25)).alloc (.cells #[.slice none 0 0, .slice none 0 0] 25) := ⟨_, rfl⟩
  have hbx : Box W w.heap.size #[.slice a1 n1 p1, .slice (some ⟨g, o, none⟩) m p2] ∧ Box W (w.heap.size + 1) zr ∧ Below w.heap.size w W ∧ W.heap.size = w.heap.size + 2 := by
    obtain ⟨W1, hW1⟩ : ∃ W1, W1 = w.alloc (.cells #[.slice a1 n1 p1, .slice (some ⟨g, o, none⟩) m p2] 25) := ⟨_, rfl⟩
    have h1 := Box.new w #[.slice a1 n1 p1, .slice (some ⟨g, o, none⟩) m p2]
    have hs1 : W1.heap.size = w.heap.size + 1 := by rw [hW1]; simp
    have hb1 : Below w.heap.size w W1 := by rw [hW1]; exact (Below.refl _ _).alloc (Nat.le_refl _) _
    rw [← hW1] at hW h1
    have h2 := Box.new W1 zr
    rw [hs1] at h2
    have hb2 : Below W1.heap.size W1 W := by rw [hW]; exact (Below.refl _ _).alloc (Nat.le_refl _) _
    refine ⟨h1.later hb2, by rw [hW]; exact h2, hb1.trans (hb2.mono hb1.size), by rw [hW]; simp; omega⟩
  have HX := Lib.hid hbx
  have HC := Lib.hid (has_yes _ st (y :: rest) n W ⟨_, _, rfl, hu.later hbx.2.2.1, hv.later hbx.2.2.1⟩ hG HLN.out.2)
  have hld := hbx.1.load
  have HRD := Lib.hid (And.intro hu r2)
  have HCY := Lib.hid hcy
  clear hu hv r2 hG hbx hcy hc hn1 hn2 m1 m2 s2
  go_enter Try.func6, Try.ntmps6
  go_upto_region 1 with fail
  rw [← hW]
  clear hW
  go_wp2_with fail
  (with_reducible refine HC.out.mono ?_)
  rintro e w1 ⟨rfl, b1⟩
  have HB := Lib.hid b1
  have c1 : w1.cell? ⟨w.heap.size, 1, none⟩ = some (.slice (some ⟨g, o, none⟩) m p2) := keep_cell (HX.out.1.cell 1) b1
  clear b1 hld
  go_upto_region 5 with fail
  rw [show ((m : Int) == 0) = false by simp; omega]
  have c0 : w1.cell? ⟨w.heap.size, 0, none⟩ = some (.slice a1 n1 p1) := keep_cell (HX.out.1.cell 0) HB.out
  have HSZ : Hid (w.heap.size + 2 ≤ w1.heap.size) := by have := HB.out.size; have := HX.out.2.2.2; show _ ≤ _; omega
  go_cut [6] from 19 to 25 (fun t wx => ∃ B u' v', t = .pointer (some ⟨B, 0, none⟩) ∧ Box wx B #[u', v'] ∧ OwnR wx w1.heap.size u' v' st rest ∧ Below w1.heap.size w1 wx ∧ w1.heap.size ≤ B)
  case first =>
    have hwd : Below w.heap.size w w1 := HX.out.2.2.1.trans (HB.out.mono HX.out.2.2.1.size)
    have HA : Hid (∀ W', Below w1.heap.size w1 W' → W'.cell? ⟨w.heap.size, 0, none⟩ = some (.slice a1 n1 p1) ∧ W'.cell? ⟨w.heap.size, 1, none⟩ = some (.slice (some ⟨g, o, none⟩) m p2)) := fun W' hb => ⟨keep_cell c0 hb, keep_cell c1 hb⟩
    have HL5 : Hid (st.length ≤ 1000 ∧ rest.length ≤ 1000) := by have := HLN.out.1; exact ⟨by omega, by omega⟩
    have hal : Below w1.heap.size w1 (w1.alloc (.cells #[.slice none 0 0, .slice none 0 0] 25)).drew := ((Below.refl _ _).alloc (Nat.le_refl _) _).drew
    have HC1 := Lib.hid (copied_any _ st rest w1.drew ⟨_, _, rfl, (HRD.out.1.later hwd).later (Below.refl _ _).drew, (HRD.out.2.later hwd).later (Below.refl _ _).drew⟩ HL5.out.1 HL5.out.2)
    have HC2 := Lib.hid (copied_any _ st rest (w1.alloc (.cells #[.slice none 0 0, .slice none 0 0] 25)).drew ⟨_, _, rfl, (HRD.out.1.later hwd).later hal, (HRD.out.2.later hwd).later hal⟩ HL5.out.1 HL5.out.2)
    have HBZ : Hid (Box (w1.alloc (.cells #[.slice none 0 0, .slice none 0 0] 25)).drew w1.heap.size zr) := (Box.new w1 zr).drew
    have s1 : w1.drew.cell? ⟨w.heap.size, 0, none⟩ = some (.slice a1 n1 p1) ∧ w1.drew.cell? ⟨w.heap.size, 1, none⟩ = some (.slice (some ⟨g, o, none⟩) m p2) := ⟨c0, c1⟩
    have s2 := HA.out _ hal
    clear c0 c1
    go_region_held3 (fun w' => w'.cell? ⟨w.heap.size, 0, none⟩ = some (.slice a1 n1 p1) ∧ w'.cell? ⟨w.heap.size, 1, none⟩ = some (.slice (some ⟨g, o, none⟩) m p2))
      (first | exact s1 | exact s2 | exact s3 | exact s5 | exact s6 | exact s7)
      (first
        | ((with_reducible refine HC1.out.mono ?_); rintro e w2 ⟨v1, v2, rfl, o1, b1⟩; obtain ⟨x1, q1, e1, -⟩ := o1.1.rd.len; obtain ⟨x2, q2, e2, -⟩ := o1.2.1.rd.len; subst e1 e2; have b1' : Below w1.heap.size w1 w2 := (Below.refl w1.heap.size w1).drew.trans b1; have s3 := HA.out w2 b1'; have s5 := HA.out _ (b1'.alloc b1'.size (.cells #[.slice none 0 0, .slice none 0 0] 25)); have s4 := store_new w2 (u := .slice x1 st.length q1) (v := .slice x2 rest.length q2) rfl rfl; unfold zr at s4; have s6 := HA.out _ (b1'.alloc b1'.size (.cells #[.slice x1 st.length q1, .slice x2 rest.length q2] 25)))
        | ((with_reducible refine HC2.out.mono ?_); rintro e w2 ⟨v1, v2, rfl, o1, b1⟩; obtain ⟨x1, q1, e1, -⟩ := o1.1.rd.len; obtain ⟨x2, q2, e2, -⟩ := o1.2.1.rd.len; subst e1 e2; have b1' : Below w1.heap.size w1 w2 := hal.trans (b1.mono hal.size); have s3 := HA.out w2 b1'; have hbz := HBZ.out.later (b1.mono (Nat.le_refl _)); have s4 := hbz.store rfl (u := .slice x1 st.length q1) (v := .slice x2 rest.length q2) rfl rfl; have s7 := HA.out _ (below_row b1' b1'.size (Nat.le_refl _) #[.slice x1 st.length q1, .slice x2 rest.length q2])))
    · have hd : w1.drew.heap.size = w1.heap.size := rfl
      have hs := b1'.size
      have hb' := (Below.refl w2.heap.size w2).alloc (Nat.le_refl _) (.cells #[.slice x1 st.length q1, .slice x2 rest.length q2] 25)
      have FIN : Hid (Box (w2.alloc (.cells #[.slice x1 st.length q1, .slice x2 rest.length q2] 25)) w2.heap.size #[.slice x1 st.length q1, .slice x2 rest.length q2] ∧ OwnR (w2.alloc (.cells #[.slice x1 st.length q1, .slice x2 rest.length q2] 25)) w1.heap.size (.slice x1 st.length q1) (.slice x2 rest.length q2) st rest ∧ Below w1.heap.size w1 (w2.alloc (.cells #[.slice x1 st.length q1, .slice x2 rest.length q2] 25)) ∧ w1.heap.size ≤ w2.heap.size) :=
        ⟨Box.new w2 _, ⟨(o1.1.mono (by omega)).later hb', (o1.2.1.mono (by omega)).later hb', o1.2.2⟩, b1'.alloc hs _, hs⟩
      clear s1 s2 s3 s4 hal
      go_wp2
      go_meet
      exact ⟨_, _, _, rfl, FIN.out⟩
    · have hd : w1.heap.size ≤ (w1.alloc (.cells #[.slice none 0 0, .slice none 0 0] 25)).drew.heap.size := hal.size
      have hs := b1'.size
      have FIN : Hid (Box (w2.setRow w1.heap.size #[.slice x1 st.length q1, .slice x2 rest.length q2]) w1.heap.size #[.slice x1 st.length q1, .slice x2 rest.length q2] ∧ OwnR (w2.setRow w1.heap.size #[.slice x1 st.length q1, .slice x2 rest.length q2]) w1.heap.size (.slice x1 st.length q1) (.slice x2 rest.length q2) st rest ∧ Below w1.heap.size w1 (w2.setRow w1.heap.size #[.slice x1 st.length q1, .slice x2 rest.length q2]) ∧ w1.heap.size ≤ w1.heap.size) :=
        ⟨hbz.row _, ⟨(own_row o1.1 hbz _).mono hd, (own_row o1.2.1 hbz _).mono hd, o1.2.2⟩, below_row b1' hs (Nat.le_refl _) _, Nat.le_refl _⟩
      clear s1 s2 s3 s4 hal
      go_wp2
      go_meet
      exact ⟨_, _, _, rfl, FIN.out⟩
  case rest =>
  obtain ⟨B, u', v', rfl, hB, hO, hb, hle⟩ := hcut
  obtain ⟨g1, q1, e1, hg1⟩ := hO.1.shape (by have := HLN.out.2; omega)
  rw [HE.out] at e1
  subst e1
  have hwd : Below w.heap.size w w1 := HX.out.2.2.1.trans (HB.out.mono HX.out.2.2.1.size)
  obtain ⟨x0, hx0⟩ : ∃ x, st[n]? = some x := ⟨_, List.getElem?_eq_getElem HLN.out.2⟩
  obtain ⟨i0, i1⟩ := hO.1.at hx0
  unfold nV at i0
  have i2 : wc.cell? ⟨B, 0, none⟩ = some (.slice (some ⟨g1, 0, none⟩) n1 q1) := hB.cell 0
  have i3 : wc.cell? ⟨w.heap.size, 1, none⟩ = some (.slice (some ⟨g, o, none⟩) m p2) := keep_cell c1 hb
  have i4 : wc.cell? ⟨g, o, none⟩ = some (.int .i64 (y : Int)) := keep_cell (keep_cell HCY.out hwd) hb
  clear c0 c1 hx0
  have HI := Lib.hid (And.intro hB (And.intro hO (And.intro hb hle)))
  clear hB hO hb hle
  go_upto_region 6 with fail
  go_region
  obtain ⟨Wn, hWn⟩ : ∃ Wn, Wn = (wc.setCell ⟨g1, n, none⟩ (.int .i64 (y : Int))).drew := ⟨_, rfl⟩
  have hst := HI.out.2.1.1.store n y
  unfold nV at hst
  have hgr : wc.grownBy (wc.setCell ⟨g1, n, none⟩ (.int .i64 (y : Int))) (some g1) := ⟨rfl, rfl, rfl, by simp [World.setCell], fun k _ hk => RowKit.Below.heap_setCell _ _ _ _ (fun e => hk (by rw [e]))⟩
  have hne : B ≠ g1 := fun e => by
    have h1 := own_apart HI.out.2.1.1 HI.out.1 (by decide)
    exact h1 (by rw [e]; rfl)
  have hF : Box Wn B #[.slice (some ⟨g1, 0, none⟩) n1 q1, v'] ∧ OwnN Wn w1.heap.size (.slice (some ⟨g1, 0, none⟩) n1 q1) (st.set n y) ∧ OwnN Wn w1.heap.size v' rest ∧ Below w1.heap.size w1 Wn := by
    rw [hWn]
    refine ⟨?_, hst.1, ?_, ?_⟩
    · show (wc.setCell _ _).heap[B]? = _
      rw [RowKit.Below.heap_setCell _ _ _ _ hne]
      exact HI.out.1
    · show OwnN (wc.setCell _ _) _ _ _
      exact World.ownsRow.kept HI.out.2.1.2.1 hgr (.inr fun he => HI.out.2.1.2.2 g1 rfl he)
    · exact (HI.out.2.2.1.trans hst.2).drew
  rw [← hWn]
  have HF := Lib.hid hF
  clear hst hgr hne hWn hF HI i0 i1 i2 i3 i4
  have hld := HF.out.1.load
  go_upto_region 7 with fail
  have hbx4 : Box Wn (w.heap.size + 1) zr := (HX.out.2.1.later HB.out).later HF.out.2.2.2
  obtain ⟨x2, q2, e2, -⟩ := HF.out.2.2.1.rd.len
  subst e2
  have hst := hbx4.store rfl (u := .slice (some ⟨g1, 0, none⟩) n1 q1) (v := .slice x2 rest.length q2) rfl rfl
  have hl2 := (hbx4.row #[.slice (some ⟨g1, 0, none⟩) n1 q1, .slice x2 rest.length q2]).load
  have FIN : Hid (OwnL (Wn.setRow (w.heap.size + 1) #[.slice (some ⟨g1, 0, none⟩) n1 q1, .slice x2 rest.length q2]) w.heap.size (.agg #[.slice (some ⟨g1, 0, none⟩) n1 q1, .slice x2 rest.length q2]) (st.set n y) rest ∧ Below w.heap.size w (Wn.setRow (w.heap.size + 1) #[.slice (some ⟨g1, 0, none⟩) n1 q1, .slice x2 rest.length q2])) := by
    have hW := hwd.trans (HF.out.2.2.2.mono hwd.size)
    exact ⟨⟨_, _, rfl, (own_row HF.out.2.1 hbx4 _).mono hwd.size, (own_row HF.out.2.2.1 hbx4 _).mono hwd.size⟩, below_row hW hW.size (Nat.le_succ _) _⟩
  clear hbx4 HF HX HC HRD HCY HB hwd
  go_wp2
  exact bodyPost_ret (v := .tuple #[.agg #[.slice (some ⟨g1, 0, none⟩) n1 q1, .slice x2 rest.length q2], .int .i64 0]) (results_row_tmp rfl _ _ _ _ rfl rfl hl2) rfl ⟨_, rfl, FIN.out⟩

set_option maxHeartbeats 2000000 in
set_option maxRecDepth 100000 in
theorem replace_none (r : Value) (st : List Nat) (n : Nat) (w : World) (hR : RdR w r st []) (hG : Good st []) (hn : n < st.length) :
    Calls Try.prog 6 #[r, .int .i64 (n : Int)] w fun e w' => ∃ r', e = .returned (.tuple #[r', .int .i64 5]) ∧ RdR w' r' st [] ∧ Below w.heap.size w w' := by
  obtain ⟨u, v, rfl, hu, hv⟩ := hR
  obtain ⟨a1, p1, e1, -⟩ := hu.len
  obtain ⟨a2, p2, e2, -⟩ := hv.len
  rw [List.length_nil] at e2
  have hlen := hG.few
  rw [List.length_append, List.length_nil] at hlen
  have HLN := Lib.hid (And.intro hlen hn)
  obtain ⟨n1, hn1⟩ : ∃ n, st.length = n := ⟨_, rfl⟩
  rw [hn1] at e1
  subst e1 e2
  obtain ⟨W, hW⟩ : ∃ W, W = (w.alloc (.cells #[.slice a1 n1 p1, .slice a2 0 p2] 25)).alloc (.cells #[.slice none 0 0, .slice none 0 0] 25) := ⟨_, rfl⟩
  have hbx : Box W w.heap.size #[.slice a1 n1 p1, .slice a2 0 p2] ∧ Box W (w.heap.size + 1) zr ∧ Below w.heap.size w W ∧ W.heap.size = w.heap.size + 2 := by
    obtain ⟨W1, hW1⟩ : ∃ W1, W1 = w.alloc (.cells #[.slice a1 n1 p1, .slice a2 0 p2] 25) := ⟨_, rfl⟩
    have h1 := Box.new w #[.slice a1 n1 p1, .slice a2 0 p2]
    have hs1 : W1.heap.size = w.heap.size + 1 := by rw [hW1]; simp
    have hb1 : Below w.heap.size w W1 := by rw [hW1]; exact (Below.refl _ _).alloc (Nat.le_refl _) _
    rw [← hW1] at hW h1
    have h2 := Box.new W1 zr
    rw [hs1] at h2
    have hb2 : Below W1.heap.size W1 W := by rw [hW]; exact (Below.refl _ _).alloc (Nat.le_refl _) _
    refine ⟨h1.later hb2, by rw [hW]; exact h2, hb1.trans (hb2.mono hb1.size), by rw [hW]; simp; omega⟩
  have HX := Lib.hid hbx
  have HC := Lib.hid (has_yes _ st [] n W ⟨_, _, rfl, hu.later hbx.2.2.1, hv.later hbx.2.2.1⟩ hG HLN.out.2)
  have hld := hbx.1.load
  have HRD := Lib.hid (And.intro hu hv)
  clear hu hv hG hbx hn1 hlen hn
  go_enter Try.func6, Try.ntmps6
  go_upto_region 1 with fail
  rw [← hW]
  clear hW
  go_wp2_with fail
  (with_reducible refine HC.out.mono ?_)
  rintro e w1 ⟨rfl, b1⟩
  have hwd : Below w.heap.size w w1 := HX.out.2.2.1.trans (b1.mono HX.out.2.2.1.size)
  have c1 : w1.cell? ⟨w.heap.size, 1, none⟩ = some (.slice a2 0 p2) := keep_cell (HX.out.1.cell 1) b1
  have hl1 := (HX.out.1.later b1).load
  have hbx4 : Box w1 (w.heap.size + 1) zr := HX.out.2.1.later b1
  have HC2 := Lib.hid (copied_any _ st [] w1 ⟨_, _, rfl, HRD.out.1.later hwd, HRD.out.2.later hwd⟩ (by have := HLN.out.1; omega) (by simp))
  have HI := Lib.hid (And.intro hwd hbx4)
  clear b1 hld hwd hbx4
  go_wp2_with fail
  (with_reducible refine HC2.out.mono ?_)
  rintro e w2 ⟨v1, v2, rfl, o1, b1⟩
  obtain ⟨x1, q1, e1, -⟩ := o1.1.rd.len
  obtain ⟨x2, q2, e2, -⟩ := o1.2.1.rd.len
  rw [List.length_nil] at e2
  subst e1 e2
  have hbx := HI.out.2.later b1
  have hst := hbx.store rfl (u := .slice x1 st.length q1) (v := .slice x2 0 q2) rfl rfl
  have hl2 := (hbx.row #[.slice x1 st.length q1, .slice x2 0 q2]).load
  have hwd := HI.out.1.trans (b1.mono HI.out.1.size)
  have FIN : Hid (RdR (w2.setRow (w.heap.size + 1) #[.slice x1 st.length q1, .slice x2 0 q2]) (.agg #[.slice x1 st.length q1, .slice x2 0 q2]) st [] ∧ Below w.heap.size w (w2.setRow (w.heap.size + 1) #[.slice x1 st.length q1, .slice x2 0 q2])) := by
    exact ⟨⟨_, _, rfl, (own_row o1.1 hbx _).rd, (own_row o1.2.1 hbx _).rd⟩, below_row hwd hwd.size (Nat.le_succ _) _⟩
  clear hbx hwd o1 b1 c1 hl1 HI HC HX HRD
  go_wp2
  exact bodyPost_ret (v := .tuple #[.agg #[.slice x1 st.length q1, .slice x2 0 q2], .int .i64 5]) (results_row_tmp rfl _ _ _ _ rfl rfl hl2) rfl ⟨_, rfl, FIN.out⟩
end Go.Proofs.Yteifldppipnodaa.Bad
