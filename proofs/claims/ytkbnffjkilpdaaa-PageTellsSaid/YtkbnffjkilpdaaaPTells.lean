/- The statement PageTells, walked: every call of it hands back true. -/
import Derived.Test.YtkbnffjkilpdaaaPageAwake
import Derived.Deep.CutRange
namespace Go.Proofs.Ytkbnffjkilpdaaa.Page.pageTells
open Go.RowKit Go.Sort
attribute [local go_sem ↓] slice_bytes text_bytes eq_text ne_text loadVar_page storeVar_page

theorem mod_nat (i N : Nat) (h : 0 < N) : ∃ x : Nat, (i : Int) % (8 * (N : Int)) = (x : Int) ∧ x < 8 * N :=
  ⟨i % (8 * N), by rw [Int.natCast_emod, Int.natCast_mul]; rfl, Nat.mod_lt _ (by omega)⟩
theorem flip_val (z : UInt8) (p : Nat) : bits .xor .u8 (z.toNat : Int) ((2 : Int) ^ (p % 8) % 256) = ((z ^^^ UInt8.ofNat (2 ^ (p % 8))).toNat : Int) := by
  have h2 : 2 ^ (p % 8) < 256 := Nat.pow_lt_pow_right (a := 2) (by decide) (show p % 8 < 8 from Nat.mod_lt _ (by decide))
  have h3 : (2 : Int) ^ (p % 8) % 256 = ((2 ^ (p % 8) : Nat) : Int) := by
    rw [show (2 : Int) ^ (p % 8) = ((2 ^ (p % 8) : Nat) : Int) from by rw [Int.natCast_pow]; rfl]
    generalize 2 ^ (p % 8) = q at *
    omega
  rw [h3, u8_xor_nat _ _ z.toNat_lt h2, UInt8.toNat_xor, two_nat]
theorem flip_eq {l : List UInt8} {p : Nat} {z : UInt8} (h : l[p / 8]? = some z) : l.set (p / 8) (z ^^^ UInt8.ofNat (2 ^ (p % 8))) = flipB l p := by
  unfold flipB
  rw [List.getD_eq_getElem?_getD, h]
  rfl
/-- Which two pages have the same bytes. -/
theorem same_put {p o : Pg} {n : Nat} (hp : mayB p n = true) (ho : mayB o n = true) : decide (pagePut p n = pagePut o n) = sameB p o := by
  rw [Bool.eq_iff_iff, decide_eq_true_iff, same_iff]
  exact ⟨put_inj hp ho, fun h => by rw [h]⟩
theorem own_form {w : World} {base : Nat} {v : Value} {l : List UInt8} (h : OwnB w base v l) (hl : 0 < l.length) : ∃ g cap, v = .slice (some ⟨g, 0, none⟩) l.length cap ∧ base ≤ g := by
  rcases h.2 with ⟨e1, e2⟩ | ⟨g, cap, cur, e2, e3, -⟩
  · obtain ⟨b, o, cap, e, -⟩ := h.rd.form hl
    rw [e] at e1; cases e1
  · exact ⟨g, cap, e2, e3⟩
def zV : Value := .agg #[.int .i64 0, .int .i64 0, .int .u64 0, .slice none 0 0]

set_option maxHeartbeats 8000000 in
set_option maxRecDepth 100000 in
theorem walkAll (p o : Pg) (u v vb : Value) (n : Int) (i k : Nat) (b : List UInt8) (w : World) (hi : i < 65536) (hk : k < 65536) (hp : RdB w u p.body) (ho : RdB w v o.body) (hb : RdB w vb b) :
    Calls Try.prog 4 #[pgV p u, pgV o v, .int .i64 n, .int .u16 (i : Int), .int .u16 (k : Int), vb] w fun e w' => e = .returned (.bool true) ∧ Below w.heap.size w w' := by
  have hb0 : Below w.heap.size w ((w.alloc (.cells (pgC p u) 25)).alloc (.cells (pgC o v) 25)) := ((Below.refl _ _).alloc (Nat.le_refl _) _).alloc (by simp) _
  have hx6 : Box ((w.alloc (.cells (pgC p u) 25)).alloc (.cells (pgC o v) 25)) w.heap.size (pgC p u) := by unfold Box; rw [Go.heap_alloc_old _ _ (by simp)]; exact Go.heap_alloc_new w _
  have hx7 : Box ((w.alloc (.cells (pgC p u) 25)).alloc (.cells (pgC o v) 25)) (w.heap.size + 1) (pgC o v) := by
    have := Go.heap_alloc_new (w.alloc (.cells (pgC p u) 25)) (.cells (pgC o v) 25); unfold Box; simpa using this
  have HW : Hid (∀ W, Below ((w.alloc (.cells (pgC p u) 25)).alloc (.cells (pgC o v) 25)).heap.size ((w.alloc (.cells (pgC p u) 25)).alloc (.cells (pgC o v) 25)) W →
      (pageLoad ⟨w.heap.size, 0, none⟩).run Try.prog W = .ok (.agg (pgC p u)) W ∧ (pageLoad ⟨w.heap.size + 1, 0, none⟩).run Try.prog W = .ok (.agg (pgC o v)) W ∧ RdB W u p.body ∧ RdB W v o.body ∧ RdB W vb b ∧ Below w.heap.size w W) := fun W hW =>
    ⟨(hx6.later hW).load rfl, (hx7.later hW).load rfl, (hp.later hb0).later hW, (ho.later hb0).later hW, (hb.later hb0).later hW, hb0.trans (hW.mono hb0.size)⟩
  have H1 := Lib.hid (awake_any ((w.alloc (.cells (pgC p u) 25)).alloc (.cells (pgC o v) 25)))
  obtain ⟨W0, hW0⟩ : ∃ W, W = (w.alloc (.cells (pgC p u) 25)).alloc (.cells (pgC o v) 25) := ⟨_, rfl⟩
  rw [← hW0] at HW H1
  have HW0 := Lib.hid hW0
  have HPUT : Hid (∀ (q : Pg) (x : Value) (m : Int) W, RdB W x q.body → Calls Try.prog 7 #[.agg (pgC q x), .int .i64 m] W (PutPost q m W)) := fun q x m W h => put_any' q x m W h
  have HREAD : Hid (∀ l x W, RdB W x l → Calls Try.prog 9 #[x] W (ReadPost l W)) := fun l x W h => read_any l x W h
  have HSAME : Hid (∀ (q r : Pg) (x y : Value) W, RdB W x q.body → RdB W y r.body → Calls Try.prog 11 #[.agg (pgC q x), .agg (pgC r y)] W fun e w' => e = .returned (.bool (sameB q r)) ∧ Below W.heap.size W w') := fun q r x y W h1 h2 => same_any q r x y W h1 h2
  have HSTORE : Hid (∀ W (q : Pg) (x : Value) l, RdB W x l → (pageStore ⟨W.heap.size, 0, none⟩ (.agg (pgC q x))).run Try.prog (W.alloc (.cells #[.int .i64 0, .int .i64 0, .int .u64 0, .slice none 0 0] 25)) = .ok () (W.alloc (.cells (pgC q x) 25)) ∧
      Below W.heap.size W (W.alloc (.cells (pgC q x) 25)) ∧ Box (W.alloc (.cells (pgC q x) 25)) W.heap.size (pgC q x)) := fun W q x l h => ⟨store_new W q (RdB.one h), (Below.refl _ _).alloc (Nat.le_refl _) _, Box.new _ _⟩
  obtain ⟨ab, cb, hvb, -, hbm⟩ := hb.len
  unfold maxLen at hbm
  obtain ⟨lb, hlb⟩ : ∃ m, b.length = m := ⟨_, rfl⟩
  have hlc := hb.len
  obtain ⟨_, _, -, hlc1, hlc2⟩ := hlc
  unfold maxLen at hlc2
  rw [hlb] at hvb hlc1
  have hlb63 : (lb : Int) ≤ 9223372036854775807 := by omega
  have HLB := Lib.hid hlb
  subst hvb
  unfold pgV
  clear hb0 hx6 hx7 hp ho hb hbm hlb hlc1 hlc2
  go_enter Try.func4, Try.ntmps4
  go_upto_region 1 with fail
  rw [← HW0.out]
  clear hW0
  go_wp2_with fail
  with_reducible refine H1.out.mono ?_
  rintro e w1 ⟨rfl, hb1⟩
  have B1 := Lib.hid hb1
  obtain ⟨ld6, -, rp, -⟩ := HW.out w1 hb1
  have HP0 := HPUT.out p u n w1 rp
  unfold PutPost at HP0
  obtain ⟨ep, hep⟩ : ∃ e, putE p n = e := ⟨_, rfl⟩
  rw [hep] at HP0
  have HEP := Lib.hid hep
  have HP1 := Lib.hid HP0
  clear hb1 rp HP0 hep
  go_upto_region 3 with fail
  go_wp2_with fail
  with_reducible refine HP1.out.mono ?_
  rintro e w2 ⟨vx, rfl, hox, hbx⟩
  have B2 := Lib.hid (B1.out.trans (hbx.mono B1.out.size))
  have OX := Lib.hid hox
  clear hox hbx ld6
  go_upto_if 38 with fail
  go_cut [15, 16, 17, 18, 19, 20, 21, 22, 23, 24] from 38 to 137 (fun _ _ _ _ _ _ _ _ _ _ wx => Hid (Below W0.heap.size W0 wx))
  case first =>
    cases hm : mayB p n with
    | false =>
      have hq : (ep == 0) = false := by rw [← HEP.out]; unfold putE; rw [hm]; rfl
      clear hm OX
      go_wp2
      go_meet
      exact B2
    | true =>
      obtain ⟨N, rfl⟩ : ∃ N : Nat, n = N := ⟨n.toNat, by have := (may_iff.1 hm).1; omega⟩
      have hq : (ep == 0) = true := by rw [← HEP.out]; unfold putE; rw [hm]; rfl
      have hr : putR p N = pagePut p N := by unfold putR; rw [hm, Int.toNat_natCast]; rfl
      rw [hr] at OX
      obtain ⟨⟨h24, h256⟩, -⟩ := may_iff.1 hm
      have hlen := put_length hm
      have HB2S : Hid (W0.heap.size ≤ w1.heap.size) := B1.out.size
      have HRX : Hid (∀ W x, RdB W x (pagePut p N) → Calls Try.prog 9 #[x] W fun e w' => ∃ vb, e = .returned (.tuple #[.agg (pgC p vb), .int .i64 0]) ∧ OwnB w' W.heap.size vb p.body ∧ Below W.heap.size W w') := fun W x h => by
        have := HREAD.out _ x W h
        unfold ReadPost at this
        rw [read_put hm] at this
        exact this
      have HFL : Hid (∀ i, i < 8 * N → readL (flipB (pagePut p N) i) = (zeroP, 4)) := fun i hi => read_flip hm hi
      have HFF : Hid (∀ i j, i < 8 * N → j < 8 * N → i ≠ j → readL (flipB (flipB (pagePut p N) i) j) = (zeroP, 4)) := fun i j h1 h2 h3 => read_flips hm h1 h2 h3
      have HD0 : Hid (mayB o N = true → decide (pagePut p N = putR o N) = sameB p o) := fun ho => by
        have e : putR o N = pagePut o N := by unfold putR; rw [ho, Int.toNat_natCast]; rfl
        rw [e]; exact same_put hm ho
      obtain ⟨gx, cx, hvx, -⟩ := own_form OX.out (by rw [hlen]; omega)
      rw [hlen] at hvx
      subst hvx
      obtain ⟨X, hX⟩ : ∃ X, pagePut p N = X := ⟨_, rfl⟩
      rw [hX] at OX HRX HFL HFF HD0 hlen
      have HLN := Lib.hid hlen
      have HN24 := Lib.hid (And.intro h24 h256)
      clear hr hm hX hlen
      go_wp2_with fail
      refine (HRX.out w2 _ OX.out.rd).mono ?_
      rintro e w3 ⟨vq, rfl, hoq, hbq⟩
      have B3 := B2.out.trans (hbq.mono B2.out.size)
      obtain ⟨st3, hb4, hx4⟩ := HSTORE.out w3 p vq _ hoq.rd
      have RQ := Lib.hid (hoq.rd.later hb4)
      have OX4 := Lib.hid ((OX.out.later hbq).later hb4)
      have B4 := Lib.hid (B3.trans (hb4.mono B3.size))
      obtain ⟨W4, hW4⟩ : ∃ W, w3.alloc (.cells (pgC p vq) 25) = W := ⟨_, rfl⟩
      rw [hW4] at st3 hx4 RQ B4 OX4
      have HX4 := Lib.hid hx4
      obtain ⟨-, ld7, -, rv, -⟩ := HW.out W4 B4.out
      have HP4 := HPUT.out o v N W4 rv
      unfold PutPost at HP4
      obtain ⟨eo, heo⟩ : ∃ e, putE o N = e := ⟨_, rfl⟩
      rw [heo] at HP4
      have HEO := Lib.hid heo
      have HPP := Lib.hid HP4
      clear hoq hbq B3 hb4 hW4 hx4 rv HP4 heo
      go_wp2_with fail
      with_reducible refine HPP.out.mono ?_
      rintro e w5 ⟨vy, rfl, hoy, hby⟩
      have OX5 := Lib.hid (OX4.out.later hby)
      have B5 := Lib.hid (B4.out.trans (hby.mono B4.out.size))
      have HL5 : Hid (∀ W, Below w5.heap.size w5 W → (pageLoad ⟨w.heap.size, 0, none⟩).run Try.prog W = .ok (.agg (pgC p u)) W ∧ (pageLoad ⟨w3.heap.size, 0, none⟩).run Try.prog W = .ok (.agg (pgC p vq)) W ∧ (pageLoad ⟨w.heap.size + 1, 0, none⟩).run Try.prog W = .ok (.agg (pgC o v)) W ∧
          RdB W (.slice (some ⟨gx, 0, none⟩) N cx) X ∧ RdB W vy (putR o N)) := fun W hW => by
        obtain ⟨l1, l2, -⟩ := HW.out W (B5.out.trans (hW.mono B5.out.size))
        exact ⟨l1, ((HX4.out.later hby).later hW).load rfl, l2, (OX5.out.rd).later hW, hoy.rd.later hW⟩
      have HS5 : Hid (∀ W, Below w5.heap.size w5 W → Calls Try.prog 11 #[.agg (pgC p u), .agg (pgC p vq)] W fun e w' => e = .returned (.bool true) ∧ Below W.heap.size W w') := fun W hW => by
        obtain ⟨-, -, r1, -⟩ := HW.out W (B5.out.trans (hW.mono B5.out.size))
        have := HSAME.out p p u vq W r1 ((RQ.out.later hby).later hW)
        rw [same_refl] at this
        exact this
      have HS25 : Hid (∀ W, Below w5.heap.size w5 W → Calls Try.prog 11 #[.agg (pgC p u), .agg (pgC o v)] W fun e w' => e = .returned (.bool (sameB p o)) ∧ Below W.heap.size W w') := fun W hW => by
        obtain ⟨-, -, r1, r2, -⟩ := HW.out W (B5.out.trans (hW.mono B5.out.size))
        exact HSAME.out p o u v W r1 r2
      obtain ⟨d, hd⟩ : ∃ d, sameB p o = d := ⟨_, rfl⟩
      rw [hd] at HS25 HD0
      obtain ⟨Y, hY⟩ : ∃ Y, putR o N = Y := ⟨_, rfl⟩
      rw [hY] at HL5 HD0
      clear hoy hby hd ld7 st3 hY
      go_upto_region 7 with fail
      go_cut [78] from 50 to 77 (fun t wx => t = .bool false ∧ Hid (Below w5.heap.size w5 wx))
      case first =>
        cases hmo : mayB o N with
        | false =>
          have HQ : Hid ((eo == 0) = false) := by show _ = _; rw [← HEO.out]; unfold putE; rw [hmo]; rfl
          clear hmo
          go_wp2_with fail
          refine region_slots (by kernel_rfl) (by kernel_rfl) (Gof [Gd.eq (.int .i64 0), Gd.eq (.bool false), Gd.eq (.bool false), Gd.eq (.agg (pgC p u)), Gd.eq (.agg (pgC p vq)), Gd.eq (.bool true), Gd.eq (.bool false), Gd.eq (.bool false), Gd.eq (.bool false), Gd.eq (.slice (some ⟨gx, 0, none⟩) N cx), Gd.eq (.int .i64 (N : Int)), Gd.eq (.int .i64 (N : Int)), Gd.eq (.bool false), Gd.eq (.bool false), Gd.eq (.bool false), Gd.eq (.int .i64 eo), Gd.eq (.bool false), Gd.eq (.bool false), Gd.any, Gd.any, Gd.any, Gd.any, Gd.any, Gd.any, Gd.any, Gd.any, Gd.any, Gd.eq (Value.bool false), Gd.eq (Value.bool false)]) (Gof_st _) (steps_all ?_) ?_
          · dsimp only
            refine StepsFrom.cons ?s0 (StepsFrom.cons ?s1 (StepsFrom.cons ?s2 (StepsFrom.cons ?s3 (StepsFrom.cons ?s4 (StepsFrom.cons ?s5 (StepsFrom.cons ?s6 (StepsFrom.cons ?s7 (StepsFrom.cons ?s8 (StepsFrom.cons ?s9 (StepsFrom.cons ?s10 (StepsFrom.cons ?s11 (StepsFrom.cons ?s12 (StepsFrom.cons ?s13 (StepsFrom.cons ?s14 (StepsFrom.cons ?s15 (StepsFrom.cons ?s16 (StepsFrom.cons ?s17 (StepsFrom.cons ?s18 (StepsFrom.cons ?s19 (StepsFrom.cons ?s20 (StepsFrom.cons ?s21 (StepsFrom.cons ?s22 (StepsFrom.cons ?s23 (StepsFrom.cons ?s24 (StepsFrom.cons ?s25 (StepsFrom.cons ?s26 (StepsFrom.cons ?s27 (StepsFrom.cons ?s28 StepsFrom.nil))))))))))))))))))))))))))))
            case s0 =>
              intro ac wc hU
              have e16 : slot ac 16 = .int .i64 0 := (hU.keep 16 (by kernel_rfl)).trans rfl
              refine step_val (wanted_none rfl) (run_move rfl) ?_
              show (Gd.eq (.int .i64 0)).p _ wc
              exact (by rw [eval_tmp]; exact e16)
            case s1 =>
              intro ac wc hU
              have e50 : (Gd.eq (.int .i64 0)).p (slot ac 50) wc := hU.dep 0 50 (by kernel_rfl)
              refine step_val (wanted_none rfl) (v := .bool false) ?_ rfl
              have e50 : slot ac 50 = .int .i64 0 := e50
              simp [execOp, eval_tmp, eval_const, e50] <;> go_simp
            case s2 =>
              intro ac wc hU
              have e51 : (Gd.eq (.bool false)).p (slot ac 51) wc := hU.dep 1 51 (by kernel_rfl)
              refine step_val (wanted_none rfl) (run_move rfl) ?_
              show (Gd.eq (.bool false)).p _ wc
              exact (by rw [eval_tmp]; exact e51)
            case s3 =>
              intro ac wc hU
              have e6 : slot ac 6 = .pointer (some ⟨w.heap.size, 0, none⟩) := (hU.keep 6 (by kernel_rfl)).trans rfl
              have e52 : (Gd.eq (.bool false)).p (slot ac 52) wc := hU.dep 2 52 (by kernel_rfl)
              refine step_val ((wanted_some rfl rfl e52).trans rfl) (v := .agg (pgC p u)) ?_ rfl
              have ld := (HL5.out wc hU.below).1
              have e6 : slot ac 6 = .pointer (some ⟨w.heap.size, 0, none⟩) := e6
              simp [execOp, eval_tmp, e6] <;> go_simp
            case s4 =>
              intro ac wc hU
              have e15 : slot ac 15 = .pointer (some ⟨w3.heap.size, 0, none⟩) := (hU.keep 15 (by kernel_rfl)).trans rfl
              have e52 : (Gd.eq (.bool false)).p (slot ac 52) wc := hU.dep 2 52 (by kernel_rfl)
              refine step_val ((wanted_some rfl rfl e52).trans rfl) (v := .agg (pgC p vq)) ?_ rfl
              have ld := (HL5.out wc hU.below).2.1
              have e15 : slot ac 15 = .pointer (some ⟨w3.heap.size, 0, none⟩) := e15
              simp [execOp, eval_tmp, e15] <;> go_simp
            case s5 =>
              intro ac wc hU
              have e53 : (Gd.eq (.agg (pgC p u))).p (slot ac 53) wc := hU.dep 3 53 (by kernel_rfl)
              have e54 : (Gd.eq (.agg (pgC p vq))).p (slot ac 54) wc := hU.dep 4 54 (by kernel_rfl)
              have e52 : (Gd.eq (.bool false)).p (slot ac 52) wc := hU.dep 2 52 (by kernel_rfl)
              refine step_call ((wanted_some rfl rfl e52).trans rfl) (f := 11) (args := #[(.agg (pgC p u)), (.agg (pgC p vq))]) ?_ ?_
              · have e53 : slot ac 53 = .agg (pgC p u) := e53
                have e54 : slot ac 54 = .agg (pgC p vq) := e54
                simp [execOp, resolve, invoke, eval_tmp, e53, e54] <;> go_simp
              · refine (HS5.out wc hU.below).mono ?_
                rintro e w' ⟨rfl, hb⟩; exact ⟨_, rfl, hb, rfl⟩
            case s6 =>
              intro ac wc hU
              have e55 : (Gd.eq (.bool true)).p (slot ac 55) wc := hU.dep 5 55 (by kernel_rfl)
              have e52 : (Gd.eq (.bool false)).p (slot ac 52) wc := hU.dep 2 52 (by kernel_rfl)
              refine step_val ((wanted_some rfl rfl e52).trans rfl) (v := .bool false) ?_ rfl
              have e55 : slot ac 55 = .bool true := e55
              simp [execOp, eval_tmp, e55] <;> go_simp
            case s7 =>
              intro ac wc hU
              have e52 : (Gd.eq (.bool false)).p (slot ac 52) wc := hU.dep 2 52 (by kernel_rfl)
              have e56 : (Gd.eq (.bool false)).p (slot ac 56) wc := hU.dep 6 56 (by kernel_rfl)
              refine step_val (wanted_none rfl) (run_pick (b := false) rfl (by rw [eval_tmp]; exact e52)) ?_
              show (Gd.eq (.bool false)).p (if false = true then _ else _) wc
              rw [if_neg (by decide)]
              exact (by rw [eval_tmp]; exact e56)
            case s8 =>
              intro ac wc hU
              have e57 : (Gd.eq (.bool false)).p (slot ac 57) wc := hU.dep 7 57 (by kernel_rfl)
              refine step_val (wanted_none rfl) (run_move rfl) ?_
              show (Gd.eq (.bool false)).p _ wc
              exact (by rw [eval_tmp]; exact e57)
            case s9 =>
              intro ac wc hU
              have e13 : slot ac 13 = .slice (some ⟨gx, 0, none⟩) N cx := (hU.keep 13 (by kernel_rfl)).trans rfl
              have e58 : (Gd.eq (.bool false)).p (slot ac 58) wc := hU.dep 8 58 (by kernel_rfl)
              refine step_val ((wanted_some rfl rfl e58).trans rfl) (run_move rfl) ?_
              show (Gd.eq (.slice (some ⟨gx, 0, none⟩) N cx)).p _ wc
              exact (by rw [eval_tmp]; exact e13)
            case s10 =>
              intro ac wc hU
              have e59 : (Gd.eq (.slice (some ⟨gx, 0, none⟩) N cx)).p (slot ac 59) wc := hU.dep 9 59 (by kernel_rfl)
              have e58 : (Gd.eq (.bool false)).p (slot ac 58) wc := hU.dep 8 58 (by kernel_rfl)
              refine step_val ((wanted_some rfl rfl e58).trans rfl) (v := .int .i64 (N : Int)) ?_ rfl
              have e59 : slot ac 59 = .slice (some ⟨gx, 0, none⟩) N cx := e59
              simp [execOp, resolve, invoke, builtin, eval_tmp, e59] <;> go_simp
            case s11 =>
              intro ac wc hU
              have e2 : slot ac 2 = .int .i64 (N : Int) := (hU.keep 2 (by kernel_rfl)).trans rfl
              have e58 : (Gd.eq (.bool false)).p (slot ac 58) wc := hU.dep 8 58 (by kernel_rfl)
              refine step_val ((wanted_some rfl rfl e58).trans rfl) (run_move rfl) ?_
              show (Gd.eq (.int .i64 (N : Int))).p _ wc
              exact (by rw [eval_tmp]; exact e2)
            case s12 =>
              intro ac wc hU
              have e60 : (Gd.eq (.int .i64 (N : Int))).p (slot ac 60) wc := hU.dep 10 60 (by kernel_rfl)
              have e61 : (Gd.eq (.int .i64 (N : Int))).p (slot ac 61) wc := hU.dep 11 61 (by kernel_rfl)
              have e58 : (Gd.eq (.bool false)).p (slot ac 58) wc := hU.dep 8 58 (by kernel_rfl)
              refine step_val ((wanted_some rfl rfl e58).trans rfl) (v := .bool false) ?_ rfl
              have e60 : slot ac 60 = .int .i64 (N : Int) := e60
              have e61 : slot ac 61 = .int .i64 (N : Int) := e61
              simp [execOp, eval_tmp, e60, e61] <;> go_simp
            case s13 =>
              intro ac wc hU
              have e58 : (Gd.eq (.bool false)).p (slot ac 58) wc := hU.dep 8 58 (by kernel_rfl)
              have e62 : (Gd.eq (.bool false)).p (slot ac 62) wc := hU.dep 12 62 (by kernel_rfl)
              refine step_val (wanted_none rfl) (run_pick (b := false) rfl (by rw [eval_tmp]; exact e58)) ?_
              show (Gd.eq (.bool false)).p (if false = true then _ else _) wc
              rw [if_neg (by decide)]
              exact (by rw [eval_tmp]; exact e62)
            case s14 =>
              intro ac wc hU
              have e63 : (Gd.eq (.bool false)).p (slot ac 63) wc := hU.dep 13 63 (by kernel_rfl)
              refine step_val (wanted_none rfl) (run_move rfl) ?_
              show (Gd.eq (.bool false)).p _ wc
              exact (by rw [eval_tmp]; exact e63)
            case s15 =>
              intro ac wc hU
              have e18 : slot ac 18 = .int .i64 eo := (hU.keep 18 (by kernel_rfl)).trans rfl
              have e64 : (Gd.eq (.bool false)).p (slot ac 64) wc := hU.dep 14 64 (by kernel_rfl)
              refine step_val ((wanted_some rfl rfl e64).trans rfl) (run_move rfl) ?_
              show (Gd.eq (.int .i64 eo)).p _ wc
              exact (by rw [eval_tmp]; exact e18)
            case s16 =>
              intro ac wc hU
              have e65 : (Gd.eq (.int .i64 eo)).p (slot ac 65) wc := hU.dep 15 65 (by kernel_rfl)
              have e64 : (Gd.eq (.bool false)).p (slot ac 64) wc := hU.dep 14 64 (by kernel_rfl)
              refine step_val ((wanted_some rfl rfl e64).trans rfl) (v := .bool false) ?_ rfl
              have hq := HQ.out
              have e65 : slot ac 65 = .int .i64 eo := e65
              simp [execOp, eval_tmp, eval_const, e65] <;> go_simp
            case s17 =>
              intro ac wc hU
              have e66 : (Gd.eq (.bool false)).p (slot ac 66) wc := hU.dep 16 66 (by kernel_rfl)
              have e64 : (Gd.eq (.bool false)).p (slot ac 64) wc := hU.dep 14 64 (by kernel_rfl)
              refine step_val ((wanted_some rfl rfl e64).trans rfl) (run_move rfl) ?_
              show (Gd.eq (.bool false)).p _ wc
              exact (by rw [eval_tmp]; exact e66)
            case s18 =>
              intro ac wc hU
              have e13 : slot ac 13 = .slice (some ⟨gx, 0, none⟩) N cx := (hU.keep 13 (by kernel_rfl)).trans rfl
              have e67 : (Gd.eq (.bool false)).p (slot ac 67) wc := hU.dep 17 67 (by kernel_rfl)
              exact step_skip ((wanted_some rfl rfl e67).trans rfl) trivial
            case s19 =>
              intro ac wc hU
              have e68 : (Gd.any).p (slot ac 68) wc := hU.dep 18 68 (by kernel_rfl)
              have e67 : (Gd.eq (.bool false)).p (slot ac 67) wc := hU.dep 17 67 (by kernel_rfl)
              exact step_skip ((wanted_some rfl rfl e67).trans rfl) trivial
            case s20 =>
              intro ac wc hU
              have e17 : slot ac 17 = vy := (hU.keep 17 (by kernel_rfl)).trans rfl
              have e67 : (Gd.eq (.bool false)).p (slot ac 67) wc := hU.dep 17 67 (by kernel_rfl)
              exact step_skip ((wanted_some rfl rfl e67).trans rfl) trivial
            case s21 =>
              intro ac wc hU
              have e70 : (Gd.any).p (slot ac 70) wc := hU.dep 20 70 (by kernel_rfl)
              have e67 : (Gd.eq (.bool false)).p (slot ac 67) wc := hU.dep 17 67 (by kernel_rfl)
              exact step_skip ((wanted_some rfl rfl e67).trans rfl) trivial
            case s22 =>
              intro ac wc hU
              have e69 : (Gd.any).p (slot ac 69) wc := hU.dep 19 69 (by kernel_rfl)
              have e71 : (Gd.any).p (slot ac 71) wc := hU.dep 21 71 (by kernel_rfl)
              have e67 : (Gd.eq (.bool false)).p (slot ac 67) wc := hU.dep 17 67 (by kernel_rfl)
              exact step_skip ((wanted_some rfl rfl e67).trans rfl) trivial
            case s23 =>
              intro ac wc hU
              have e6 : slot ac 6 = .pointer (some ⟨w.heap.size, 0, none⟩) := (hU.keep 6 (by kernel_rfl)).trans rfl
              have e67 : (Gd.eq (.bool false)).p (slot ac 67) wc := hU.dep 17 67 (by kernel_rfl)
              exact step_skip ((wanted_some rfl rfl e67).trans rfl) trivial
            case s24 =>
              intro ac wc hU
              have e7 : slot ac 7 = .pointer (some ⟨w.heap.size + 1, 0, none⟩) := (hU.keep 7 (by kernel_rfl)).trans rfl
              have e67 : (Gd.eq (.bool false)).p (slot ac 67) wc := hU.dep 17 67 (by kernel_rfl)
              exact step_skip ((wanted_some rfl rfl e67).trans rfl) trivial
            case s25 =>
              intro ac wc hU
              have e73 : (Gd.any).p (slot ac 73) wc := hU.dep 23 73 (by kernel_rfl)
              have e74 : (Gd.any).p (slot ac 74) wc := hU.dep 24 74 (by kernel_rfl)
              have e67 : (Gd.eq (.bool false)).p (slot ac 67) wc := hU.dep 17 67 (by kernel_rfl)
              exact step_skip ((wanted_some rfl rfl e67).trans rfl) trivial
            case s26 =>
              intro ac wc hU
              have e72 : (Gd.any).p (slot ac 72) wc := hU.dep 22 72 (by kernel_rfl)
              have e75 : (Gd.any).p (slot ac 75) wc := hU.dep 25 75 (by kernel_rfl)
              have e67 : (Gd.eq (.bool false)).p (slot ac 67) wc := hU.dep 17 67 (by kernel_rfl)
              exact step_skip ((wanted_some rfl rfl e67).trans rfl) trivial
            case s27 =>
              intro ac wc hU
              have e67 : (Gd.eq (.bool false)).p (slot ac 67) wc := hU.dep 17 67 (by kernel_rfl)
              have e76 : (Gd.any).p (slot ac 76) wc := hU.dep 26 76 (by kernel_rfl)
              have e64 : (Gd.eq (.bool false)).p (slot ac 64) wc := hU.dep 14 64 (by kernel_rfl)
              refine step_val ((wanted_some rfl rfl e64).trans rfl) (run_pick (b := false) rfl (by rw [eval_tmp]; exact e67)) ?_
              show (Gd.eq (Value.bool false)).p (if false = true then _ else _) wc
              rw [if_neg (by decide)]
              exact (rfl)
            case s28 =>
              intro ac wc hU
              have e64 : (Gd.eq (.bool false)).p (slot ac 64) wc := hU.dep 14 64 (by kernel_rfl)
              have e77 : (Gd.eq (Value.bool false)).p (slot ac 77) wc := hU.dep 27 77 (by kernel_rfl)
              refine step_val (wanted_none rfl) (run_pick (b := false) rfl (by rw [eval_tmp]; exact e64)) ?_
              show (Gd.eq (Value.bool false)).p (if false = true then _ else _) wc
              rw [if_neg (by decide)]
              exact (by rw [eval_tmp]; exact e77)
          · intro ac wc hU
            have hlit := act_puts hU (by kernel_rfl) [50, 51, 52, 53, 54, 55, 56, 57, 58, 59, 60, 61, 62, 63, 64, 65, 66, 67, 68, 69, 70, 71, 72, 73, 74, 75, 76, 77, 78] (by kernel_rfl)
            have f50 : slot ac 50 = .int .i64 0 := hU.last 0 50 (by kernel_rfl)
            have f51 : slot ac 51 = .bool false := hU.last 1 51 (by kernel_rfl)
            have f52 : slot ac 52 = .bool false := hU.last 2 52 (by kernel_rfl)
            have f53 : slot ac 53 = .agg (pgC p u) := hU.last 3 53 (by kernel_rfl)
            have f54 : slot ac 54 = .agg (pgC p vq) := hU.last 4 54 (by kernel_rfl)
            have f55 : slot ac 55 = .bool true := hU.last 5 55 (by kernel_rfl)
            have f56 : slot ac 56 = .bool false := hU.last 6 56 (by kernel_rfl)
            have f57 : slot ac 57 = .bool false := hU.last 7 57 (by kernel_rfl)
            have f58 : slot ac 58 = .bool false := hU.last 8 58 (by kernel_rfl)
            have f59 : slot ac 59 = .slice (some ⟨gx, 0, none⟩) N cx := hU.last 9 59 (by kernel_rfl)
            have f60 : slot ac 60 = .int .i64 (N : Int) := hU.last 10 60 (by kernel_rfl)
            have f61 : slot ac 61 = .int .i64 (N : Int) := hU.last 11 61 (by kernel_rfl)
            have f62 : slot ac 62 = .bool false := hU.last 12 62 (by kernel_rfl)
            have f63 : slot ac 63 = .bool false := hU.last 13 63 (by kernel_rfl)
            have f64 : slot ac 64 = .bool false := hU.last 14 64 (by kernel_rfl)
            have f65 : slot ac 65 = .int .i64 eo := hU.last 15 65 (by kernel_rfl)
            have f66 : slot ac 66 = .bool false := hU.last 16 66 (by kernel_rfl)
            have f67 : slot ac 67 = .bool false := hU.last 17 67 (by kernel_rfl)
            have f77 : slot ac 77 = Value.bool false := hU.last 27 77 (by kernel_rfl)
            have f78 : slot ac 78 = Value.bool false := hU.last 28 78 (by kernel_rfl)
            have HB7 := Lib.hid hU.below
            simp only [puts, List.foldl, Act.put, List.setIfInBounds_toArray, List.set_cons_zero, List.set_cons_succ, f50, f51, f52, f53, f54, f55, f56, f57, f58, f59, f60, f61, f62, f63, f64, f65, f66, f67, f77, f78] at hlit
            rw [hlit]
            clear hlit hU f50 f51 f52 f53 f54 f55 f56 f57 f58 f59 f60 f61 f62 f63 f64 f65 f66 f67 f77 f78
            go_wp2
            go_meet
            exact ⟨rfl, HB7⟩
        | true =>
          have HQ : Hid ((eo == 0) = true) := by show _ = _; rw [← HEO.out]; unfold putE; rw [hmo]; rfl
          have HD := Lib.hid (HD0.out hmo)
          clear hmo
          go_wp2_with fail
          refine region_slots (by kernel_rfl) (by kernel_rfl) (Gof [Gd.eq (.int .i64 0), Gd.eq (.bool false), Gd.eq (.bool false), Gd.eq (.agg (pgC p u)), Gd.eq (.agg (pgC p vq)), Gd.eq (.bool true), Gd.eq (.bool false), Gd.eq (.bool false), Gd.eq (.bool false), Gd.eq (.slice (some ⟨gx, 0, none⟩) N cx), Gd.eq (.int .i64 (N : Int)), Gd.eq (.int .i64 (N : Int)), Gd.eq (.bool false), Gd.eq (.bool false), Gd.eq (.bool false), Gd.eq (.int .i64 eo), Gd.eq (.bool true), Gd.eq (.bool true), Gd.eq (.slice (some ⟨gx, 0, none⟩) N cx), Gd.eq (.string (bs X)), Gd.eq (vy), Gd.eq (.string (bs Y)), Gd.eq (.bool d), Gd.eq (.agg (pgC p u)), Gd.eq (.agg (pgC o v)), Gd.eq (.bool d), Gd.eq (.bool false), Gd.eq (.bool false), Gd.eq (.bool false)]) (Gof_st _) (steps_all ?_) ?_
          · dsimp only
            refine StepsFrom.cons ?s0 (StepsFrom.cons ?s1 (StepsFrom.cons ?s2 (StepsFrom.cons ?s3 (StepsFrom.cons ?s4 (StepsFrom.cons ?s5 (StepsFrom.cons ?s6 (StepsFrom.cons ?s7 (StepsFrom.cons ?s8 (StepsFrom.cons ?s9 (StepsFrom.cons ?s10 (StepsFrom.cons ?s11 (StepsFrom.cons ?s12 (StepsFrom.cons ?s13 (StepsFrom.cons ?s14 (StepsFrom.cons ?s15 (StepsFrom.cons ?s16 (StepsFrom.cons ?s17 (StepsFrom.cons ?s18 (StepsFrom.cons ?s19 (StepsFrom.cons ?s20 (StepsFrom.cons ?s21 (StepsFrom.cons ?s22 (StepsFrom.cons ?s23 (StepsFrom.cons ?s24 (StepsFrom.cons ?s25 (StepsFrom.cons ?s26 (StepsFrom.cons ?s27 (StepsFrom.cons ?s28 StepsFrom.nil))))))))))))))))))))))))))))
            case s0 =>
              intro ac wc hU
              have e16 : slot ac 16 = .int .i64 0 := (hU.keep 16 (by kernel_rfl)).trans rfl
              refine step_val (wanted_none rfl) (run_move rfl) ?_
              show (Gd.eq (.int .i64 0)).p _ wc
              exact (by rw [eval_tmp]; exact e16)
            case s1 =>
              intro ac wc hU
              have e50 : (Gd.eq (.int .i64 0)).p (slot ac 50) wc := hU.dep 0 50 (by kernel_rfl)
              refine step_val (wanted_none rfl) (v := .bool false) ?_ rfl
              have e50 : slot ac 50 = .int .i64 0 := e50
              simp [execOp, eval_tmp, eval_const, e50] <;> go_simp
            case s2 =>
              intro ac wc hU
              have e51 : (Gd.eq (.bool false)).p (slot ac 51) wc := hU.dep 1 51 (by kernel_rfl)
              refine step_val (wanted_none rfl) (run_move rfl) ?_
              show (Gd.eq (.bool false)).p _ wc
              exact (by rw [eval_tmp]; exact e51)
            case s3 =>
              intro ac wc hU
              have e6 : slot ac 6 = .pointer (some ⟨w.heap.size, 0, none⟩) := (hU.keep 6 (by kernel_rfl)).trans rfl
              have e52 : (Gd.eq (.bool false)).p (slot ac 52) wc := hU.dep 2 52 (by kernel_rfl)
              refine step_val ((wanted_some rfl rfl e52).trans rfl) (v := .agg (pgC p u)) ?_ rfl
              have ld := (HL5.out wc hU.below).1
              have e6 : slot ac 6 = .pointer (some ⟨w.heap.size, 0, none⟩) := e6
              simp [execOp, eval_tmp, e6] <;> go_simp
            case s4 =>
              intro ac wc hU
              have e15 : slot ac 15 = .pointer (some ⟨w3.heap.size, 0, none⟩) := (hU.keep 15 (by kernel_rfl)).trans rfl
              have e52 : (Gd.eq (.bool false)).p (slot ac 52) wc := hU.dep 2 52 (by kernel_rfl)
              refine step_val ((wanted_some rfl rfl e52).trans rfl) (v := .agg (pgC p vq)) ?_ rfl
              have ld := (HL5.out wc hU.below).2.1
              have e15 : slot ac 15 = .pointer (some ⟨w3.heap.size, 0, none⟩) := e15
              simp [execOp, eval_tmp, e15] <;> go_simp
            case s5 =>
              intro ac wc hU
              have e53 : (Gd.eq (.agg (pgC p u))).p (slot ac 53) wc := hU.dep 3 53 (by kernel_rfl)
              have e54 : (Gd.eq (.agg (pgC p vq))).p (slot ac 54) wc := hU.dep 4 54 (by kernel_rfl)
              have e52 : (Gd.eq (.bool false)).p (slot ac 52) wc := hU.dep 2 52 (by kernel_rfl)
              refine step_call ((wanted_some rfl rfl e52).trans rfl) (f := 11) (args := #[(.agg (pgC p u)), (.agg (pgC p vq))]) ?_ ?_
              · have e53 : slot ac 53 = .agg (pgC p u) := e53
                have e54 : slot ac 54 = .agg (pgC p vq) := e54
                simp [execOp, resolve, invoke, eval_tmp, e53, e54] <;> go_simp
              · refine (HS5.out wc hU.below).mono ?_
                rintro e w' ⟨rfl, hb⟩; exact ⟨_, rfl, hb, rfl⟩
            case s6 =>
              intro ac wc hU
              have e55 : (Gd.eq (.bool true)).p (slot ac 55) wc := hU.dep 5 55 (by kernel_rfl)
              have e52 : (Gd.eq (.bool false)).p (slot ac 52) wc := hU.dep 2 52 (by kernel_rfl)
              refine step_val ((wanted_some rfl rfl e52).trans rfl) (v := .bool false) ?_ rfl
              have e55 : slot ac 55 = .bool true := e55
              simp [execOp, eval_tmp, e55] <;> go_simp
            case s7 =>
              intro ac wc hU
              have e52 : (Gd.eq (.bool false)).p (slot ac 52) wc := hU.dep 2 52 (by kernel_rfl)
              have e56 : (Gd.eq (.bool false)).p (slot ac 56) wc := hU.dep 6 56 (by kernel_rfl)
              refine step_val (wanted_none rfl) (run_pick (b := false) rfl (by rw [eval_tmp]; exact e52)) ?_
              show (Gd.eq (.bool false)).p (if false = true then _ else _) wc
              rw [if_neg (by decide)]
              exact (by rw [eval_tmp]; exact e56)
            case s8 =>
              intro ac wc hU
              have e57 : (Gd.eq (.bool false)).p (slot ac 57) wc := hU.dep 7 57 (by kernel_rfl)
              refine step_val (wanted_none rfl) (run_move rfl) ?_
              show (Gd.eq (.bool false)).p _ wc
              exact (by rw [eval_tmp]; exact e57)
            case s9 =>
              intro ac wc hU
              have e13 : slot ac 13 = .slice (some ⟨gx, 0, none⟩) N cx := (hU.keep 13 (by kernel_rfl)).trans rfl
              have e58 : (Gd.eq (.bool false)).p (slot ac 58) wc := hU.dep 8 58 (by kernel_rfl)
              refine step_val ((wanted_some rfl rfl e58).trans rfl) (run_move rfl) ?_
              show (Gd.eq (.slice (some ⟨gx, 0, none⟩) N cx)).p _ wc
              exact (by rw [eval_tmp]; exact e13)
            case s10 =>
              intro ac wc hU
              have e59 : (Gd.eq (.slice (some ⟨gx, 0, none⟩) N cx)).p (slot ac 59) wc := hU.dep 9 59 (by kernel_rfl)
              have e58 : (Gd.eq (.bool false)).p (slot ac 58) wc := hU.dep 8 58 (by kernel_rfl)
              refine step_val ((wanted_some rfl rfl e58).trans rfl) (v := .int .i64 (N : Int)) ?_ rfl
              have e59 : slot ac 59 = .slice (some ⟨gx, 0, none⟩) N cx := e59
              simp [execOp, resolve, invoke, builtin, eval_tmp, e59] <;> go_simp
            case s11 =>
              intro ac wc hU
              have e2 : slot ac 2 = .int .i64 (N : Int) := (hU.keep 2 (by kernel_rfl)).trans rfl
              have e58 : (Gd.eq (.bool false)).p (slot ac 58) wc := hU.dep 8 58 (by kernel_rfl)
              refine step_val ((wanted_some rfl rfl e58).trans rfl) (run_move rfl) ?_
              show (Gd.eq (.int .i64 (N : Int))).p _ wc
              exact (by rw [eval_tmp]; exact e2)
            case s12 =>
              intro ac wc hU
              have e60 : (Gd.eq (.int .i64 (N : Int))).p (slot ac 60) wc := hU.dep 10 60 (by kernel_rfl)
              have e61 : (Gd.eq (.int .i64 (N : Int))).p (slot ac 61) wc := hU.dep 11 61 (by kernel_rfl)
              have e58 : (Gd.eq (.bool false)).p (slot ac 58) wc := hU.dep 8 58 (by kernel_rfl)
              refine step_val ((wanted_some rfl rfl e58).trans rfl) (v := .bool false) ?_ rfl
              have e60 : slot ac 60 = .int .i64 (N : Int) := e60
              have e61 : slot ac 61 = .int .i64 (N : Int) := e61
              simp [execOp, eval_tmp, e60, e61] <;> go_simp
            case s13 =>
              intro ac wc hU
              have e58 : (Gd.eq (.bool false)).p (slot ac 58) wc := hU.dep 8 58 (by kernel_rfl)
              have e62 : (Gd.eq (.bool false)).p (slot ac 62) wc := hU.dep 12 62 (by kernel_rfl)
              refine step_val (wanted_none rfl) (run_pick (b := false) rfl (by rw [eval_tmp]; exact e58)) ?_
              show (Gd.eq (.bool false)).p (if false = true then _ else _) wc
              rw [if_neg (by decide)]
              exact (by rw [eval_tmp]; exact e62)
            case s14 =>
              intro ac wc hU
              have e63 : (Gd.eq (.bool false)).p (slot ac 63) wc := hU.dep 13 63 (by kernel_rfl)
              refine step_val (wanted_none rfl) (run_move rfl) ?_
              show (Gd.eq (.bool false)).p _ wc
              exact (by rw [eval_tmp]; exact e63)
            case s15 =>
              intro ac wc hU
              have e18 : slot ac 18 = .int .i64 eo := (hU.keep 18 (by kernel_rfl)).trans rfl
              have e64 : (Gd.eq (.bool false)).p (slot ac 64) wc := hU.dep 14 64 (by kernel_rfl)
              refine step_val ((wanted_some rfl rfl e64).trans rfl) (run_move rfl) ?_
              show (Gd.eq (.int .i64 eo)).p _ wc
              exact (by rw [eval_tmp]; exact e18)
            case s16 =>
              intro ac wc hU
              have e65 : (Gd.eq (.int .i64 eo)).p (slot ac 65) wc := hU.dep 15 65 (by kernel_rfl)
              have e64 : (Gd.eq (.bool false)).p (slot ac 64) wc := hU.dep 14 64 (by kernel_rfl)
              refine step_val ((wanted_some rfl rfl e64).trans rfl) (v := .bool true) ?_ rfl
              have hq := HQ.out
              have e65 : slot ac 65 = .int .i64 eo := e65
              simp [execOp, eval_tmp, eval_const, e65] <;> go_simp
            case s17 =>
              intro ac wc hU
              have e66 : (Gd.eq (.bool true)).p (slot ac 66) wc := hU.dep 16 66 (by kernel_rfl)
              have e64 : (Gd.eq (.bool false)).p (slot ac 64) wc := hU.dep 14 64 (by kernel_rfl)
              refine step_val ((wanted_some rfl rfl e64).trans rfl) (run_move rfl) ?_
              show (Gd.eq (.bool true)).p _ wc
              exact (by rw [eval_tmp]; exact e66)
            case s18 =>
              intro ac wc hU
              have e13 : slot ac 13 = .slice (some ⟨gx, 0, none⟩) N cx := (hU.keep 13 (by kernel_rfl)).trans rfl
              have e67 : (Gd.eq (.bool true)).p (slot ac 67) wc := hU.dep 17 67 (by kernel_rfl)
              refine step_val ((wanted_some rfl rfl e67).trans rfl) (run_move rfl) ?_
              show (Gd.eq (.slice (some ⟨gx, 0, none⟩) N cx)).p _ wc
              exact (by rw [eval_tmp]; exact e13)
            case s19 =>
              intro ac wc hU
              have e68 : (Gd.eq (.slice (some ⟨gx, 0, none⟩) N cx)).p (slot ac 68) wc := hU.dep 18 68 (by kernel_rfl)
              have e67 : (Gd.eq (.bool true)).p (slot ac 67) wc := hU.dep 17 67 (by kernel_rfl)
              refine step_val ((wanted_some rfl rfl e67).trans rfl) (run_conv rfl (by rw [eval_tmp, show slot ac 68 = _ from e68]; exact run_text (HL5.out wc hU.below).2.2.2.1)) rfl
            case s20 =>
              intro ac wc hU
              have e17 : slot ac 17 = vy := (hU.keep 17 (by kernel_rfl)).trans rfl
              have e67 : (Gd.eq (.bool true)).p (slot ac 67) wc := hU.dep 17 67 (by kernel_rfl)
              refine step_val ((wanted_some rfl rfl e67).trans rfl) (run_move rfl) ?_
              show (Gd.eq (vy)).p _ wc
              exact (by rw [eval_tmp]; exact e17)
            case s21 =>
              intro ac wc hU
              have e70 : (Gd.eq (vy)).p (slot ac 70) wc := hU.dep 20 70 (by kernel_rfl)
              have e67 : (Gd.eq (.bool true)).p (slot ac 67) wc := hU.dep 17 67 (by kernel_rfl)
              refine step_val ((wanted_some rfl rfl e67).trans rfl) (run_conv rfl (by rw [eval_tmp, show slot ac 70 = _ from e70]; exact run_text (HL5.out wc hU.below).2.2.2.2)) rfl
            case s22 =>
              intro ac wc hU
              have e69 : (Gd.eq (.string (bs X))).p (slot ac 69) wc := hU.dep 19 69 (by kernel_rfl)
              have e71 : (Gd.eq (.string (bs Y))).p (slot ac 71) wc := hU.dep 21 71 (by kernel_rfl)
              have e67 : (Gd.eq (.bool true)).p (slot ac 67) wc := hU.dep 17 67 (by kernel_rfl)
              refine step_val ((wanted_some rfl rfl e67).trans rfl) (v := .bool d) ?_ rfl
              have e69 : slot ac 69 = .string (bs X) := e69
              have e71 : slot ac 71 = .string (bs Y) := e71
              have tq := run_textEq X Y wc
              rw [HD.out] at tq
              simp [execOp, eval_tmp, e69, e71] <;> go_simp
            case s23 =>
              intro ac wc hU
              have e6 : slot ac 6 = .pointer (some ⟨w.heap.size, 0, none⟩) := (hU.keep 6 (by kernel_rfl)).trans rfl
              have e67 : (Gd.eq (.bool true)).p (slot ac 67) wc := hU.dep 17 67 (by kernel_rfl)
              refine step_val ((wanted_some rfl rfl e67).trans rfl) (v := .agg (pgC p u)) ?_ rfl
              have ld := (HL5.out wc hU.below).1
              have e6 : slot ac 6 = .pointer (some ⟨w.heap.size, 0, none⟩) := e6
              simp [execOp, eval_tmp, e6] <;> go_simp
            case s24 =>
              intro ac wc hU
              have e7 : slot ac 7 = .pointer (some ⟨w.heap.size + 1, 0, none⟩) := (hU.keep 7 (by kernel_rfl)).trans rfl
              have e67 : (Gd.eq (.bool true)).p (slot ac 67) wc := hU.dep 17 67 (by kernel_rfl)
              refine step_val ((wanted_some rfl rfl e67).trans rfl) (v := .agg (pgC o v)) ?_ rfl
              have ld := (HL5.out wc hU.below).2.2.1
              have e7 : slot ac 7 = .pointer (some ⟨w.heap.size + 1, 0, none⟩) := e7
              simp [execOp, eval_tmp, e7] <;> go_simp
            case s25 =>
              intro ac wc hU
              have e73 : (Gd.eq (.agg (pgC p u))).p (slot ac 73) wc := hU.dep 23 73 (by kernel_rfl)
              have e74 : (Gd.eq (.agg (pgC o v))).p (slot ac 74) wc := hU.dep 24 74 (by kernel_rfl)
              have e67 : (Gd.eq (.bool true)).p (slot ac 67) wc := hU.dep 17 67 (by kernel_rfl)
              refine step_call ((wanted_some rfl rfl e67).trans rfl) (f := 11) (args := #[(.agg (pgC p u)), (.agg (pgC o v))]) ?_ ?_
              · have e73 : slot ac 73 = .agg (pgC p u) := e73
                have e74 : slot ac 74 = .agg (pgC o v) := e74
                simp [execOp, resolve, invoke, eval_tmp, e73, e74] <;> go_simp
              · refine (HS25.out wc hU.below).mono ?_
                rintro e w' ⟨rfl, hb⟩; exact ⟨_, rfl, hb, rfl⟩
            case s26 =>
              intro ac wc hU
              have e72 : (Gd.eq (.bool d)).p (slot ac 72) wc := hU.dep 22 72 (by kernel_rfl)
              have e75 : (Gd.eq (.bool d)).p (slot ac 75) wc := hU.dep 25 75 (by kernel_rfl)
              have e67 : (Gd.eq (.bool true)).p (slot ac 67) wc := hU.dep 17 67 (by kernel_rfl)
              refine step_val ((wanted_some rfl rfl e67).trans rfl) (v := .bool false) ?_ rfl
              have e72 : slot ac 72 = .bool d := e72
              have e75 : slot ac 75 = .bool d := e75
              simp [execOp, eval_tmp, e72, e75] <;> go_simp
            case s27 =>
              intro ac wc hU
              have e67 : (Gd.eq (.bool true)).p (slot ac 67) wc := hU.dep 17 67 (by kernel_rfl)
              have e76 : (Gd.eq (.bool false)).p (slot ac 76) wc := hU.dep 26 76 (by kernel_rfl)
              have e64 : (Gd.eq (.bool false)).p (slot ac 64) wc := hU.dep 14 64 (by kernel_rfl)
              refine step_val ((wanted_some rfl rfl e64).trans rfl) (run_pick (b := true) rfl (by rw [eval_tmp]; exact e67)) ?_
              show (Gd.eq (.bool false)).p (if true = true then _ else _) wc
              rw [if_pos rfl]
              exact (by rw [eval_tmp]; exact e76)
            case s28 =>
              intro ac wc hU
              have e64 : (Gd.eq (.bool false)).p (slot ac 64) wc := hU.dep 14 64 (by kernel_rfl)
              have e77 : (Gd.eq (.bool false)).p (slot ac 77) wc := hU.dep 27 77 (by kernel_rfl)
              refine step_val (wanted_none rfl) (run_pick (b := false) rfl (by rw [eval_tmp]; exact e64)) ?_
              show (Gd.eq (.bool false)).p (if false = true then _ else _) wc
              rw [if_neg (by decide)]
              exact (by rw [eval_tmp]; exact e77)
          · intro ac wc hU
            have hlit := act_puts hU (by kernel_rfl) [50, 51, 52, 53, 54, 55, 56, 57, 58, 59, 60, 61, 62, 63, 64, 65, 66, 67, 68, 69, 70, 71, 72, 73, 74, 75, 76, 77, 78] (by kernel_rfl)
            have f50 : slot ac 50 = .int .i64 0 := hU.last 0 50 (by kernel_rfl)
            have f51 : slot ac 51 = .bool false := hU.last 1 51 (by kernel_rfl)
            have f52 : slot ac 52 = .bool false := hU.last 2 52 (by kernel_rfl)
            have f53 : slot ac 53 = .agg (pgC p u) := hU.last 3 53 (by kernel_rfl)
            have f54 : slot ac 54 = .agg (pgC p vq) := hU.last 4 54 (by kernel_rfl)
            have f55 : slot ac 55 = .bool true := hU.last 5 55 (by kernel_rfl)
            have f56 : slot ac 56 = .bool false := hU.last 6 56 (by kernel_rfl)
            have f57 : slot ac 57 = .bool false := hU.last 7 57 (by kernel_rfl)
            have f58 : slot ac 58 = .bool false := hU.last 8 58 (by kernel_rfl)
            have f59 : slot ac 59 = .slice (some ⟨gx, 0, none⟩) N cx := hU.last 9 59 (by kernel_rfl)
            have f60 : slot ac 60 = .int .i64 (N : Int) := hU.last 10 60 (by kernel_rfl)
            have f61 : slot ac 61 = .int .i64 (N : Int) := hU.last 11 61 (by kernel_rfl)
            have f62 : slot ac 62 = .bool false := hU.last 12 62 (by kernel_rfl)
            have f63 : slot ac 63 = .bool false := hU.last 13 63 (by kernel_rfl)
            have f64 : slot ac 64 = .bool false := hU.last 14 64 (by kernel_rfl)
            have f65 : slot ac 65 = .int .i64 eo := hU.last 15 65 (by kernel_rfl)
            have f66 : slot ac 66 = .bool true := hU.last 16 66 (by kernel_rfl)
            have f67 : slot ac 67 = .bool true := hU.last 17 67 (by kernel_rfl)
            have f68 : slot ac 68 = .slice (some ⟨gx, 0, none⟩) N cx := hU.last 18 68 (by kernel_rfl)
            have f69 : slot ac 69 = .string (bs X) := hU.last 19 69 (by kernel_rfl)
            have f70 : slot ac 70 = vy := hU.last 20 70 (by kernel_rfl)
            have f71 : slot ac 71 = .string (bs Y) := hU.last 21 71 (by kernel_rfl)
            have f72 : slot ac 72 = .bool d := hU.last 22 72 (by kernel_rfl)
            have f73 : slot ac 73 = .agg (pgC p u) := hU.last 23 73 (by kernel_rfl)
            have f74 : slot ac 74 = .agg (pgC o v) := hU.last 24 74 (by kernel_rfl)
            have f75 : slot ac 75 = .bool d := hU.last 25 75 (by kernel_rfl)
            have f76 : slot ac 76 = .bool false := hU.last 26 76 (by kernel_rfl)
            have f77 : slot ac 77 = .bool false := hU.last 27 77 (by kernel_rfl)
            have f78 : slot ac 78 = .bool false := hU.last 28 78 (by kernel_rfl)
            have HB7 := Lib.hid hU.below
            simp only [puts, List.foldl, Act.put, List.setIfInBounds_toArray, List.set_cons_zero, List.set_cons_succ, f50, f51, f52, f53, f54, f55, f56, f57, f58, f59, f60, f61, f62, f63, f64, f65, f66, f67, f68, f69, f70, f71, f72, f73, f74, f75, f76, f77, f78] at hlit
            rw [hlit]
            clear hlit hU f50 f51 f52 f53 f54 f55 f56 f57 f58 f59 f60 f61 f62 f63 f64 f65 f66 f67 f68 f69 f70 f71 f72 f73 f74 f75 f76 f77 f78
            go_wp2
            go_meet
            exact ⟨rfl, HB7⟩
      case rest =>
      obtain ⟨rfl, hbc⟩ := hcut
      have O7 := Lib.hid (OX5.out.later hbc.out)
      have B7 := Lib.hid (B5.out.trans (hbc.out.mono B5.out.size))
      have hN0 : 24 ≤ N := by omega
      have hN2 : N ≤ 256 := by omega
      clear hbc HL5 HS5 HS25 HD0
      go_wp2_with fail
      go_quiet (fail)
      rename_i nq
      have hqq : Below wc.heap.size wc (wc.drewN nq) := ⟨rfl, rfl, rfl, Nat.le_refl _, fun _ _ => rfl⟩
      have O9 := Lib.hid (O7.out.later hqq)
      have B9 := Lib.hid (B7.out.trans (hqq.mono B7.out.size))
      obtain ⟨x, hx, hx8⟩ := mod_nat i N (by omega)
      obtain ⟨y, hy, hy8⟩ := mod_nat k N (by omega)
      rw [hx, hy]
      obtain ⟨w9, hw9⟩ : ∃ w9, wc.drewN nq = w9 := ⟨_, rfl⟩
      rw [hw9] at O9 B9 ⊢
      clear hw9 hqq hx hy hi hk
      have HX8 := Lib.hid (And.intro hx8 hy8)
      have HF1 := Lib.hid (HFL.out x hx8)
      obtain ⟨z1, hz⟩ : ∃ z, X[x / 8]? = some z := ⟨_, List.getElem?_eq_getElem (by rw [HLN.out]; omega)⟩
      obtain ⟨hcell, hfr⟩ := O9.out.at hz
      unfold byV at hcell
      have hst := O9.out.store (x / 8) (z1 ^^^ UInt8.ofNat (2 ^ (x % 8)))
      rw [flip_eq hz] at hst
      unfold byV at hst
      rw [← flip_val z1 x] at hst
      have HLF : Hid ((flipB X x).length = N) := by show _ = _; rw [flipB_length]; exact HLN.out
      have HF2 : Hid (x ≠ y → readL (flipB (flipB X x) y) = (zeroP, 4)) := fun h => HFF.out x y hx8 hy8 h
      obtain ⟨L1, hL1⟩ : ∃ L, flipB X x = L := ⟨_, rfl⟩
      rw [hL1] at hst HF1 HF2 HLF
      obtain ⟨xq, hxq⟩ : ∃ q, x / 8 = q := ⟨_, rfl⟩
      obtain ⟨xr, hxr⟩ : ∃ r, x % 8 = r := ⟨_, rfl⟩
      have e1 : (x : Int) / 8 = (xq : Int) := by omega
      have e2 : (x : Int) % 8 = (xr : Int) := by omega
      have hqN : xq < N := by omega
      have hr8 : (xr : Int) < 8 := by omega
      rw [hxq] at hcell hfr hst
      rw [hxr] at hst
      have B10 := Lib.hid (B9.out.trans (hst.2.mono HB2S.out))
      have HRD1 := HREAD.out L1 _ _ (OwnB.rd hst.1)
      unfold ReadPost at HRD1
      rw [HF1.out] at HRD1
      dsimp only at HRD1
      unfold pgV at HRD1
      have HRD := Lib.hid HRD1
      have O10 := Lib.hid hst.1
      clear hst hL1 hxq hxr hz HRD1 hx8
      go_wp2_with fail
      with_reducible refine HRD.out.mono ?_
      rintro e w11 ⟨vf, rfl, hof, hbf⟩
      have O11 := O10.out.later hbf
      have B11 := B10.out.trans (hbf.mono B10.out.size)
      obtain ⟨st11, hb12, -⟩ := HSTORE.out w11 zeroP vf _ hof.rd
      have O12 := Lib.hid (O11.later hb12)
      have B12 := Lib.hid (B11.trans (hb12.mono B11.size))
      obtain ⟨W12, hW12⟩ : ∃ W, w11.alloc (.cells (pgC zeroP vf) 25) = W := ⟨_, rfl⟩
      rw [hW12] at st11 O12 B12
      clear hof hbf O11 B11 hb12 hW12 hcell hfr e1 e2 hqN hr8 HRD
      obtain ⟨z2, hz⟩ : ∃ z, L1[y / 8]? = some z := ⟨_, List.getElem?_eq_getElem (by rw [HLF.out]; omega)⟩
      obtain ⟨hcell, hfr⟩ := O12.out.at hz
      unfold byV at hcell
      have hst := O12.out.store (y / 8) (z2 ^^^ UInt8.ofNat (2 ^ (y % 8)))
      rw [flip_eq hz] at hst
      unfold byV at hst
      rw [← flip_val z2 y] at hst
      obtain ⟨L2, hL2⟩ : ∃ L, flipB L1 y = L := ⟨_, rfl⟩
      rw [hL2] at hst HF2
      obtain ⟨yq, hyq⟩ : ∃ q, y / 8 = q := ⟨_, rfl⟩
      obtain ⟨yr, hyr⟩ : ∃ r, y % 8 = r := ⟨_, rfl⟩
      have e1 : (y : Int) / 8 = (yq : Int) := by omega
      have e2 : (y : Int) % 8 = (yr : Int) := by omega
      have hqN : yq < N := by omega
      have hr8 : (yr : Int) < 8 := by omega
      rw [hyq] at hcell hfr hst
      rw [hyr] at hst
      have B13 := Lib.hid (B12.out.trans (hst.2.mono HB2S.out))
      have HRD1 := HREAD.out L2 _ _ (OwnB.rd hst.1)
      unfold ReadPost at HRD1
      obtain ⟨q2, hq2⟩ : ∃ q, (readL L2).1 = q := ⟨_, rfl⟩
      obtain ⟨f2, hf2⟩ : ∃ f, (readL L2).2 = f := ⟨_, rfl⟩
      have HFE : Hid (x ≠ y → f2 = 4) := fun h => by rw [← hf2, HF2.out h]
      rw [hq2, hf2] at HRD1
      unfold pgV at HRD1
      have HRD := Lib.hid HRD1
      clear hst hL2 hyq hyr hz HRD1 hy8 hq2 hf2
      go_wp2_with fail
      with_reducible refine HRD.out.mono ?_
      rintro e w14 ⟨vf2, rfl, hof, hbf⟩
      have B14 := B13.out.trans (hbf.mono B13.out.size)
      obtain ⟨st14, hb15, -⟩ := HSTORE.out w14 q2 vf2 _ hof.rd
      have B15 := Lib.hid (B14.trans (hb15.mono B14.size))
      obtain ⟨W15, hW15⟩ : ∃ W, w14.alloc (.cells (pgC q2 vf2) 25) = W := ⟨_, rfl⟩
      rw [hW15] at st14 B15
      clear hof hbf B14 hb15 hW15 hcell hfr e1 e2 hqN hr8 HRD
      by_cases hxy : x = y
      · have exy : ((x : Int) != (y : Int)) = false := by rw [bne_eq_false_iff_eq]; omega
        clear hxy
        go_wp2
        go_meet
        exact B15
      · have exy : ((x : Int) != (y : Int)) = true := by rw [bne_iff_ne]; omega
        have hf4 := HFE.out hxy
        subst hf4
        clear hxy
        go_wp2
        go_meet
        exact B15
  case rest =>
    have BC := hcut
    clear hcut OX B2
    obtain ⟨-, -, -, -, rb, -⟩ := HW.out wc BC.out
    by_cases h400 : (400 : Int) < lb
    · have FIN := Lib.hid (HW.out wc BC.out).2.2.2.2.2
      clear rb
      go_wp2
      go_ret
      exact ⟨rfl, FIN.out⟩
    · have HR1 := HREAD.out b _ wc rb
      have HPR := Lib.hid (fun (hk : (readL b).1.kind ≠ 0) => put_read (b := b) hk)
      have HNO := Lib.hid (read_none (b := b))
      unfold ReadPost at HR1
      obtain ⟨q, hq⟩ : ∃ q, (readL b).1 = q := ⟨_, rfl⟩
      obtain ⟨f, hf⟩ : ∃ f, (readL b).2 = f := ⟨_, rfl⟩
      rw [hq, hf] at HR1 HNO
      rw [hq] at HPR
      unfold pgV at HR1
      have HR := Lib.hid HR1
      clear HR1 hq hf rb
      go_wp2_with fail
      with_reducible refine HR.out.mono ?_
      rintro e w3 ⟨vq, rfl, hoq, hbq⟩
      have B3 := BC.out.trans (hbq.mono BC.out.size)
      obtain ⟨st3, hb4, hx4⟩ := HSTORE.out w3 q vq _ hoq.rd
      have RQ := Lib.hid (hoq.rd.later hb4)
      have B4 := Lib.hid (B3.trans (hb4.mono B3.size))
      obtain ⟨W4, hW4⟩ : ∃ W, w3.alloc (.cells (pgC q vq) 25) = W := ⟨_, rfl⟩
      rw [hW4] at st3 hx4 RQ B4
      have ck : W4.cell? ⟨w3.heap.size, 0, none⟩ = some (.int .i64 q.kind) := by rw [hx4.cell]; rfl
      have ld4 := hx4.load rfl
      clear hoq hbq B3 hb4 hW4 hx4
      by_cases hf0 : f = 0 ∧ q.kind ≠ 0
      · obtain ⟨hf0, hq0⟩ := hf0
        have e1 : (q.kind == 0) = false := by rw [beq_eq_false_iff_ne]; exact hq0
        obtain ⟨hm, hpb⟩ := HPR.out hq0
        have HP := HPUT.out q vq (lb : Int) W4 RQ.out
        have HME : Hid (putE q lb = 0) := by show _ = _; unfold putE; rw [← HLB.out, hm]; rfl
        have HMR : Hid (putR q lb = b) := by show _ = _; unfold putR; rw [← HLB.out, hm, Int.toNat_natCast]; exact hpb
        unfold PutPost at HP
        rw [HME.out, HMR.out] at HP
        have HPP := Lib.hid HP
        subst hf0
        clear hq0 hm hpb HP
        go_wp2_with fail
        with_reducible refine HPP.out.mono ?_
        rintro e w5 ⟨vz, rfl, hoz, hbz⟩
        have B5 := Lib.hid (B4.out.trans (hbz.mono B4.out.size))
        obtain ⟨-, -, -, -, rb5, fin⟩ := HW.out w5 B5.out
        have t1 := run_text hoz.rd
        have t2 := run_text rb5
        have tq := run_textEq b b w5
        rw [decide_eq_true rfl] at tq
        have FIN := Lib.hid fin
        clear hoz hbz rb5 fin ck ld4 st3 e1
        go_wp2
        go_ret
        exact ⟨rfl, FIN.out⟩
      · have hz : q = zeroP := HNO.out (by
          by_cases h1 : f = 0
          · exact .inr (Classical.byContradiction fun h2 => hf0 ⟨h1, h2⟩)
          · exact .inl h1)
        have HS := HSAME.out q zeroP vq (.slice none 0 0) W4 RQ.out (OwnB.nil W4 0).rd
        have hsq : sameB q zeroP = true := by rw [hz]; exact same_refl _
        rw [hsq] at HS
        have HS2 : Hid (Calls Try.prog 11 #[.agg (pgC q vq), .agg #[.int .i64 0, .int .i64 0, .int .u64 0, .slice none 0 0]] W4 fun e w' => e = .returned (.bool true) ∧ Below W4.heap.size W4 w') := HS
        have e0 : (q.kind == 0) = true := by rw [hz]; rfl
        clear hf0 hz HS hsq
        by_cases hf0 : f = 0
        · subst hf0
          go_wp2_with fail
          with_reducible refine HS2.out.mono ?_
          rintro e w5 ⟨rfl, hb5⟩
          have FIN := Lib.hid (HW.out w5 (B4.out.trans (hb5.mono B4.out.size))).2.2.2.2.2
          clear hb5 ck ld4 st3
          go_wp2
          go_ret
          exact ⟨rfl, FIN.out⟩
        · have hfb : (f != 0) = true := by rw [bne_iff_ne]; exact hf0
          clear hf0
          go_wp2_with fail
          with_reducible refine HS2.out.mono ?_
          rintro e w5 ⟨rfl, hb5⟩
          have FIN := Lib.hid (HW.out w5 (B4.out.trans (hb5.mono B4.out.size))).2.2.2.2.2
          clear hb5 ck ld4 st3
          go_wp2
          go_ret
          exact ⟨rfl, FIN.out⟩
end Go.Proofs.Ytkbnffjkilpdaaa.Page.pageTells
