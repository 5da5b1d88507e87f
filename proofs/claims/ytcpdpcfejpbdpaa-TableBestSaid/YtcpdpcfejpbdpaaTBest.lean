/- The statement TableBest, walked: every call of it hands back true. -/
import Derived.Test.YtcpdpcfejpbdpaaTabAwakeW
import Derived.Test.YtcpdpcfejpbdpaaTabLaws
import Derived.Test.YtcpdpcfejpbdpaaTabEq
import Derived.Deep.RegionHeld3
import Derived.Deep.QuietTactic
import Derived.BigQuiet
namespace Go.Proofs.Ytcpdpcfejpbdpaa.tableBest
open Go.RowKit Go.Sort Go.Shelf
attribute [local go_sem ↓] loadVar_key loadVar_pre loadVar_route storeVar_pre storeVar_route build_pre build_route build_key build_change buildSlice_rows buildSlice_chs binOp_rtEql

theorem rt_bits {w : World} {a : Addr} {r : Rt} (h : CellsAt w a (rl r)) : w.cell? a = some (.int .i64 r.pre.bits) ∧ w.cell? ⟨a.block, a.off + 1, none⟩ = some (.int .i64 r.pre.len) := by
  have h0 := h 0 (.int .i64 r.pre.bits) (by unfold rl pc; rfl)
  have h1 := h 1 (.int .i64 r.pre.len) (by unfold rl pc; rfl)
  rw [add_zero'] at h0
  exact ⟨h0, h1⟩

theorem run_keyLoad' {w : World} {b : Nat} {k : Nat → Nat} (h : w.rangeAt b 0 (kl k)) : (keyLoad ⟨b, 0, none⟩).run Try.prog w = .ok (.agg (kc k)) w :=
  run_keyLoad (fun j v hj => h j v (by simpa [kc] using hj))

set_option maxHeartbeats 1500000 in
set_option maxRecDepth 100000 in
theorem walk (l : List Rt) (k : Nat → Nat) (hk : Bytes16 k) (bits : Int) (v : Value) (w : World) (hR : Rd w v l) (hl : l.length ≤ 256) (hg : Good l) :
    Calls Try.prog 4 #[v, .agg (kc k), .int .i64 bits] w fun e w' => e = .returned (.bool true) ∧ Below w.heap.size w w' := by
  have hb0 : Below w.heap.size w (w.alloc (.cells (kc k) 24)) := (Below.refl _ _).alloc (Nat.le_refl _) _
  have hz0 : (w.alloc (.cells (kc k) 24)).heap.size = w.heap.size + 1 := by simp
  have rk := rowAt_new w (kc k) 24
  have T : ∀ W, Below (w.alloc (.cells (kc k) 24)).heap.size (w.alloc (.cells (kc k) 24)) W → (keyLoad ⟨w.heap.size, 0, none⟩).run Try.prog W = .ok (.agg (kc k)) W ∧ Rd W v l ∧ Below w.heap.size w W := fun W h =>
    ⟨run_keyLoad (rk.below h (by rw [hz0]; omega)), hR.later (hb0.trans (h.mono (by rw [hz0]; omega))), hb0.trans (h.mono (by rw [hz0]; omega))⟩
  have HT := Lib.hid T
  have RK := Lib.hid rk
  have C1 := awake_any (w.alloc (.cells (kc k) 24))
  have H1 := Lib.hid C1
  have H2 : Hid (∀ W, Rd W v l → Calls Try.prog 14 #[v] W fun e w' => e = .returned (.bool true) ∧ Below W.heap.size W w') := fun W h => by
    have := right_any l v W h
    rw [(right_iff l).2 ⟨hl, hg⟩] at this; exact this
  obtain ⟨a, cap, hv, -⟩ := rd_len hR
  have HR := Lib.hid hR
  obtain ⟨m, hm⟩ : ∃ m, m = l.length := ⟨_, rfl⟩
  rw [← hm] at hv hl
  have hlI : (m : Int) ≤ 256 := by omega
  have HM := Lib.hid hm
  have HG := Lib.hid hg
  have HK := Lib.hid hk
  subst hv
  obtain ⟨x, e, he⟩ : ∃ x e, bestL l k bits = (x, e) := ⟨_, _, rfl⟩
  have H3 : Hid (∀ W, Rd W (.slice a m cap) l → Calls Try.prog 10 #[.slice a m cap, .agg (kc k), .int .i64 bits] W (BestPost W (x, e))) := fun W h => by
    rw [← he]; exact best_any l k hk bits _ W h
  have HE := Lib.hid he
  clear T C1 hR hb0 hz0 rk hm hg hk he
  go_enter Try.func4, Try.ntmps4
  go_wp2_with fail
  refine H1.out.mono ?_
  rintro e1 w1 ⟨rfl, h1⟩
  obtain ⟨lk, rd, hb⟩ := HT.out w1 h1
  have RD := Lib.hid rd
  have HW1 := Lib.hid h1
  clear rd hb h1 lk
  go_wp2_with fail
  refine (H2.out _ RD.out).mono ?_
  rintro e1 w2 ⟨rfl, h2⟩
  have HW2 := Lib.hid (HW1.out.trans (h2.mono HW1.out.size))
  obtain ⟨lk, rd, hb⟩ := HT.out w2 HW2.out
  clear RD h2 HW1
  have RD := Lib.hid rd
  clear rd hb
  go_wp2_with fail
  refine (H3.out _ RD.out).mono ?_
  rintro e1 w3 ⟨rfl, h3⟩
  have s3 := run_routeStore_new x w3
  have HW3 : Hid (Below (w.alloc (.cells (kc k) 24)).heap.size (w.alloc (.cells (kc k) 24)) (w3.alloc (.cells (rc x) 34))) := by
    have := HW2.out.trans (h3.mono HW2.out.size)
    exact this.alloc this.size _
  have NX := Lib.hid (newRoute w3 x)
  have HP : Hid (∀ r ∈ l, r.pre.bits = bits → fitsB r.pre k = true → e = 0 ∧ r.pre.len ≤ x.pre.len) := fun r hr hb hf => by
    rcases best_cases HG.out (by rw [← HM.out]; exact hl) HK.out bits with ⟨e', h1, -, -, h4⟩ | ⟨r', h1, h2⟩
    · rw [h4 r hr hb] at hf; cases hf
    · rw [HE.out] at h1
      simp only [Prod.mk.injEq] at h1
      obtain ⟨rfl, rfl⟩ := h1
      exact ⟨rfl, h2.most r hr hb hf⟩
  clear RD h3 HW2 lk
  go_wp2
  clear s3
  generalize hW3 : w3.alloc (.cells (rc x) 34) = W3 at *
  go_loopw [9] (fun i wr => ∃ n : Nat, n ≤ m ∧ i = .int .i64 n ∧ Hid (Below W3.heap.size W3 wr)) (fun i _ => m - (intOf i).toNat)
  case atStart => exact ⟨0, Nat.zero_le _, rfl, Below.refl _ _⟩
  case round =>
    obtain ⟨n, hn, rfl, HW⟩ := hrel
    by_cases hlt : n < m
    · have hltI : (n : Int) < m := by omega
      have hn0 : (0 : Int) ≤ n := by omega
      obtain ⟨r, hr⟩ : ∃ r, l[n]? = some r := ⟨l[n]'(by rw [← HM.out]; exact hlt), List.getElem?_eq_getElem _⟩
      have hrm : r ∈ l := List.mem_of_getElem? hr
      obtain ⟨a', rfl, hca⟩ : ∃ a', a = some a' ∧ CellsAt w (a'.add (n * 19)) (rl r) := by
        rcases HR.out with ⟨h, hnil⟩ | ⟨a', cap', h, _, _, hc⟩
        · exfalso; rw [hnil] at hr; cases hr
        · simp only [Value.slice.injEq] at h
          exact ⟨a', h.1, hc.route hr⟩
      have F : ∀ W, Below wr.heap.size wr W → (preLoad (a'.add (n * 19))).run Try.prog W = .ok (.agg (pc r.pre)) W ∧ W.rangeAt w.heap.size 0 (kl k) ∧ W.cell? (a'.add (n * 19)) = some (.int .i64 r.pre.bits) ∧ W.cell? ⟨(a'.add (n * 19)).block, (a'.add (n * 19)).off + 1, none⟩ = some (.int .i64 r.pre.len) ∧ W.cell? ⟨w3.heap.size, 1, none⟩ = some (.int .i64 x.pre.len) := fun W h => by
        have h3 := HW.out.trans (h.mono HW.out.size)
        obtain ⟨-, -, hbw⟩ := HT.out W (HW3.out.trans (h3.mono HW3.out.size))
        have lk := RK.out.below (HW3.out.trans (h3.mono HW3.out.size)) (by simp)
        have hc := hca.later hbw
        obtain ⟨g1, g2⟩ := rt_bits hc
        obtain ⟨-, g4⟩ := rt_bits (NX.out.below h3 (by rw [← hW3]; simp))
        exact ⟨run_preLoadA hc.pre, fun i v hv => lk i v (by simpa [kc] using hv), g1, g2, by simpa using g4⟩
      have HF := Lib.hid F
      have KF : Hid (∀ W, Below wr.heap.size wr W → (keyLoad ⟨w.heap.size, 0, none⟩).run Try.prog W = .ok (.agg (kc k)) W) := fun W h => (HT.out W (HW3.out.trans ((HW.out.trans (h.mono HW.out.size)).mono HW3.out.size))).1
      have HP1 := Lib.hid (HP.out r hrm)
      have hfx : ∀ W, Calls Try.prog 22 #[.agg (pc r.pre), .agg (kl k).toArray] W fun e w' => e = .returned (.bool (fitsB r.pre k)) ∧ Below W.heap.size W w' := fun W => fits_any r.pre k r.hk HK.out W
      have HFit := Lib.hid hfx
      obtain ⟨f1, f2, f3, f4, f5⟩ := F wr (Below.refl _ _)
      have hu := Try.underlying24
      have hi : (Try.prog.info? 24).map (·.size) = some (kl k).length := by rw [infoKey]; simp [kl]
      clear F hca hr hrm hfx
      by_cases hbit : r.pre.bits = bits
      · cases hfit : fitsB r.pre k with
        | true =>
          obtain ⟨rfl, hle⟩ := HP1.out hbit hfit
          rw [hfit] at HFit
          have hd : ((r.pre.bits : Int) == bits) = true := by rw [beq_iff_eq]; exact hbit
          have hd2 : decide (x.pre.len < r.pre.len) = false := by simpa using hle
          clear hbit hfit hle
          go_wp2
          go_region_held3 (fun w' => (preLoad (a'.add (n * 19))).run Try.prog w' = .ok (.agg (pc r.pre)) w' ∧ w'.rangeAt w.heap.size 0 (kl k) ∧ w'.cell? (a'.add (n * 19)) = some (.int .i64 r.pre.bits) ∧ w'.cell? ⟨(a'.add (n * 19)).block, (a'.add (n * 19)).off + 1, none⟩ = some (.int .i64 r.pre.len) ∧ w'.cell? ⟨w3.heap.size, 1, none⟩ = some (.int .i64 x.pre.len))
            (first | exact HF.out _ (Below.refl _ _) | exact HF.out _ h7 | exact HF.out _ h7.drew | exact HF.out _ (Below.refl _ _).drew)
            (first | (go_at_call 22; (with_reducible refine (HFit.out _).mono ?_); rintro e7 w7 ⟨rfl, h7'⟩; have h7 : Below wr.heap.size wr w7 := (Below.refl wr.heap.size wr).drew.trans h7'))
          all_goals
            clear hu hi f1 f2 f3 f4 f5 hd hd2
            have HH := Lib.hid h7
            clear h7 h7'
            go_wp2
            go_roundw
            case rel => exact ⟨n + 1, by omega, by go_num, HW.out.trans (HH.out.mono HW.out.size)⟩
            case measure => simp [intOf]; omega
        | false =>
          have hfy : ∀ W, Calls Try.prog 22 #[.agg (pc r.pre), .agg (kc k)] W fun e w' => e = .returned (.bool (fitsB r.pre k)) ∧ Below W.heap.size W w' := fun W => fits_any r.pre k r.hk HK.out W
          rw [hfit] at hfy
          have HFx := Lib.hid hfy
          have hd : ((r.pre.bits : Int) == bits) = true := by rw [beq_iff_eq]; exact hbit
          clear hbit hfit hfy
          go_wp2
          refine wp_region_held_drew (S := (fun w' => (preLoad (a'.add (n * 19))).run Try.prog w' = .ok (.agg (pc r.pre)) w' ∧ w'.rangeAt w.heap.size 0 (kl k) ∧ w'.cell? (a'.add (n * 19)) = some (.int .i64 r.pre.bits) ∧ w'.cell? ⟨(a'.add (n * 19)).block, (a'.add (n * 19)).off + 1, none⟩ = some (.int .i64 r.pre.len) ∧ w'.cell? ⟨w3.heap.size, 1, none⟩ = some (.int .i64 x.pre.len))) (by kernel_rfl) (HF.out _ (Below.refl wr.heap.size wr).drew) (fun hHeld => ?_)
          refine wpAnyH_take (i := 0) (oi := { dst := some 39, op := Op.move (Operand.tmp 0), type := 22, pos := "law.go:57", after := #[], guard := none }) (v := ?v0) rfl (by kernel_rfl) (by kernel_rfl) (by kernel_rfl) (fun _ _ _ h => h) (Or.inl ⟨by rfl, ?hy0⟩) (by assumption) ?rest0
          case hy0 => intro w hSw; (try dsimp only at hSw); go_simp; try with_reducible rfl
          try simp only [Act.put, List.setIfInBounds_toArray, List.set_cons_zero, List.set_cons_succ]
          refine wpAnyH_take (i := 1) (oi := { dst := some 40, op := Op.move (Operand.tmp 9), type := 3, pos := "law.go:57", after := #[], guard := none }) (v := ?v1) rfl (by kernel_rfl) (by kernel_rfl) (by kernel_rfl) (fun _ _ _ h => h) (Or.inl ⟨by rfl, ?hy1⟩) (by assumption) ?rest1
          case hy1 => intro w hSw; (try dsimp only at hSw); go_simp; try with_reducible rfl
          try simp only [Act.put, List.setIfInBounds_toArray, List.set_cons_zero, List.set_cons_succ]
          refine wpAnyH_take (i := 2) (oi := { dst := some 41, op := Op.indexAddr 22 (Operand.tmp 39) (Operand.tmp 40), type := 0, pos := "law.go:57", after := #[{ on := 0, ground := Ground.data }, { on := 1, ground := Ground.data }], guard := none }) (v := ?v2) rfl (by kernel_rfl) (by kernel_rfl) (by kernel_rfl) (fun _ _ _ h => h) (Or.inl ⟨by rfl, ?hy2⟩) (by assumption) ?rest2
          case hy2 => intro w hSw; (try dsimp only at hSw); go_simp; try with_reducible rfl
          try simp only [Act.put, List.setIfInBounds_toArray, List.set_cons_zero, List.set_cons_succ]
          refine wpAnyH_take (i := 3) (oi := { dst := some 42, op := Op.fieldAddr 34 (Operand.tmp 41) 0, type := 0, pos := "law.go:57", after := #[{ on := 2, ground := Ground.data }], guard := none }) (v := ?v3) rfl (by kernel_rfl) (by kernel_rfl) (by kernel_rfl) (fun _ _ _ h => h) (Or.inl ⟨by rfl, ?hy3⟩) (by assumption) ?rest3
          case hy3 => intro w hSw; (try dsimp only at hSw); go_simp; try with_reducible rfl
          try simp only [Act.put, List.setIfInBounds_toArray, List.set_cons_zero, List.set_cons_succ]
          refine wpAnyH_take (i := 4) (oi := { dst := some 43, op := Op.fieldAddr 26 (Operand.tmp 42) 0, type := 0, pos := "law.go:57", after := #[{ on := 3, ground := Ground.data }], guard := none }) (v := ?v4) rfl (by kernel_rfl) (by kernel_rfl) (by kernel_rfl) (fun _ _ _ h => h) (Or.inl ⟨by rfl, ?hy4⟩) (by assumption) ?rest4
          case hy4 => intro w hSw; (try dsimp only at hSw); go_simp; try with_reducible rfl
          try simp only [Act.put, List.setIfInBounds_toArray, List.set_cons_zero, List.set_cons_succ]
          refine wpAnyH_take (i := 5) (oi := { dst := some 44, op := Op.load 3 (Operand.tmp 43), type := 3, pos := "law.go:57", after := #[{ on := 4, ground := Ground.data }], guard := none }) (v := ?v5) rfl (by kernel_rfl) (by kernel_rfl) (by kernel_rfl) (fun _ _ _ h => h) (Or.inl ⟨by rfl, ?hy5⟩) (by assumption) ?rest5
          case hy5 => intro w hSw; (try dsimp only at hSw); go_simp; try with_reducible rfl
          try simp only [Act.put, List.setIfInBounds_toArray, List.set_cons_zero, List.set_cons_succ]
          refine wpAnyH_take (i := 6) (oi := { dst := some 45, op := Op.move (Operand.tmp 2), type := 3, pos := "law.go:57", after := #[], guard := none }) (v := ?v6) rfl (by kernel_rfl) (by kernel_rfl) (by kernel_rfl) (fun _ _ _ h => h) (Or.inl ⟨by rfl, ?hy6⟩) (by assumption) ?rest6
          case hy6 => intro w hSw; (try dsimp only at hSw); go_simp; try with_reducible rfl
          try simp only [Act.put, List.setIfInBounds_toArray, List.set_cons_zero, List.set_cons_succ]
          refine wpAnyH_take (i := 7) (oi := { dst := some 46, op := Op.binOp BinOp.eql 3 (Operand.tmp 44) (Operand.tmp 45) 3, type := 4, pos := "law.go:57", after := #[{ on := 5, ground := Ground.data }, { on := 6, ground := Ground.data }], guard := none }) (v := ?v7) rfl (by kernel_rfl) (by kernel_rfl) (by kernel_rfl) (fun _ _ _ h => h) (Or.inl ⟨by rfl, ?hy7⟩) (by assumption) ?rest7
          case hy7 => intro w hSw; (try dsimp only at hSw); go_simp; try with_reducible rfl
          try simp only [Act.put, List.setIfInBounds_toArray, List.set_cons_zero, List.set_cons_succ]
          refine wpAnyH_take (i := 8) (oi := { dst := some 47, op := Op.move (Operand.tmp 46), type := 4, pos := "law.go:57", after := #[{ on := 7, ground := Ground.data }], guard := none }) (v := ?v8) rfl (by kernel_rfl) (by kernel_rfl) (by kernel_rfl) (fun _ _ _ h => h) (Or.inl ⟨by rfl, ?hy8⟩) (by assumption) ?rest8
          case hy8 => intro w hSw; (try dsimp only at hSw); go_simp; try with_reducible rfl
          try simp only [Act.put, List.setIfInBounds_toArray, List.set_cons_zero, List.set_cons_succ]
          refine wpAnyH_take (i := 9) (oi := { dst := some 48, op := Op.move (Operand.tmp 0), type := 22, pos := "law.go:57", after := #[{ on := 8, ground := Ground.guard }], guard := some (8, true) }) (v := ?v9) rfl (by kernel_rfl) (by kernel_rfl) (by kernel_rfl) (fun _ _ _ h => h) (Or.inl ⟨by rfl, ?hy9⟩) (by assumption) ?rest9
          case hy9 => intro w hSw; (try dsimp only at hSw); go_simp; try with_reducible rfl
          try simp only [Act.put, List.setIfInBounds_toArray, List.set_cons_zero, List.set_cons_succ]
          refine wpAnyH_take (i := 10) (oi := { dst := some 49, op := Op.move (Operand.tmp 9), type := 3, pos := "law.go:57", after := #[{ on := 8, ground := Ground.guard }], guard := some (8, true) }) (v := ?v10) rfl (by kernel_rfl) (by kernel_rfl) (by kernel_rfl) (fun _ _ _ h => h) (Or.inl ⟨by rfl, ?hy10⟩) (by assumption) ?rest10
          case hy10 => intro w hSw; (try dsimp only at hSw); go_simp; try with_reducible rfl
          try simp only [Act.put, List.setIfInBounds_toArray, List.set_cons_zero, List.set_cons_succ]
          refine wpAnyH_take (i := 11) (oi := { dst := some 50, op := Op.indexAddr 22 (Operand.tmp 48) (Operand.tmp 49), type := 0, pos := "law.go:57", after := #[{ on := 9, ground := Ground.data }, { on := 10, ground := Ground.data }, { on := 8, ground := Ground.guard }], guard := some (8, true) }) (v := ?v11) rfl (by kernel_rfl) (by kernel_rfl) (by kernel_rfl) (fun _ _ _ h => h) (Or.inl ⟨by rfl, ?hy11⟩) (by assumption) ?rest11
          case hy11 => intro w hSw; (try dsimp only at hSw); go_simp; try with_reducible rfl
          try simp only [Act.put, List.setIfInBounds_toArray, List.set_cons_zero, List.set_cons_succ]
          refine wpAnyH_take (i := 12) (oi := { dst := some 51, op := Op.fieldAddr 34 (Operand.tmp 50) 0, type := 0, pos := "law.go:57", after := #[{ on := 11, ground := Ground.data }, { on := 8, ground := Ground.guard }], guard := some (8, true) }) (v := ?v12) rfl (by kernel_rfl) (by kernel_rfl) (by kernel_rfl) (fun _ _ _ h => h) (Or.inl ⟨by rfl, ?hy12⟩) (by assumption) ?rest12
          case hy12 => intro w hSw; (try dsimp only at hSw); go_simp; try with_reducible rfl
          try simp only [Act.put, List.setIfInBounds_toArray, List.set_cons_zero, List.set_cons_succ]
          refine wpAnyH_take (i := 13) (oi := { dst := some 52, op := Op.load 26 (Operand.tmp 51), type := 26, pos := "law.go:57", after := #[{ on := 12, ground := Ground.data }, { on := 8, ground := Ground.guard }], guard := some (8, true) }) (v := ?v13) rfl (by kernel_rfl) (by kernel_rfl) (by kernel_rfl) (fun _ _ _ h => h) (Or.inl ⟨by rfl, ?hy13⟩) (by assumption) ?rest13
          case hy13 => intro w hSw; (try dsimp only at hSw); go_simp; try with_reducible rfl
          try simp only [Act.put, List.setIfInBounds_toArray, List.set_cons_zero, List.set_cons_succ]
          refine wpAnyH_take (i := 14) (oi := { dst := some 53, op := Op.load 24 (Operand.tmp 4), type := 24, pos := "law.go:57", after := #[{ on := 8, ground := Ground.guard }], guard := some (8, true) }) (v := ?v14) rfl (by kernel_rfl) (by kernel_rfl) (by kernel_rfl) (fun _ _ _ h => h) (Or.inl ⟨by rfl, ?hy14⟩) (by assumption) ?rest14
          case hy14 => intro w hSw; obtain ⟨-, hSk, -⟩ := hSw; have hkl := run_keyLoad' hSk; go_simp; try with_reducible rfl
          try simp only [Act.put, List.setIfInBounds_toArray, List.set_cons_zero, List.set_cons_succ]
          refine wpAnyH_ready (rs := [15]) (by kernel_rfl) (by simp) ?_
          refine AllReadyH.cons (o := { dst := some 54, op := Op.call { callee := Callee.value (Operand.func 22), args := #[Operand.tmp 52, Operand.tmp 53], argTypes := #[26, 24] }, type := 4, pos := "law.go:57", after := #[{ on := 13, ground := Ground.data }, { on := 14, ground := Ground.data }, { on := 8, ground := Ground.chain }, { on := 8, ground := Ground.guard }], guard := some (8, true) }) rfl (fun K hK => ?_) AllReadyH.nil
          go_simp
          go_at_call 22
          refine (HFx.out _).mono ?_
          rintro e7 w7 ⟨rfl, h7'⟩
          have h7 : Below wr.heap.size wr w7 := (Below.refl wr.heap.size wr).drew.trans h7'
          go_simp
          refine hK.out _ _ (HF.out _ h7) (fun hHeld => ?_)
          clear hK K
          try simp only [Act.put, List.setIfInBounds_toArray, List.set_cons_zero, List.set_cons_succ]
          refine wpAnyH_take (i := 16) (oi := { dst := some 55, op := Op.pick (Operand.tmp 47) (Operand.tmp 54) (Operand.const (Value.bool false)), type := 4, pos := "law.go:57", after := #[{ on := 8, ground := Ground.data }, { on := 15, ground := Ground.data }], guard := none }) (v := ?v16) rfl (by kernel_rfl) (by kernel_rfl) (by kernel_rfl) (fun _ _ _ h => h) (Or.inl ⟨by rfl, ?hy16⟩) (by assumption) ?rest16
          case hy16 => intro w hSw; (try dsimp only at hSw); go_simp; try with_reducible rfl
          try simp only [Act.put, List.setIfInBounds_toArray, List.set_cons_zero, List.set_cons_succ]
          refine wpAnyH_take (i := 17) (oi := { dst := some 56, op := Op.move (Operand.tmp 55), type := 4, pos := "law.go:57", after := #[{ on := 16, ground := Ground.data }, { on := 15, ground := Ground.chain }], guard := none }) (v := ?v17) rfl (by kernel_rfl) (by kernel_rfl) (by kernel_rfl) (fun _ _ _ h => h) (Or.inl ⟨by rfl, ?hy17⟩) (by assumption) ?rest17
          case hy17 => intro w hSw; (try dsimp only at hSw); go_simp; try with_reducible rfl
          try simp only [Act.put, List.setIfInBounds_toArray, List.set_cons_zero, List.set_cons_succ]
          refine wpAnyH_take (i := 18) (oi := { dst := some 57, op := Op.move (Operand.tmp 8), type := 30, pos := "law.go:57", after := #[{ on := 17, ground := Ground.guard }], guard := some (17, true) }) rfl (by kernel_rfl) (by kernel_rfl) (by kernel_rfl) (fun _ _ _ h => h) (Or.inr ⟨by rfl, rfl⟩) (by assumption) ?_
          try simp only [Act.put, List.setIfInBounds_toArray, List.set_cons_zero, List.set_cons_succ]
          refine wpAnyH_take (i := 19) (oi := { dst := some 58, op := Op.binOp BinOp.neq 30 (Operand.tmp 57) (Operand.const (Value.int IntKind.i64 0)) 30, type := 4, pos := "law.go:57", after := #[{ on := 18, ground := Ground.data }, { on := 17, ground := Ground.guard }], guard := some (17, true) }) rfl (by kernel_rfl) (by kernel_rfl) (by kernel_rfl) (fun _ _ _ h => h) (Or.inr ⟨by rfl, rfl⟩) (by assumption) ?_
          try simp only [Act.put, List.setIfInBounds_toArray, List.set_cons_zero, List.set_cons_succ]
          refine wpAnyH_take (i := 20) (oi := { dst := some 59, op := Op.move (Operand.tmp 58), type := 4, pos := "law.go:57", after := #[{ on := 19, ground := Ground.data }, { on := 17, ground := Ground.chain }, { on := 17, ground := Ground.guard }], guard := some (17, true) }) rfl (by kernel_rfl) (by kernel_rfl) (by kernel_rfl) (fun _ _ _ h => h) (Or.inr ⟨by rfl, rfl⟩) (by assumption) ?_
          try simp only [Act.put, List.setIfInBounds_toArray, List.set_cons_zero, List.set_cons_succ]
          refine wpAnyH_take (i := 21) (oi := { dst := some 60, op := Op.move (Operand.tmp 0), type := 22, pos := "law.go:57", after := #[{ on := 20, ground := Ground.guard }], guard := some (20, false) }) rfl (by kernel_rfl) (by kernel_rfl) (by kernel_rfl) (fun _ _ _ h => h) (Or.inr ⟨by rfl, rfl⟩) (by assumption) ?_
          try simp only [Act.put, List.setIfInBounds_toArray, List.set_cons_zero, List.set_cons_succ]
          refine wpAnyH_take (i := 22) (oi := { dst := some 61, op := Op.move (Operand.tmp 9), type := 3, pos := "law.go:57", after := #[{ on := 20, ground := Ground.guard }], guard := some (20, false) }) rfl (by kernel_rfl) (by kernel_rfl) (by kernel_rfl) (fun _ _ _ h => h) (Or.inr ⟨by rfl, rfl⟩) (by assumption) ?_
          try simp only [Act.put, List.setIfInBounds_toArray, List.set_cons_zero, List.set_cons_succ]
          refine wpAnyH_take (i := 23) (oi := { dst := some 62, op := Op.indexAddr 22 (Operand.tmp 60) (Operand.tmp 61), type := 0, pos := "law.go:57", after := #[{ on := 21, ground := Ground.data }, { on := 22, ground := Ground.data }, { on := 20, ground := Ground.guard }], guard := some (20, false) }) rfl (by kernel_rfl) (by kernel_rfl) (by kernel_rfl) (fun _ _ _ h => h) (Or.inr ⟨by rfl, rfl⟩) (by assumption) ?_
          try simp only [Act.put, List.setIfInBounds_toArray, List.set_cons_zero, List.set_cons_succ]
          refine wpAnyH_take (i := 24) (oi := { dst := some 63, op := Op.fieldAddr 34 (Operand.tmp 62) 0, type := 0, pos := "law.go:57", after := #[{ on := 23, ground := Ground.data }, { on := 20, ground := Ground.guard }], guard := some (20, false) }) rfl (by kernel_rfl) (by kernel_rfl) (by kernel_rfl) (fun _ _ _ h => h) (Or.inr ⟨by rfl, rfl⟩) (by assumption) ?_
          try simp only [Act.put, List.setIfInBounds_toArray, List.set_cons_zero, List.set_cons_succ]
          refine wpAnyH_take (i := 25) (oi := { dst := some 64, op := Op.fieldAddr 26 (Operand.tmp 63) 1, type := 0, pos := "law.go:57", after := #[{ on := 24, ground := Ground.data }, { on := 20, ground := Ground.guard }], guard := some (20, false) }) rfl (by kernel_rfl) (by kernel_rfl) (by kernel_rfl) (fun _ _ _ h => h) (Or.inr ⟨by rfl, rfl⟩) (by assumption) ?_
          try simp only [Act.put, List.setIfInBounds_toArray, List.set_cons_zero, List.set_cons_succ]
          refine wpAnyH_take (i := 26) (oi := { dst := some 65, op := Op.load 3 (Operand.tmp 64), type := 3, pos := "law.go:57", after := #[{ on := 25, ground := Ground.data }, { on := 20, ground := Ground.guard }], guard := some (20, false) }) rfl (by kernel_rfl) (by kernel_rfl) (by kernel_rfl) (fun _ _ _ h => h) (Or.inr ⟨by rfl, rfl⟩) (by assumption) ?_
          try simp only [Act.put, List.setIfInBounds_toArray, List.set_cons_zero, List.set_cons_succ]
          refine wpAnyH_take (i := 27) (oi := { dst := some 66, op := Op.fieldAddr 34 (Operand.tmp 7) 0, type := 0, pos := "law.go:57", after := #[{ on := 20, ground := Ground.guard }], guard := some (20, false) }) rfl (by kernel_rfl) (by kernel_rfl) (by kernel_rfl) (fun _ _ _ h => h) (Or.inr ⟨by rfl, rfl⟩) (by assumption) ?_
          try simp only [Act.put, List.setIfInBounds_toArray, List.set_cons_zero, List.set_cons_succ]
          refine wpAnyH_take (i := 28) (oi := { dst := some 67, op := Op.fieldAddr 26 (Operand.tmp 66) 1, type := 0, pos := "law.go:57", after := #[{ on := 27, ground := Ground.data }, { on := 20, ground := Ground.guard }], guard := some (20, false) }) rfl (by kernel_rfl) (by kernel_rfl) (by kernel_rfl) (fun _ _ _ h => h) (Or.inr ⟨by rfl, rfl⟩) (by assumption) ?_
          try simp only [Act.put, List.setIfInBounds_toArray, List.set_cons_zero, List.set_cons_succ]
          refine wpAnyH_take (i := 29) (oi := { dst := some 68, op := Op.load 3 (Operand.tmp 67), type := 3, pos := "law.go:57", after := #[{ on := 28, ground := Ground.data }, { on := 20, ground := Ground.guard }], guard := some (20, false) }) rfl (by kernel_rfl) (by kernel_rfl) (by kernel_rfl) (fun _ _ _ h => h) (Or.inr ⟨by rfl, rfl⟩) (by assumption) ?_
          try simp only [Act.put, List.setIfInBounds_toArray, List.set_cons_zero, List.set_cons_succ]
          refine wpAnyH_take (i := 30) (oi := { dst := some 69, op := Op.binOp BinOp.gtr 3 (Operand.tmp 65) (Operand.tmp 68) 3, type := 4, pos := "law.go:57", after := #[{ on := 26, ground := Ground.data }, { on := 29, ground := Ground.data }, { on := 20, ground := Ground.guard }], guard := some (20, false) }) rfl (by kernel_rfl) (by kernel_rfl) (by kernel_rfl) (fun _ _ _ h => h) (Or.inr ⟨by rfl, rfl⟩) (by assumption) ?_
          try simp only [Act.put, List.setIfInBounds_toArray, List.set_cons_zero, List.set_cons_succ]
          refine wpAnyH_take (i := 31) (oi := { dst := some 70, op := Op.pick (Operand.tmp 59) (Operand.const (Value.bool true)) (Operand.tmp 69), type := 4, pos := "law.go:57", after := #[{ on := 20, ground := Ground.data }, { on := 30, ground := Ground.data }, { on := 17, ground := Ground.guard }], guard := some (17, true) }) rfl (by kernel_rfl) (by kernel_rfl) (by kernel_rfl) (fun _ _ _ h => h) (Or.inr ⟨by rfl, rfl⟩) (by assumption) ?_
          try simp only [Act.put, List.setIfInBounds_toArray, List.set_cons_zero, List.set_cons_succ]
          refine wpAnyH_take (i := 32) (oi := { dst := some 71, op := Op.pick (Operand.tmp 56) (Operand.tmp 70) (Operand.const (Value.bool false)), type := 4, pos := "law.go:57", after := #[{ on := 17, ground := Ground.data }, { on := 31, ground := Ground.data }], guard := none }) (v := ?v32) rfl (by kernel_rfl) (by kernel_rfl) (by kernel_rfl) (fun _ _ _ h => h) (Or.inl ⟨by rfl, ?hy32⟩) (by assumption) ?rest32
          case hy32 => intro w hSw; (try dsimp only at hSw); go_simp; try with_reducible rfl
          try simp only [Act.put, List.setIfInBounds_toArray, List.set_cons_zero, List.set_cons_succ]
          refine wpAnyH_done (by kernel_rfl) ?_ _
          all_goals
            clear hu hi f1 f2 f3 f4 f5 hd
            have HH := Lib.hid h7
            clear h7 h7'
            go_wp2
            go_roundw
            case rel => exact ⟨n + 1, by omega, by go_num, HW.out.trans (HH.out.mono HW.out.size)⟩
            case measure => simp [intOf]; omega
      · have hd : ((r.pre.bits : Int) == bits) = false := by rw [beq_eq_false_iff_ne]; exact hbit
        clear hbit hu hi
        go_wp2
        go_quiet (fail)
        clear f1 f2 f3 f4 f5 hd
        go_wp2
        go_roundw
        case rel => exact ⟨n + 1, by omega, by go_num, ⟨HW.out.os, HW.out.tape, HW.out.output, HW.out.size, HW.out.block⟩⟩
        case measure => simp [intOf]; omega
    · obtain rfl : n = m := by omega
      have F : ∀ W, Below W3.heap.size W3 W → (routeLoad ⟨w3.heap.size, 0, none⟩).run Try.prog W = .ok (.agg (rc x)) W ∧ (preLoad ⟨w3.heap.size, 0, none⟩).run Try.prog W = .ok (.agg (pc x.pre)) W ∧ (keyLoad ⟨w.heap.size, 0, none⟩).run Try.prog W = .ok (.agg (kc k)) W ∧ W.cell? ⟨w3.heap.size, 1, none⟩ = some (.int .i64 x.pre.len) ∧ W.cell? ⟨w3.heap.size, 18, none⟩ = some (.int .u16 (x.hop : Nat)) ∧ Rd W (.slice a n cap) l ∧ Below w.heap.size w W := fun W h => by
        obtain ⟨lk, rd, hbw⟩ := HT.out W (HW3.out.trans (h.mono HW3.out.size))
        have hc := NX.out.below h (by rw [← hW3]; simp)
        obtain ⟨-, g4⟩ := rt_bits hc
        have g5 := hc.hop
        rw [add_here, Nat.zero_add] at g5
        exact ⟨run_routeLoad hc, run_preLoadA hc.pre, lk, by simpa using g4, g5, rd, hbw⟩
      have HF := Lib.hid F
      obtain ⟨f1, f2, f3, f4, f5, f6, f7⟩ := F wr HW.out
      have F6 := Lib.hid f6
      have F7 := Lib.hid f7
      clear F f6 f7
      rcases best_cases HG.out (by rw [← HM.out]; exact hl) HK.out bits with ⟨e', h1, h2, -, -⟩ | ⟨r, h1, hr⟩
      · rw [HE.out] at h1
        simp only [Prod.mk.injEq] at h1
        obtain ⟨rfl, rfl⟩ := h1
        have hd : ((e : Int) == 0) = false := by rcases h2 with rfl | rfl <;> rfl
        have hd2 : ((e : Int) != 0) = true := by rcases h2 with rfl | rfl <;> rfl
        have rb := run_routeBuild0
        have re := run_rtEql zrt zrt
        have rz : rtEq zrt zrt = true := by kernel_rfl
        rw [rz] at re
        clear h2 rz f2 f3 f4 f5
        go_wp2
        go_ret
        exact ⟨rfl, F7.out⟩
      · rw [HE.out] at h1
        simp only [Prod.mk.injEq] at h1
        obtain ⟨hx, he0⟩ := h1
        subst hx
        subst he0
        have hmem := hr.mem
        have hl2 : l.length ≤ 256 := by rw [← HM.out]; exact hl
        have hgood := HG.out
        have hn1 : 1 ≤ n := by have := List.length_pos_of_mem hmem; have := HM.out; omega
        have HG1 : Hid (∀ W, Rd W (.slice a n cap) l → Calls Try.prog 9 #[.slice a n cap, .agg (pc x.pre)] W (GetPost W (x.hop, 0))) := fun W h => by
          have := get_any l x.pre x.hk _ W h
          rw [get_mem hgood hl2 hmem] at this; exact this
        have HFx : Hid (∀ W, Calls Try.prog 22 #[.agg (pc x.pre), .agg (kc k)] W fun e w' => e = .returned (.bool true) ∧ Below W.heap.size W w') := fun W => by
          have := fits_any x.pre k x.hk HK.out W
          rw [hr.fit] at this; exact this
        obtain ⟨q, hq⟩ : ∃ q, q = l.eraseIdx (idxL l x.pre) := ⟨_, rfl⟩
        have hgq : Good q := by rw [hq]; exact hgood.sub (List.eraseIdx_sublist _ _)
        have hlt' : idxL l x.pre < l.length := (List.getElem?_eq_some_iff.1 (idx_mem hgood hmem)).1
        have hql : q.length + 1 = n := by rw [hq, List.length_eraseIdx_of_lt hlt', ← HM.out]; omega
        obtain ⟨x0, hx0⟩ : ∃ x0 : Rt, x0 = { x with hop := 0, hh := by decide } := ⟨_, rfl⟩
        have HA : Hid (∀ W u, Rd W (.slice a n cap) l → RdC W u [⟨x0, true⟩] → Calls Try.prog 11 #[.slice a n cap, u] W (ApplyPost W (q, 0))) := fun W u h hc => by
          have := apply_any l [⟨x0, true⟩] _ u W h hc (by omega) (by simp)
          rw [apply_gone hgood hl2 hmem x0 (by rw [hx0])] at this
          rw [hq]; exact this
        obtain ⟨s, i, hsi⟩ : ∃ s i, bestL q k bits = (s, i) := ⟨_, _, rfl⟩
        have HB2 : Hid (∀ W u, Rd W u q → Calls Try.prog 10 #[u, .agg (kc k), .int .i64 bits] W (BestPost W (s, i))) := fun W u h => by
          rw [← hsi]; exact best_any q k HK.out bits u W h
        have HC : Hid (s = zrt ∧ i = 6 ∨ i = 0 ∧ s.pre.len < x.pre.len ∧ coversB s.pre x.pre = true) := by
          rcases best_cases hgq (by omega) HK.out bits with ⟨e', g1, -, g3, -⟩ | ⟨r', g1, g2⟩
          · rw [hsi] at g1
            simp only [Prod.mk.injEq] at g1
            have hw := may_whole HK.out x.hk hr.fit
            rw [hr.bit] at hw
            exact .inl ⟨g1.1, g1.2.trans (g3 hw)⟩
          · rw [hsi] at g1
            simp only [Prod.mk.injEq] at g1
            rw [← g1.1, hq] at g2
            obtain ⟨c1, c2⟩ := best_less hgood HK.out hr g2
            exact .inr ⟨g1.2, c1, c2⟩
        have HCV := Lib.hid (fun W => covers_any s.pre x.pre s.hk x.hk W)
        have b1 := run_routeBuildP x
        rw [← hx0] at b1
        have b2 := run_changeBuildG x0
        have b3 := run_chs1 ⟨x0, true⟩
        have HQ := Lib.hid hql
        clear f1 hr hmem hgood hq hgq hlt' hql hx0 hsi
        go_wp2_with fail
        refine (HG1.out _ F6.out).mono ?_
        rintro e5 w5 ⟨rfl, h5⟩
        have H5 : Hid (Below W3.heap.size W3 w5) := HW.out.trans (h5.mono HW.out.size)
        clear f2 f3 f4 f5 F6 F7 h5
        obtain ⟨-, f2, f3, f4, f5, f6, -⟩ := HF.out w5 H5.out
        clear f6
        go_wp2_with fail
        refine (HFx.out _).mono ?_
        rintro e6 w6 ⟨rfl, h6⟩
        have H6 : Hid (Below W3.heap.size W3 w6) := H5.out.trans (h6.mono H5.out.size)
        clear f2 f3 f4 f5 h6
        obtain ⟨-, f2, f3, f4, f5, f6, -⟩ := HF.out w6 H6.out
        have H6a : Hid (Below w6.heap.size w6 (w6.alloc (.cells (fc [⟨x0, true⟩]).toArray 52))) := (Below.refl _ _).alloc (Nat.le_refl _) _
        have F6 : Hid (Rd (w6.alloc (.cells (fc [⟨x0, true⟩]).toArray 52)) (.slice a n cap) l) := f6.later H6a.out
        have RC := Lib.hid (rdC_new w6 [⟨x0, true⟩] (by simp))
        clear f6
        go_wp2_with fail
        refine (HA.out _ _ F6.out RC.out).mono ?_
        rintro e7 w7 ⟨t, rfl, ho, h7⟩
        obtain ⟨a7, c7, ht, -⟩ := rd_len ho.rd
        obtain ⟨j, hj⟩ : ∃ j, j = q.length := ⟨_, rfl⟩
        rw [← hj] at ht
        subst ht
        have hj1 : j + 1 = n := by rw [hj]; exact HQ.out
        have hjd : ((j : Int) == (n : Int) - 1) = true := by rw [beq_iff_eq]; omega
        have hnI : (1 : Int) ≤ n := by omega
        have H7 : Hid (Below W3.heap.size W3 w7) := H6.out.trans ((H6a.out.trans (h7.mono H6a.out.size)).mono H6.out.size)
        have R7 := Lib.hid ho.rd
        clear f2 f3 f4 f5 h7 ho hj hj1 b1 b2 b3
        obtain ⟨-, f2, f3, f4, f5, f6, -⟩ := HF.out w7 H7.out
        clear f6
        go_wp2_with fail
        refine (HB2.out _ _ R7.out).mono ?_
        rintro e8 w8 ⟨rfl, h8⟩
        have s8 := run_routeStore_new s w8
        have H8 : Hid (Below W3.heap.size W3 (w8.alloc (.cells (rc s) 34))) := by
          have := H7.out.trans (h8.mono H7.out.size)
          exact this.alloc this.size _
        have n8 := newRoute w8 s
        obtain ⟨-, m8⟩ := rt_bits n8
        have p8 := run_preLoadA n8.pre
        have m8 : (w8.alloc (.cells (rc s) 34)).cell? ⟨w8.heap.size, 1, none⟩ = some (.int .i64 s.pre.len) := by simpa using m8
        clear f2 f3 f4 f5 h8 n8
        obtain ⟨-, f2, f3, f4, f5, f6, f7⟩ := HF.out _ H8.out
        have F7 := Lib.hid f7
        clear f6 f7
        rcases HC.out with ⟨rfl, rfl⟩ | ⟨rfl, hlen, hcv⟩
        · go_wp2
          go_ret
          exact ⟨rfl, F7.out⟩
        · have hd8 : decide (s.pre.len < x.pre.len) = true := by simpa using hlen
          rw [hcv] at HCV
          clear hlen hcv
          go_wp2_with fail
          refine (HCV.out _).mono ?_
          rintro e9 w9 ⟨rfl, h9⟩
          have F9 := Lib.hid (HF.out _ (H8.out.trans (h9.mono H8.out.size))).2.2.2.2.2.2
          clear h9
          go_wp2
          go_ret
          exact ⟨rfl, F9.out⟩
end Go.Proofs.Ytcpdpcfejpbdpaa.tableBest
