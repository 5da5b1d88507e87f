/- The statement TableUnder, walked: every call of it hands back true. -/
import Derived.Test.YtcpdpcfejpbdpaaTabAwakeW
import Derived.Test.YtcpdpcfejpbdpaaTabUndP
import Derived.Test.YtcpdpcfejpbdpaaTabEq
import Derived.Deep.RegionHeld3
namespace Go.Proofs.Ytcpdpcfejpbdpaa.tableUnder
open Go.RowKit Go.Sort Go.Shelf
attribute [local go_sem ↓] loadVar_key loadVar_pre loadVar_route storeVar_pre storeVar_route build_pre build_route build_key build_change buildSlice_rows buildSlice_chs binOp_preNeq

theorem run_preNeq (p q : Pre) (w : World) : (preNeq (.agg (pc p)) (.agg (pc q))).run Try.prog w = .ok (.bool (!preEq p q)) w := by
  unfold preNeq
  rw [run_neq_struct, run_equalPre 9996]; rfl

theorem rd_all {w : World} {a : Option Addr} {n cap : Nat} {l : List Rt} (h : Rd w (.slice a n cap) l) {i : Nat} {r : Rt} (hr : l[i]? = some r) : ∃ a', a = some a' ∧ CellsAt w a' (fl l) := by
  rcases h with ⟨h, hnil⟩ | ⟨a', cap', h, _, _, hc⟩
  · exfalso; rw [hnil] at hr; cases hr
  · simp only [Value.slice.injEq] at h
    exact ⟨a', h.1, hc⟩

set_option maxHeartbeats 4000000 in
set_option maxRecDepth 100000 in
theorem walk (l : List Rt) (p : Pre) (hp : Bytes16 p.key) (hpz : ∀ i, 16 ≤ i → p.key i = 0) (hm : mayB p = true) (k : Nat → Nat) (hk : Bytes16 k) (v : Value) (w : World) (hR : Rd w v l) (hl : l.length ≤ 100) (hg : Good l) :
    Calls Try.prog 7 #[v, .agg (pc p), .agg (kc k)] w fun e w' => e = .returned (.bool true) ∧ Below w.heap.size w w' := by
  obtain ⟨rp, rk, hb0, hz0⟩ := rows_two w (pc p) (kc k) 26 24
  obtain ⟨W0, hW0⟩ : ∃ W0, (w.alloc (.cells (pc p) 26)).alloc (.cells (kc k) 24) = W0 := ⟨_, rfl⟩
  have HW0 := Lib.hid hW0
  rw [hW0] at rp rk hb0 hz0
  have T : ∀ W, Below W0.heap.size W0 W → (preLoad ⟨w.heap.size, 0, none⟩).run Try.prog W = .ok (.agg (pc p)) W ∧ (keyLoad ⟨w.heap.size + 1, 0, none⟩).run Try.prog W = .ok (.agg (kc k)) W ∧ W.cell? ⟨w.heap.size, 0, none⟩ = some (.int .i64 p.bits) ∧ Rd W v l ∧ Below w.heap.size w W := fun W h => by
    have h1 := rp.below h (by omega)
    have h2 := hb0.trans (h.mono (by omega))
    have h3 := h1 0 (.int .i64 p.bits) (by unfold pc; rfl)
    exact ⟨run_preLoad h1, run_keyLoad (rk.below h (by omega)), h3, hR.later h2, h2⟩
  have HT := Lib.hid T
  have H1 := Lib.hid (awake_any W0)
  have H2 : Hid (∀ W, Rd W v l → Calls Try.prog 14 #[v] W fun e w' => e = .returned (.bool true) ∧ Below W.heap.size W w') := fun W h => by
    have := right_any l v W h
    rw [(right_iff l).2 ⟨by omega, hg⟩] at this; exact this
  have H3 : Hid (∀ W, Calls Try.prog 25 #[.agg (pc p)] W fun e w' => e = .returned (.bool true) ∧ Below W.heap.size W w') := fun W => by
    have := may_any p hp W
    rw [hm] at this; exact this
  have H4 : Hid (∀ W u, ∀ m : List Rt, Rd W u m → Calls Try.prog 12 #[u, .agg (pc p)] W (ListPost W (underL m p))) := fun W u m h => under_any m p hp u W h
  obtain ⟨a, cap, hv, -⟩ := rd_len hR
  obtain ⟨n0, hn0⟩ : ∃ n, n = l.length := ⟨_, rfl⟩
  rw [← hn0] at hv hl
  have HN0 := Lib.hid hn0
  have hlI : (n0 : Int) ≤ 100 := by omega
  have HL : Hid (n0 ≤ 100) := hl
  have HG := Lib.hid hg
  have HK := Lib.hid hk
  have HPZ := Lib.hid hpz
  have HPB := Lib.hid hp
  subst hv
  clear T rp rk hb0 hz0 hR hg hn0 hk hpz hp hl hm
  go_enter Try.func7, Try.ntmps7
  go_wp2_with fail
  refine H1.out.mono ?_
  rintro e1 w1 ⟨rfl, h1⟩
  have B1 := Lib.hid h1
  clear h1
  obtain ⟨lp, -, -, rd, -⟩ := HT.out w1 B1.out
  have RD := Lib.hid rd
  clear rd
  go_wp2_with fail
  refine (H2.out _ RD.out).mono ?_
  rintro e2 w2 ⟨rfl, h2⟩
  have B2 := Lib.hid (B1.out.trans (h2.mono B1.out.size))
  clear h2 lp RD
  obtain ⟨lp, -, -, rd, -⟩ := HT.out w2 B2.out
  clear rd
  go_wp2_with fail
  refine (H3.out _).mono ?_
  rintro e2 w3 ⟨rfl, h3⟩
  have B3 := Lib.hid (B2.out.trans (h3.mono B2.out.size))
  clear h3 lp
  obtain ⟨lp, -, -, rd, -⟩ := HT.out w3 B3.out
  have RD := Lib.hid rd
  clear rd
  go_wp2_with fail
  refine (H4.out _ _ l RD.out).mono ?_
  rintro e4 w4 ⟨vu, rfl, ou, h4⟩
  have B4 := Lib.hid (B3.out.trans (h4.mono B3.out.size))
  have hun := under_good HG.out (by rw [← HN0.out]; have := HL.out; omega) p
  have UG := Lib.hid hun
  have RU := Lib.hid ou.rd
  obtain ⟨au, cu, hvu, -⟩ := rd_len ou.rd
  obtain ⟨m, hmu⟩ : ∃ m, m = (underL l p).length := ⟨_, rfl⟩
  have hm100 : m ≤ 100 := by rw [hmu]; have h1 := hun.2.2; have h2 := HN0.out; have h3 := HL.out; omega
  rw [← hmu] at hvu
  have HMU := Lib.hid hmu
  have HM100 : Hid (m ≤ 100) := hm100
  have hmI : (m : Int) ≤ 100 := by omega
  subst hvu
  clear h4 ou lp RD hun hmu hm100
  go_wp2
  go_loopw [8, 9] (fun s i wr => ∃ n : Nat, n ≤ m ∧ i = .int .i64 n ∧ Hid (wr.ownsRow w4.heap.size 52 20 s n (fc (goneOf ((underL l p).take n)))) ∧ Hid (Below w4.heap.size w4 wr)) (fun _ i _ => m - (intOf i).toNat)
  case atStart => exact ⟨0, Nat.zero_le _, rfl, World.ownsRow_nil _ _ _ _, Below.refl _ _⟩
  case round =>
    obtain ⟨n, hn, rfl, HO, HW⟩ := hrel
    have HRU := Lib.hid (RU.out.later HW.out)
    by_cases hlt : n < m
    · have hltI : (n : Int) < m := by omega
      have hn0 : (0 : Int) ≤ n := by omega
      obtain ⟨r, hr⟩ : ∃ r, (underL l p)[n]? = some r := ⟨(underL l p)[n]'(by rw [← HMU.out]; exact hlt), List.getElem?_eq_getElem _⟩
      obtain ⟨a', rfl, hca⟩ := rd_all HRU.out hr
      have hrm := (under_mem HG.out (by rw [← HN0.out]; have := HL.out; omega) p r).1 (List.mem_of_getElem? hr)
      have HCV : Hid (∀ W, Calls Try.prog 23 #[.agg (pc p), .agg (pc r.pre)] W fun e w' => e = .returned (.bool true) ∧ Below W.heap.size W w') := fun W => by
        have := covers_any p r.pre HPB.out r.hk W
        rw [hrm.2] at this; exact this
      have HLR : Hid (∀ W, Below wr.heap.size wr W → (routeLoad (a'.add (n * 19))).run Try.prog W = .ok (.agg (rc r)) W ∧ Rd W (.slice (some a') m cu) (underL l p)) := fun W h => ⟨run_routeLoad ((hca.later h).route hr), HRU.out.later h⟩
      have htake : (underL l p).take (n + 1) = (underL l p).take n ++ [r] := by rw [List.take_add_one, hr]; rfl
      have HTK := Lib.hid htake
      clear htake hrm
      by_cases hz : n = 0
      · have HF : Hid (∀ W, Below wr.heap.size wr W → (preLoad ⟨w.heap.size, 0, none⟩).run Try.prog W = .ok (.agg (pc p)) W ∧ (preLoad (a'.add (n * 19))).run Try.prog W = .ok (.agg (pc r.pre)) W) := fun W h =>
          ⟨(HT.out W (B4.out.trans ((HW.out.trans (h.mono HW.out.size)).mono B4.out.size))).1, run_preLoadA ((hca.later h).route hr).pre⟩
        have hd0 : decide ((0 : Int) < n) = false := by simp [hz]
        have hd1 : decide (0 < n) = false := by simp [hz]
        clear hca hr hz
        go_wp2
        refine wp_region_held_drew (S := (fun w' => (preLoad ⟨w.heap.size, 0, none⟩).run Try.prog w' = .ok (.agg (pc p)) w' ∧ (preLoad (a'.add (n * 19))).run Try.prog w' = .ok (.agg (pc r.pre)) w')) (by kernel_rfl) (HF.out _ (Below.refl wr.heap.size wr).drew) (fun hHeld => ?_)
        refine wpAnyH_take (i := 0) (oi := { dst := some 40, op := Op.load 26 (Operand.tmp 4), type := 26, pos := "law.go:154", after := #[], guard := none }) (v := ?v0) rfl (by kernel_rfl) (by kernel_rfl) (by kernel_rfl) (fun _ _ _ h => h) (Or.inl ⟨by rfl, ?hy0⟩) (by assumption) ?rest0
        case hy0 => intro w hSw; (try dsimp only at hSw); go_simp; try with_reducible rfl
        try simp only [Act.put, List.setIfInBounds_toArray, List.set_cons_zero, List.set_cons_succ]
        refine wpAnyH_take (i := 1) (oi := { dst := some 41, op := Op.move (Operand.tmp 7), type := 22, pos := "law.go:154", after := #[], guard := none }) (v := ?v1) rfl (by kernel_rfl) (by kernel_rfl) (by kernel_rfl) (fun _ _ _ h => h) (Or.inl ⟨by rfl, ?hy1⟩) (by assumption) ?rest1
        case hy1 => intro w hSw; (try dsimp only at hSw); go_simp; try with_reducible rfl
        try simp only [Act.put, List.setIfInBounds_toArray, List.set_cons_zero, List.set_cons_succ]
        refine wpAnyH_take (i := 2) (oi := { dst := some 42, op := Op.move (Operand.tmp 9), type := 3, pos := "law.go:154", after := #[], guard := none }) (v := ?v2) rfl (by kernel_rfl) (by kernel_rfl) (by kernel_rfl) (fun _ _ _ h => h) (Or.inl ⟨by rfl, ?hy2⟩) (by assumption) ?rest2
        case hy2 => intro w hSw; (try dsimp only at hSw); go_simp; try with_reducible rfl
        try simp only [Act.put, List.setIfInBounds_toArray, List.set_cons_zero, List.set_cons_succ]
        refine wpAnyH_take (i := 3) (oi := { dst := some 43, op := Op.indexAddr 22 (Operand.tmp 41) (Operand.tmp 42), type := 0, pos := "law.go:154", after := #[{ on := 1, ground := Ground.data }, { on := 2, ground := Ground.data }], guard := none }) (v := ?v3) rfl (by kernel_rfl) (by kernel_rfl) (by kernel_rfl) (fun _ _ _ h => h) (Or.inl ⟨by rfl, ?hy3⟩) (by assumption) ?rest3
        case hy3 => intro w hSw; (try dsimp only at hSw); go_simp; try with_reducible rfl
        try simp only [Act.put, List.setIfInBounds_toArray, List.set_cons_zero, List.set_cons_succ]
        refine wpAnyH_take (i := 4) (oi := { dst := some 44, op := Op.fieldAddr 34 (Operand.tmp 43) 0, type := 0, pos := "law.go:154", after := #[{ on := 3, ground := Ground.data }], guard := none }) (v := ?v4) rfl (by kernel_rfl) (by kernel_rfl) (by kernel_rfl) (fun _ _ _ h => h) (Or.inl ⟨by rfl, ?hy4⟩) (by assumption) ?rest4
        case hy4 => intro w hSw; (try dsimp only at hSw); go_simp; try with_reducible rfl
        try simp only [Act.put, List.setIfInBounds_toArray, List.set_cons_zero, List.set_cons_succ]
        refine wpAnyH_take (i := 5) (oi := { dst := some 45, op := Op.load 26 (Operand.tmp 44), type := 26, pos := "law.go:154", after := #[{ on := 4, ground := Ground.data }], guard := none }) (v := ?v5) rfl (by kernel_rfl) (by kernel_rfl) (by kernel_rfl) (fun _ _ _ h => h) (Or.inl ⟨by rfl, ?hy5⟩) (by assumption) ?rest5
        case hy5 => intro w hSw; (try dsimp only at hSw); go_simp; try with_reducible rfl
        try simp only [Act.put, List.setIfInBounds_toArray, List.set_cons_zero, List.set_cons_succ]
        refine wpAnyH_ready (rs := [6]) (by kernel_rfl) (by simp) ?_
        refine AllReadyH.cons (o := { dst := some 46, op := Op.call { callee := Callee.value (Operand.func 23), args := #[Operand.tmp 40, Operand.tmp 45], argTypes := #[26, 26] }, type := 4, pos := "law.go:154", after := #[{ on := 0, ground := Ground.data }, { on := 5, ground := Ground.data }], guard := none }) rfl (fun K hK => ?_) AllReadyH.nil
        go_simp
        go_at_call 23
        refine (HCV.out _).mono ?_
        rintro e7 w7 ⟨rfl, h7'⟩
        have h7 : Below wr.heap.size wr w7 := (Below.refl wr.heap.size wr).drew.trans h7'
        go_simp
        refine hK.out _ _ (HF.out _ h7) (fun hHeld => ?_)
        clear hK K h7'
        try simp only [Act.put, List.setIfInBounds_toArray, List.set_cons_zero, List.set_cons_succ]
        refine wpAnyH_take (i := 7) (oi := { dst := some 47, op := Op.unOp UnOp.not 4 (Operand.tmp 46), type := 4, pos := "law.go:154", after := #[{ on := 6, ground := Ground.data }], guard := none }) (v := ?v7) rfl (by kernel_rfl) (by kernel_rfl) (by kernel_rfl) (fun _ _ _ h => h) (Or.inl ⟨by rfl, ?hy7⟩) (by assumption) ?rest7
        case hy7 => intro w hSw; (try dsimp only at hSw); go_simp; try with_reducible rfl
        try simp only [Act.put, List.setIfInBounds_toArray, List.set_cons_zero, List.set_cons_succ]
        refine wpAnyH_take (i := 8) (oi := { dst := some 48, op := Op.move (Operand.tmp 47), type := 4, pos := "law.go:154", after := #[{ on := 7, ground := Ground.data }, { on := 6, ground := Ground.chain }], guard := none }) (v := ?v8) rfl (by kernel_rfl) (by kernel_rfl) (by kernel_rfl) (fun _ _ _ h => h) (Or.inl ⟨by rfl, ?hy8⟩) (by assumption) ?rest8
        case hy8 => intro w hSw; (try dsimp only at hSw); go_simp; try with_reducible rfl
        try simp only [Act.put, List.setIfInBounds_toArray, List.set_cons_zero, List.set_cons_succ]
        refine wpAnyH_take (i := 9) (oi := { dst := some 49, op := Op.move (Operand.tmp 9), type := 3, pos := "law.go:154", after := #[{ on := 8, ground := Ground.guard }], guard := some (8, false) }) (v := ?v9) rfl (by kernel_rfl) (by kernel_rfl) (by kernel_rfl) (fun _ _ _ h => h) (Or.inl ⟨by rfl, ?hy9⟩) (by assumption) ?rest9
        case hy9 => intro w hSw; (try dsimp only at hSw); go_simp; try with_reducible rfl
        try simp only [Act.put, List.setIfInBounds_toArray, List.set_cons_zero, List.set_cons_succ]
        refine wpAnyH_take (i := 10) (oi := { dst := some 50, op := Op.binOp BinOp.gtr 3 (Operand.tmp 49) (Operand.const (Value.int IntKind.i64 0)) 3, type := 4, pos := "law.go:154", after := #[{ on := 9, ground := Ground.data }, { on := 8, ground := Ground.guard }], guard := some (8, false) }) (v := ?v10) rfl (by kernel_rfl) (by kernel_rfl) (by kernel_rfl) (fun _ _ _ h => h) (Or.inl ⟨by rfl, ?hy10⟩) (by assumption) ?rest10
        case hy10 => intro w hSw; (try dsimp only at hSw); go_simp; try with_reducible rfl
        try simp only [Act.put, List.setIfInBounds_toArray, List.set_cons_zero, List.set_cons_succ]
        refine wpAnyH_take (i := 11) (oi := { dst := some 51, op := Op.move (Operand.tmp 50), type := 4, pos := "law.go:154", after := #[{ on := 10, ground := Ground.data }, { on := 8, ground := Ground.chain }, { on := 8, ground := Ground.guard }], guard := some (8, false) }) (v := ?v11) rfl (by kernel_rfl) (by kernel_rfl) (by kernel_rfl) (fun _ _ _ h => h) (Or.inl ⟨by rfl, ?hy11⟩) (by assumption) ?rest11
        case hy11 => intro w hSw; (try dsimp only at hSw); go_simp; try with_reducible rfl
        try simp only [Act.put, List.setIfInBounds_toArray, List.set_cons_zero, List.set_cons_succ]
        refine wpAnyH_take (i := 12) (oi := { dst := some 52, op := Op.move (Operand.tmp 7), type := 22, pos := "law.go:154", after := #[{ on := 11, ground := Ground.guard }], guard := some (11, true) }) rfl (by kernel_rfl) (by kernel_rfl) (by kernel_rfl) (fun _ _ _ h => h) (Or.inr ⟨by rfl, rfl⟩) (by assumption) ?_
        try simp only [Act.put, List.setIfInBounds_toArray, List.set_cons_zero, List.set_cons_succ]
        refine wpAnyH_take (i := 13) (oi := { dst := some 53, op := Op.move (Operand.tmp 9), type := 3, pos := "law.go:154", after := #[{ on := 11, ground := Ground.guard }], guard := some (11, true) }) rfl (by kernel_rfl) (by kernel_rfl) (by kernel_rfl) (fun _ _ _ h => h) (Or.inr ⟨by rfl, rfl⟩) (by assumption) ?_
        try simp only [Act.put, List.setIfInBounds_toArray, List.set_cons_zero, List.set_cons_succ]
        refine wpAnyH_take (i := 14) (oi := { dst := some 54, op := Op.binOp BinOp.sub 3 (Operand.tmp 53) (Operand.const (Value.int IntKind.i64 1)) 3, type := 3, pos := "law.go:154", after := #[{ on := 13, ground := Ground.data }, { on := 11, ground := Ground.guard }], guard := some (11, true) }) rfl (by kernel_rfl) (by kernel_rfl) (by kernel_rfl) (fun _ _ _ h => h) (Or.inr ⟨by rfl, rfl⟩) (by assumption) ?_
        try simp only [Act.put, List.setIfInBounds_toArray, List.set_cons_zero, List.set_cons_succ]
        refine wpAnyH_take (i := 15) (oi := { dst := some 55, op := Op.indexAddr 22 (Operand.tmp 52) (Operand.tmp 54), type := 0, pos := "law.go:154", after := #[{ on := 12, ground := Ground.data }, { on := 14, ground := Ground.data }, { on := 11, ground := Ground.guard }], guard := some (11, true) }) rfl (by kernel_rfl) (by kernel_rfl) (by kernel_rfl) (fun _ _ _ h => h) (Or.inr ⟨by rfl, rfl⟩) (by assumption) ?_
        try simp only [Act.put, List.setIfInBounds_toArray, List.set_cons_zero, List.set_cons_succ]
        refine wpAnyH_take (i := 16) (oi := { dst := some 56, op := Op.fieldAddr 34 (Operand.tmp 55) 0, type := 0, pos := "law.go:154", after := #[{ on := 15, ground := Ground.data }, { on := 11, ground := Ground.guard }], guard := some (11, true) }) rfl (by kernel_rfl) (by kernel_rfl) (by kernel_rfl) (fun _ _ _ h => h) (Or.inr ⟨by rfl, rfl⟩) (by assumption) ?_
        try simp only [Act.put, List.setIfInBounds_toArray, List.set_cons_zero, List.set_cons_succ]
        refine wpAnyH_take (i := 17) (oi := { dst := some 57, op := Op.load 26 (Operand.tmp 56), type := 26, pos := "law.go:154", after := #[{ on := 16, ground := Ground.data }, { on := 11, ground := Ground.guard }], guard := some (11, true) }) rfl (by kernel_rfl) (by kernel_rfl) (by kernel_rfl) (fun _ _ _ h => h) (Or.inr ⟨by rfl, rfl⟩) (by assumption) ?_
        try simp only [Act.put, List.setIfInBounds_toArray, List.set_cons_zero, List.set_cons_succ]
        refine wpAnyH_take (i := 18) (oi := { dst := some 58, op := Op.move (Operand.tmp 7), type := 22, pos := "law.go:154", after := #[{ on := 11, ground := Ground.guard }], guard := some (11, true) }) rfl (by kernel_rfl) (by kernel_rfl) (by kernel_rfl) (fun _ _ _ h => h) (Or.inr ⟨by rfl, rfl⟩) (by assumption) ?_
        try simp only [Act.put, List.setIfInBounds_toArray, List.set_cons_zero, List.set_cons_succ]
        refine wpAnyH_take (i := 19) (oi := { dst := some 59, op := Op.move (Operand.tmp 9), type := 3, pos := "law.go:154", after := #[{ on := 11, ground := Ground.guard }], guard := some (11, true) }) rfl (by kernel_rfl) (by kernel_rfl) (by kernel_rfl) (fun _ _ _ h => h) (Or.inr ⟨by rfl, rfl⟩) (by assumption) ?_
        try simp only [Act.put, List.setIfInBounds_toArray, List.set_cons_zero, List.set_cons_succ]
        refine wpAnyH_take (i := 20) (oi := { dst := some 60, op := Op.indexAddr 22 (Operand.tmp 58) (Operand.tmp 59), type := 0, pos := "law.go:154", after := #[{ on := 18, ground := Ground.data }, { on := 19, ground := Ground.data }, { on := 11, ground := Ground.guard }], guard := some (11, true) }) rfl (by kernel_rfl) (by kernel_rfl) (by kernel_rfl) (fun _ _ _ h => h) (Or.inr ⟨by rfl, rfl⟩) (by assumption) ?_
        try simp only [Act.put, List.setIfInBounds_toArray, List.set_cons_zero, List.set_cons_succ]
        refine wpAnyH_take (i := 21) (oi := { dst := some 61, op := Op.fieldAddr 34 (Operand.tmp 60) 0, type := 0, pos := "law.go:154", after := #[{ on := 20, ground := Ground.data }, { on := 11, ground := Ground.guard }], guard := some (11, true) }) rfl (by kernel_rfl) (by kernel_rfl) (by kernel_rfl) (fun _ _ _ h => h) (Or.inr ⟨by rfl, rfl⟩) (by assumption) ?_
        try simp only [Act.put, List.setIfInBounds_toArray, List.set_cons_zero, List.set_cons_succ]
        refine wpAnyH_take (i := 22) (oi := { dst := some 62, op := Op.load 26 (Operand.tmp 61), type := 26, pos := "law.go:154", after := #[{ on := 21, ground := Ground.data }, { on := 11, ground := Ground.guard }], guard := some (11, true) }) rfl (by kernel_rfl) (by kernel_rfl) (by kernel_rfl) (fun _ _ _ h => h) (Or.inr ⟨by rfl, rfl⟩) (by assumption) ?_
        try simp only [Act.put, List.setIfInBounds_toArray, List.set_cons_zero, List.set_cons_succ]
        refine wpAnyH_take (i := 23) (oi := { dst := some 63, op := Op.call { callee := Callee.value (Operand.func 26), args := #[Operand.tmp 57, Operand.tmp 62], argTypes := #[26, 26] }, type := 4, pos := "law.go:154", after := #[{ on := 17, ground := Ground.data }, { on := 22, ground := Ground.data }, { on := 11, ground := Ground.chain }, { on := 11, ground := Ground.guard }], guard := some (11, true) }) rfl (by kernel_rfl) (by kernel_rfl) (by kernel_rfl) (fun _ _ _ h => h) (Or.inr ⟨by rfl, rfl⟩) (by assumption) ?_
        try simp only [Act.put, List.setIfInBounds_toArray, List.set_cons_zero, List.set_cons_succ]
        refine wpAnyH_take (i := 24) (oi := { dst := some 64, op := Op.unOp UnOp.not 4 (Operand.tmp 63), type := 4, pos := "law.go:154", after := #[{ on := 23, ground := Ground.data }, { on := 11, ground := Ground.guard }], guard := some (11, true) }) rfl (by kernel_rfl) (by kernel_rfl) (by kernel_rfl) (fun _ _ _ h => h) (Or.inr ⟨by rfl, rfl⟩) (by assumption) ?_
        try simp only [Act.put, List.setIfInBounds_toArray, List.set_cons_zero, List.set_cons_succ]
        refine wpAnyH_take (i := 25) (oi := { dst := some 65, op := Op.pick (Operand.tmp 51) (Operand.tmp 64) (Operand.const (Value.bool false)), type := 4, pos := "law.go:154", after := #[{ on := 11, ground := Ground.data }, { on := 24, ground := Ground.data }, { on := 8, ground := Ground.guard }], guard := some (8, false) }) (v := ?v25) rfl (by kernel_rfl) (by kernel_rfl) (by kernel_rfl) (fun _ _ _ h => h) (Or.inl ⟨by rfl, ?hy25⟩) (by assumption) ?rest25
        case hy25 => intro w hSw; (try dsimp only at hSw); go_simp; try with_reducible rfl
        try simp only [Act.put, List.setIfInBounds_toArray, List.set_cons_zero, List.set_cons_succ]
        refine wpAnyH_take (i := 26) (oi := { dst := some 66, op := Op.pick (Operand.tmp 48) (Operand.const (Value.bool true)) (Operand.tmp 65), type := 4, pos := "law.go:154", after := #[{ on := 8, ground := Ground.data }, { on := 25, ground := Ground.data }], guard := none }) (v := ?v26) rfl (by kernel_rfl) (by kernel_rfl) (by kernel_rfl) (fun _ _ _ h => h) (Or.inl ⟨by rfl, ?hy26⟩) (by assumption) ?rest26
        case hy26 => intro w hSw; (try dsimp only at hSw); go_simp; try with_reducible rfl
        try simp only [Act.put, List.setIfInBounds_toArray, List.set_cons_zero, List.set_cons_succ]
        refine wpAnyH_done (by kernel_rfl) ?_ _
        clear hHeld hd0 hd1
        have H9 := Lib.hid (HW.out.trans (h7.mono HW.out.size))
        have HO9 : Hid (w7.ownsRow w4.heap.size 52 20 u8 n (fc (goneOf ((underL l p).take n)))) := World.ownsRow.kept (row := none) HO.out ⟨h7.os, h7.tape, h7.output, h7.size, fun k hk _ => h7.block k hk⟩ (by cases hv : u8.ownBlock <;> simp)
        have lr9 := HLR.out w7 h7
        obtain ⟨lr, -⟩ := lr9
        have b2 := run_changeBuildG r
        have b3 := run_chs1 ⟨r, true⟩
        have RC := Lib.hid (rdC_new w7 [⟨r, true⟩] (by simp))
        have hal : Below w7.heap.size w7 (w7.alloc (.cells (fc [⟨r, true⟩]).toArray 52)) := (Below.refl _ _).alloc (Nat.le_refl _) _
        have HAL := Lib.hid hal
        have HOA : Hid ((w7.alloc (.cells (fc [⟨r, true⟩]).toArray 52)).ownsRow w4.heap.size 52 20 u8 n (fc (goneOf ((underL l p).take n)))) := World.ownsRow.kept (row := none) HO9.out ⟨hal.os, hal.tape, hal.output, hal.size, fun k hk _ => hal.block k hk⟩ (by cases hv : u8.ownBlock <;> simp)
        clear hal
        go_wp2_with (at_builtin; refine append_chs rfl _ _ rfl w4.heap.size _ n (fc (goneOf ((underL l p).take n))) rfl HOA.out _ [⟨r, true⟩] rfl RC.out (by have := HM100.out; simp; omega) (by have h1 := H9.out.size; have h2 := HAL.out.size; omega) ?_)
        intro v' wz oz gz
        have BZ : Hid (Below w4.heap.size w4 wz) := (H9.out.trans (HAL.out.mono H9.out.size)).grown gz (by have h1 := H9.out.size; have h2 := HAL.out.size; omega) (fun k hk => by
          rcases HOA.out.2 with ⟨h, -⟩ | ⟨g, c, cu, h, h', -⟩
          · rw [h] at hk; simp [Value.ownBlock] at hk
          · rw [h] at hk; simp [Value.ownBlock] at hk; omega)
        have OZ : Hid (wz.ownsRow w4.heap.size 52 20 v' (n + 1) (fc (goneOf ((underL l p).take (n + 1))))) := by
          rw [HTK.out]; unfold goneOf; rw [List.map_append, fc_append]; exact oz
        clear oz gz lr b2 b3
        go_wp2
        go_roundw
        case rel => exact ⟨n + 1, by omega, by go_num, OZ, BZ⟩
        case measure => simp [intOf]; omega
      · obtain ⟨j, hj⟩ : ∃ j, n = j + 1 := ⟨n - 1, by omega⟩
        obtain ⟨q, hq⟩ : ∃ q, (underL l p)[j]? = some q := ⟨(underL l p)[j]'(by rw [← HMU.out]; omega), List.getElem?_eq_getElem _⟩
        have HF : Hid (∀ W, Below wr.heap.size wr W → (preLoad ⟨w.heap.size, 0, none⟩).run Try.prog W = .ok (.agg (pc p)) W ∧ (preLoad (a'.add (n * 19))).run Try.prog W = .ok (.agg (pc r.pre)) W ∧ (preLoad (a'.add (j * 19))).run Try.prog W = .ok (.agg (pc q.pre)) W) := fun W h =>
          ⟨(HT.out W (B4.out.trans ((HW.out.trans (h.mono HW.out.size)).mono B4.out.size))).1, run_preLoadA ((hca.later h).route hr).pre, run_preLoadA ((hca.later h).route hq).pre⟩
        have HLE : Hid (∀ W, Calls Try.prog 26 #[.agg (pc q.pre), .agg (pc r.pre)] W fun e w' => e = .returned (.bool true) ∧ Below W.heap.size W w') := fun W => by
          have := less_any q.pre r.pre q.hk r.hk W
          obtain ⟨l1, e1⟩ := List.getElem?_eq_some_iff.1 hq
          obtain ⟨l2, e2⟩ := List.getElem?_eq_some_iff.1 hr
          have ho := List.pairwise_iff_getElem.1 UG.out.2.1.ord j n l1 l2 (by omega)
          rw [e1, e2] at ho
          rw [ho] at this; exact this
        have hd0 : decide ((0 : Int) < n) = true := by simp; omega
        have hd1 : decide (0 < n) = true := by simp; omega
        have hwj : IntKind.i64.wrap ((n : Int) - 1) = (j : Int) := by rw [IntKind.wrap_i64]; omega
        have hj0 : (0 : Int) ≤ j := by omega
        have hjm : (j : Int) < m := by omega
        clear hca hr hz hq hj
        go_wp2
        refine wp_region_held_drew (S := (fun w' => (preLoad ⟨w.heap.size, 0, none⟩).run Try.prog w' = .ok (.agg (pc p)) w' ∧ (preLoad (a'.add (n * 19))).run Try.prog w' = .ok (.agg (pc r.pre)) w' ∧ (preLoad (a'.add (j * 19))).run Try.prog w' = .ok (.agg (pc q.pre)) w')) (by kernel_rfl) (HF.out _ (Below.refl wr.heap.size wr).drew) (fun hHeld => ?_)
        refine wpAnyH_take (i := 0) (oi := { dst := some 40, op := Op.load 26 (Operand.tmp 4), type := 26, pos := "law.go:154", after := #[], guard := none }) (v := ?v0b) rfl (by kernel_rfl) (by kernel_rfl) (by kernel_rfl) (fun _ _ _ h => h) (Or.inl ⟨by rfl, ?hy0b⟩) (by assumption) ?rest0b
        case hy0b => intro w hSw; (try dsimp only at hSw); go_simp; try with_reducible rfl
        try simp only [Act.put, List.setIfInBounds_toArray, List.set_cons_zero, List.set_cons_succ]
        refine wpAnyH_take (i := 1) (oi := { dst := some 41, op := Op.move (Operand.tmp 7), type := 22, pos := "law.go:154", after := #[], guard := none }) (v := ?v1b) rfl (by kernel_rfl) (by kernel_rfl) (by kernel_rfl) (fun _ _ _ h => h) (Or.inl ⟨by rfl, ?hy1b⟩) (by assumption) ?rest1b
        case hy1b => intro w hSw; (try dsimp only at hSw); go_simp; try with_reducible rfl
        try simp only [Act.put, List.setIfInBounds_toArray, List.set_cons_zero, List.set_cons_succ]
        refine wpAnyH_take (i := 2) (oi := { dst := some 42, op := Op.move (Operand.tmp 9), type := 3, pos := "law.go:154", after := #[], guard := none }) (v := ?v2b) rfl (by kernel_rfl) (by kernel_rfl) (by kernel_rfl) (fun _ _ _ h => h) (Or.inl ⟨by rfl, ?hy2b⟩) (by assumption) ?rest2b
        case hy2b => intro w hSw; (try dsimp only at hSw); go_simp; try with_reducible rfl
        try simp only [Act.put, List.setIfInBounds_toArray, List.set_cons_zero, List.set_cons_succ]
        refine wpAnyH_take (i := 3) (oi := { dst := some 43, op := Op.indexAddr 22 (Operand.tmp 41) (Operand.tmp 42), type := 0, pos := "law.go:154", after := #[{ on := 1, ground := Ground.data }, { on := 2, ground := Ground.data }], guard := none }) (v := ?v3b) rfl (by kernel_rfl) (by kernel_rfl) (by kernel_rfl) (fun _ _ _ h => h) (Or.inl ⟨by rfl, ?hy3b⟩) (by assumption) ?rest3b
        case hy3b => intro w hSw; (try dsimp only at hSw); go_simp; try with_reducible rfl
        try simp only [Act.put, List.setIfInBounds_toArray, List.set_cons_zero, List.set_cons_succ]
        refine wpAnyH_take (i := 4) (oi := { dst := some 44, op := Op.fieldAddr 34 (Operand.tmp 43) 0, type := 0, pos := "law.go:154", after := #[{ on := 3, ground := Ground.data }], guard := none }) (v := ?v4b) rfl (by kernel_rfl) (by kernel_rfl) (by kernel_rfl) (fun _ _ _ h => h) (Or.inl ⟨by rfl, ?hy4b⟩) (by assumption) ?rest4b
        case hy4b => intro w hSw; (try dsimp only at hSw); go_simp; try with_reducible rfl
        try simp only [Act.put, List.setIfInBounds_toArray, List.set_cons_zero, List.set_cons_succ]
        refine wpAnyH_take (i := 5) (oi := { dst := some 45, op := Op.load 26 (Operand.tmp 44), type := 26, pos := "law.go:154", after := #[{ on := 4, ground := Ground.data }], guard := none }) (v := ?v5b) rfl (by kernel_rfl) (by kernel_rfl) (by kernel_rfl) (fun _ _ _ h => h) (Or.inl ⟨by rfl, ?hy5b⟩) (by assumption) ?rest5b
        case hy5b => intro w hSw; (try dsimp only at hSw); go_simp; try with_reducible rfl
        try simp only [Act.put, List.setIfInBounds_toArray, List.set_cons_zero, List.set_cons_succ]
        refine wpAnyH_ready (rs := [6]) (by kernel_rfl) (by simp) ?_
        refine AllReadyH.cons (o := { dst := some 46, op := Op.call { callee := Callee.value (Operand.func 23), args := #[Operand.tmp 40, Operand.tmp 45], argTypes := #[26, 26] }, type := 4, pos := "law.go:154", after := #[{ on := 0, ground := Ground.data }, { on := 5, ground := Ground.data }], guard := none }) rfl (fun K hK => ?_) AllReadyH.nil
        go_simp
        go_at_call 23
        refine (HCV.out _).mono ?_
        rintro e7 w7 ⟨rfl, h7'⟩
        have h7 : Below wr.heap.size wr w7 := (Below.refl wr.heap.size wr).drew.trans h7'
        go_simp
        refine hK.out _ _ (HF.out _ h7) (fun hHeld => ?_)
        clear hK K h7'
        try simp only [Act.put, List.setIfInBounds_toArray, List.set_cons_zero, List.set_cons_succ]
        refine wpAnyH_take (i := 7) (oi := { dst := some 47, op := Op.unOp UnOp.not 4 (Operand.tmp 46), type := 4, pos := "law.go:154", after := #[{ on := 6, ground := Ground.data }], guard := none }) (v := ?v7b) rfl (by kernel_rfl) (by kernel_rfl) (by kernel_rfl) (fun _ _ _ h => h) (Or.inl ⟨by rfl, ?hy7b⟩) (by assumption) ?rest7b
        case hy7b => intro w hSw; (try dsimp only at hSw); go_simp; try with_reducible rfl
        try simp only [Act.put, List.setIfInBounds_toArray, List.set_cons_zero, List.set_cons_succ]
        refine wpAnyH_take (i := 8) (oi := { dst := some 48, op := Op.move (Operand.tmp 47), type := 4, pos := "law.go:154", after := #[{ on := 7, ground := Ground.data }, { on := 6, ground := Ground.chain }], guard := none }) (v := ?v8b) rfl (by kernel_rfl) (by kernel_rfl) (by kernel_rfl) (fun _ _ _ h => h) (Or.inl ⟨by rfl, ?hy8b⟩) (by assumption) ?rest8b
        case hy8b => intro w hSw; (try dsimp only at hSw); go_simp; try with_reducible rfl
        try simp only [Act.put, List.setIfInBounds_toArray, List.set_cons_zero, List.set_cons_succ]
        refine wpAnyH_take (i := 9) (oi := { dst := some 49, op := Op.move (Operand.tmp 9), type := 3, pos := "law.go:154", after := #[{ on := 8, ground := Ground.guard }], guard := some (8, false) }) (v := ?v9b) rfl (by kernel_rfl) (by kernel_rfl) (by kernel_rfl) (fun _ _ _ h => h) (Or.inl ⟨by rfl, ?hy9b⟩) (by assumption) ?rest9b
        case hy9b => intro w hSw; (try dsimp only at hSw); go_simp; try with_reducible rfl
        try simp only [Act.put, List.setIfInBounds_toArray, List.set_cons_zero, List.set_cons_succ]
        refine wpAnyH_take (i := 10) (oi := { dst := some 50, op := Op.binOp BinOp.gtr 3 (Operand.tmp 49) (Operand.const (Value.int IntKind.i64 0)) 3, type := 4, pos := "law.go:154", after := #[{ on := 9, ground := Ground.data }, { on := 8, ground := Ground.guard }], guard := some (8, false) }) (v := ?v10b) rfl (by kernel_rfl) (by kernel_rfl) (by kernel_rfl) (fun _ _ _ h => h) (Or.inl ⟨by rfl, ?hy10b⟩) (by assumption) ?rest10b
        case hy10b => intro w hSw; (try dsimp only at hSw); go_simp; try with_reducible rfl
        try simp only [Act.put, List.setIfInBounds_toArray, List.set_cons_zero, List.set_cons_succ]
        refine wpAnyH_take (i := 11) (oi := { dst := some 51, op := Op.move (Operand.tmp 50), type := 4, pos := "law.go:154", after := #[{ on := 10, ground := Ground.data }, { on := 8, ground := Ground.chain }, { on := 8, ground := Ground.guard }], guard := some (8, false) }) (v := ?v11b) rfl (by kernel_rfl) (by kernel_rfl) (by kernel_rfl) (fun _ _ _ h => h) (Or.inl ⟨by rfl, ?hy11b⟩) (by assumption) ?rest11b
        case hy11b => intro w hSw; (try dsimp only at hSw); go_simp; try with_reducible rfl
        try simp only [Act.put, List.setIfInBounds_toArray, List.set_cons_zero, List.set_cons_succ]
        refine wpAnyH_take (i := 12) (oi := { dst := some 52, op := Op.move (Operand.tmp 7), type := 22, pos := "law.go:154", after := #[{ on := 11, ground := Ground.guard }], guard := some (11, true) }) (v := ?v12b) rfl (by kernel_rfl) (by kernel_rfl) (by kernel_rfl) (fun _ _ _ h => h) (Or.inl ⟨by rfl, ?hy12b⟩) (by assumption) ?rest12b
        case hy12b => intro w hSw; (try dsimp only at hSw); go_simp; try with_reducible rfl
        try simp only [Act.put, List.setIfInBounds_toArray, List.set_cons_zero, List.set_cons_succ]
        refine wpAnyH_take (i := 13) (oi := { dst := some 53, op := Op.move (Operand.tmp 9), type := 3, pos := "law.go:154", after := #[{ on := 11, ground := Ground.guard }], guard := some (11, true) }) (v := ?v13b) rfl (by kernel_rfl) (by kernel_rfl) (by kernel_rfl) (fun _ _ _ h => h) (Or.inl ⟨by rfl, ?hy13b⟩) (by assumption) ?rest13b
        case hy13b => intro w hSw; (try dsimp only at hSw); go_simp; try with_reducible rfl
        try simp only [Act.put, List.setIfInBounds_toArray, List.set_cons_zero, List.set_cons_succ]
        refine wpAnyH_take (i := 14) (oi := { dst := some 54, op := Op.binOp BinOp.sub 3 (Operand.tmp 53) (Operand.const (Value.int IntKind.i64 1)) 3, type := 3, pos := "law.go:154", after := #[{ on := 13, ground := Ground.data }, { on := 11, ground := Ground.guard }], guard := some (11, true) }) (v := ?v14b) rfl (by kernel_rfl) (by kernel_rfl) (by kernel_rfl) (fun _ _ _ h => h) (Or.inl ⟨by rfl, ?hy14b⟩) (by assumption) ?rest14b
        case hy14b => intro w hSw; (try dsimp only at hSw); go_simp; try with_reducible rfl
        try simp only [Act.put, List.setIfInBounds_toArray, List.set_cons_zero, List.set_cons_succ]
        refine wpAnyH_take (i := 15) (oi := { dst := some 55, op := Op.indexAddr 22 (Operand.tmp 52) (Operand.tmp 54), type := 0, pos := "law.go:154", after := #[{ on := 12, ground := Ground.data }, { on := 14, ground := Ground.data }, { on := 11, ground := Ground.guard }], guard := some (11, true) }) (v := ?v15b) rfl (by kernel_rfl) (by kernel_rfl) (by kernel_rfl) (fun _ _ _ h => h) (Or.inl ⟨by rfl, ?hy15b⟩) (by assumption) ?rest15b
        case hy15b => intro w hSw; (try dsimp only at hSw); go_simp; try with_reducible rfl
        try simp only [Act.put, List.setIfInBounds_toArray, List.set_cons_zero, List.set_cons_succ]
        refine wpAnyH_take (i := 16) (oi := { dst := some 56, op := Op.fieldAddr 34 (Operand.tmp 55) 0, type := 0, pos := "law.go:154", after := #[{ on := 15, ground := Ground.data }, { on := 11, ground := Ground.guard }], guard := some (11, true) }) (v := ?v16b) rfl (by kernel_rfl) (by kernel_rfl) (by kernel_rfl) (fun _ _ _ h => h) (Or.inl ⟨by rfl, ?hy16b⟩) (by assumption) ?rest16b
        case hy16b => intro w hSw; (try dsimp only at hSw); go_simp; try with_reducible rfl
        try simp only [Act.put, List.setIfInBounds_toArray, List.set_cons_zero, List.set_cons_succ]
        refine wpAnyH_take (i := 17) (oi := { dst := some 57, op := Op.load 26 (Operand.tmp 56), type := 26, pos := "law.go:154", after := #[{ on := 16, ground := Ground.data }, { on := 11, ground := Ground.guard }], guard := some (11, true) }) (v := ?v17b) rfl (by kernel_rfl) (by kernel_rfl) (by kernel_rfl) (fun _ _ _ h => h) (Or.inl ⟨by rfl, ?hy17b⟩) (by assumption) ?rest17b
        case hy17b => intro w hSw; (try dsimp only at hSw); go_simp; try with_reducible rfl
        try simp only [Act.put, List.setIfInBounds_toArray, List.set_cons_zero, List.set_cons_succ]
        refine wpAnyH_take (i := 18) (oi := { dst := some 58, op := Op.move (Operand.tmp 7), type := 22, pos := "law.go:154", after := #[{ on := 11, ground := Ground.guard }], guard := some (11, true) }) (v := ?v18b) rfl (by kernel_rfl) (by kernel_rfl) (by kernel_rfl) (fun _ _ _ h => h) (Or.inl ⟨by rfl, ?hy18b⟩) (by assumption) ?rest18b
        case hy18b => intro w hSw; (try dsimp only at hSw); go_simp; try with_reducible rfl
        try simp only [Act.put, List.setIfInBounds_toArray, List.set_cons_zero, List.set_cons_succ]
        refine wpAnyH_take (i := 19) (oi := { dst := some 59, op := Op.move (Operand.tmp 9), type := 3, pos := "law.go:154", after := #[{ on := 11, ground := Ground.guard }], guard := some (11, true) }) (v := ?v19b) rfl (by kernel_rfl) (by kernel_rfl) (by kernel_rfl) (fun _ _ _ h => h) (Or.inl ⟨by rfl, ?hy19b⟩) (by assumption) ?rest19b
        case hy19b => intro w hSw; (try dsimp only at hSw); go_simp; try with_reducible rfl
        try simp only [Act.put, List.setIfInBounds_toArray, List.set_cons_zero, List.set_cons_succ]
        refine wpAnyH_take (i := 20) (oi := { dst := some 60, op := Op.indexAddr 22 (Operand.tmp 58) (Operand.tmp 59), type := 0, pos := "law.go:154", after := #[{ on := 18, ground := Ground.data }, { on := 19, ground := Ground.data }, { on := 11, ground := Ground.guard }], guard := some (11, true) }) (v := ?v20b) rfl (by kernel_rfl) (by kernel_rfl) (by kernel_rfl) (fun _ _ _ h => h) (Or.inl ⟨by rfl, ?hy20b⟩) (by assumption) ?rest20b
        case hy20b => intro w hSw; (try dsimp only at hSw); go_simp; try with_reducible rfl
        try simp only [Act.put, List.setIfInBounds_toArray, List.set_cons_zero, List.set_cons_succ]
        refine wpAnyH_take (i := 21) (oi := { dst := some 61, op := Op.fieldAddr 34 (Operand.tmp 60) 0, type := 0, pos := "law.go:154", after := #[{ on := 20, ground := Ground.data }, { on := 11, ground := Ground.guard }], guard := some (11, true) }) (v := ?v21b) rfl (by kernel_rfl) (by kernel_rfl) (by kernel_rfl) (fun _ _ _ h => h) (Or.inl ⟨by rfl, ?hy21b⟩) (by assumption) ?rest21b
        case hy21b => intro w hSw; (try dsimp only at hSw); go_simp; try with_reducible rfl
        try simp only [Act.put, List.setIfInBounds_toArray, List.set_cons_zero, List.set_cons_succ]
        refine wpAnyH_take (i := 22) (oi := { dst := some 62, op := Op.load 26 (Operand.tmp 61), type := 26, pos := "law.go:154", after := #[{ on := 21, ground := Ground.data }, { on := 11, ground := Ground.guard }], guard := some (11, true) }) (v := ?v22b) rfl (by kernel_rfl) (by kernel_rfl) (by kernel_rfl) (fun _ _ _ h => h) (Or.inl ⟨by rfl, ?hy22b⟩) (by assumption) ?rest22b
        case hy22b => intro w hSw; (try dsimp only at hSw); go_simp; try with_reducible rfl
        try simp only [Act.put, List.setIfInBounds_toArray, List.set_cons_zero, List.set_cons_succ]
        refine wpAnyH_ready (rs := [23]) (by kernel_rfl) (by simp) ?_
        refine AllReadyH.cons (o := { dst := some 63, op := Op.call { callee := Callee.value (Operand.func 26), args := #[Operand.tmp 57, Operand.tmp 62], argTypes := #[26, 26] }, type := 4, pos := "law.go:154", after := #[{ on := 17, ground := Ground.data }, { on := 22, ground := Ground.data }, { on := 11, ground := Ground.chain }, { on := 11, ground := Ground.guard }], guard := some (11, true) }) rfl (fun K hK => ?_) AllReadyH.nil
        go_simp
        go_at_call 26
        refine (HLE.out _).mono ?_
        rintro e7 w8 ⟨rfl, h7'⟩
        have h8 : Below wr.heap.size wr w8 := h7.trans (h7'.mono h7.size)
        go_simp
        refine hK.out _ _ (HF.out _ h8) (fun hHeld => ?_)
        clear hK K h7'
        try simp only [Act.put, List.setIfInBounds_toArray, List.set_cons_zero, List.set_cons_succ]
        refine wpAnyH_take (i := 24) (oi := { dst := some 64, op := Op.unOp UnOp.not 4 (Operand.tmp 63), type := 4, pos := "law.go:154", after := #[{ on := 23, ground := Ground.data }, { on := 11, ground := Ground.guard }], guard := some (11, true) }) (v := ?v24b) rfl (by kernel_rfl) (by kernel_rfl) (by kernel_rfl) (fun _ _ _ h => h) (Or.inl ⟨by rfl, ?hy24b⟩) (by assumption) ?rest24b
        case hy24b => intro w hSw; (try dsimp only at hSw); go_simp; try with_reducible rfl
        try simp only [Act.put, List.setIfInBounds_toArray, List.set_cons_zero, List.set_cons_succ]
        refine wpAnyH_take (i := 25) (oi := { dst := some 65, op := Op.pick (Operand.tmp 51) (Operand.tmp 64) (Operand.const (Value.bool false)), type := 4, pos := "law.go:154", after := #[{ on := 11, ground := Ground.data }, { on := 24, ground := Ground.data }, { on := 8, ground := Ground.guard }], guard := some (8, false) }) (v := ?v25b) rfl (by kernel_rfl) (by kernel_rfl) (by kernel_rfl) (fun _ _ _ h => h) (Or.inl ⟨by rfl, ?hy25b⟩) (by assumption) ?rest25b
        case hy25b => intro w hSw; (try dsimp only at hSw); go_simp; try with_reducible rfl
        try simp only [Act.put, List.setIfInBounds_toArray, List.set_cons_zero, List.set_cons_succ]
        refine wpAnyH_take (i := 26) (oi := { dst := some 66, op := Op.pick (Operand.tmp 48) (Operand.const (Value.bool true)) (Operand.tmp 65), type := 4, pos := "law.go:154", after := #[{ on := 8, ground := Ground.data }, { on := 25, ground := Ground.data }], guard := none }) (v := ?v26b) rfl (by kernel_rfl) (by kernel_rfl) (by kernel_rfl) (fun _ _ _ h => h) (Or.inl ⟨by rfl, ?hy26b⟩) (by assumption) ?rest26b
        case hy26b => intro w hSw; (try dsimp only at hSw); go_simp; try with_reducible rfl
        try simp only [Act.put, List.setIfInBounds_toArray, List.set_cons_zero, List.set_cons_succ]
        refine wpAnyH_done (by kernel_rfl) ?_ _
        clear hHeld hd0 hd1 hwj hj0 hjm
        have H9 := Lib.hid (HW.out.trans (h8.mono HW.out.size))
        have HO9 : Hid (w8.ownsRow w4.heap.size 52 20 u8 n (fc (goneOf ((underL l p).take n)))) := World.ownsRow.kept (row := none) HO.out ⟨h8.os, h8.tape, h8.output, h8.size, fun k hk _ => h8.block k hk⟩ (by cases hv : u8.ownBlock <;> simp)
        have lr9 := HLR.out w8 h8
        obtain ⟨lr, -⟩ := lr9
        have b2 := run_changeBuildG r
        have b3 := run_chs1 ⟨r, true⟩
        have RC := Lib.hid (rdC_new w8 [⟨r, true⟩] (by simp))
        have hal : Below w8.heap.size w8 (w8.alloc (.cells (fc [⟨r, true⟩]).toArray 52)) := (Below.refl _ _).alloc (Nat.le_refl _) _
        have HAL := Lib.hid hal
        have HOA : Hid ((w8.alloc (.cells (fc [⟨r, true⟩]).toArray 52)).ownsRow w4.heap.size 52 20 u8 n (fc (goneOf ((underL l p).take n)))) := World.ownsRow.kept (row := none) HO9.out ⟨hal.os, hal.tape, hal.output, hal.size, fun k hk _ => hal.block k hk⟩ (by cases hv : u8.ownBlock <;> simp)
        clear hal
        go_wp2_with (at_builtin; refine append_chs rfl _ _ rfl w4.heap.size _ n (fc (goneOf ((underL l p).take n))) rfl HOA.out _ [⟨r, true⟩] rfl RC.out (by have := HM100.out; simp; omega) (by have h1 := H9.out.size; have h2 := HAL.out.size; omega) ?_)
        intro v' wz oz gz
        have BZ : Hid (Below w4.heap.size w4 wz) := (H9.out.trans (HAL.out.mono H9.out.size)).grown gz (by have h1 := H9.out.size; have h2 := HAL.out.size; omega) (fun k hk => by
          rcases HOA.out.2 with ⟨h, -⟩ | ⟨g, c, cu, h, h', -⟩
          · rw [h] at hk; simp [Value.ownBlock] at hk
          · rw [h] at hk; simp [Value.ownBlock] at hk; omega)
        have OZ : Hid (wz.ownsRow w4.heap.size 52 20 v' (n + 1) (fc (goneOf ((underL l p).take (n + 1))))) := by
          rw [HTK.out]; unfold goneOf; rw [List.map_append, fc_append]; exact oz
        clear oz gz lr b2 b3
        go_wp2
        go_roundw
        case rel => exact ⟨n + 1, by omega, by go_num, OZ, BZ⟩
        case measure => simp [intOf]; omega
    · obtain rfl : n = m := by omega
      have hu1 := UG.out
      have hl2 : l.length ≤ 256 := by rw [← HN0.out]; have := HL.out; omega
      obtain ⟨m', ha1, ha2, ha3, ha4⟩ := under_gone HG.out hl2 p
      have RG : Hid (RdC wr u8 (goneOf (underL l p))) := rdC_own (by
        have := HO.out
        rw [List.take_of_length_le (by rw [← HMU.out]; exact Nat.le_refl _)] at this
        rw [goneOf_length, ← HMU.out]; exact this)
      have HA : Hid (∀ W, Rd W (.slice a n0 cap) l → RdC W u8 (goneOf (underL l p)) → Calls Try.prog 11 #[.slice a n0 cap, u8] W (ApplyPost W (m', 0))) := fun W h1 h2 => by
        rw [← ha1]; exact apply_any l (goneOf (underL l p)) _ u8 W h1 h2 (by omega) (by rw [goneOf_length]; have := hu1.2.2; omega)
      obtain ⟨q, hq⟩ : ∃ q, q = m'.length := ⟨_, rfl⟩
      have hqn : q + n = n0 := by rw [hq, HMU.out, HN0.out]; exact ha3
      have hqI : (q : Int) ≤ 100 := by have := HL.out; omega
      have hqd : ((q : Int) + n != n0) = false := by rw [bne_eq_false_iff_eq]; omega
      have HE : Hid (underL m' p = []) := ha4
      have HQ := Lib.hid hq
      obtain ⟨x, f, hxf⟩ : ∃ x f, bestL l k p.bits = (x, f) := ⟨_, _, rfl⟩
      have HB : Hid (∀ W, Rd W (.slice a n0 cap) l → Calls Try.prog 10 #[.slice a n0 cap, .agg (kc k), .int .i64 p.bits] W (BestPost W (x, f))) := fun W h => by
        rw [← hxf]; exact best_any l k HK.out p.bits _ W h
      have HXF := Lib.hid hxf
      have HF2 := Lib.hid (fun W => fits_any p k HPB.out HK.out W)
      have HL2 := Lib.hid hl2
      have B5 := Lib.hid (B4.out.trans (HW.out.mono B4.out.size))
      clear hu1 ha1 ha2 ha3 ha4 hq hqn hxf hl2
      obtain ⟨-, -, -, rd, -⟩ := HT.out wr B5.out
      have RD := Lib.hid rd
      clear rd
      go_wp2_with fail
      refine (HA.out _ RD.out RG.out).mono ?_
      rintro e5 w6 ⟨vr, rfl, orr, h6⟩
      have B6 := Lib.hid (B5.out.trans (h6.mono B5.out.size))
      have C6 := Lib.hid (HW.out.trans (h6.mono HW.out.size))
      have RR := Lib.hid orr.rd
      obtain ⟨ar, cr, hvr, -⟩ := rd_len orr.rd
      rw [← HQ.out] at hvr
      subst hvr
      clear h6 orr RD RG
      obtain ⟨lp, -, -, rd, -⟩ := HT.out w6 B6.out
      clear rd
      go_wp2_with fail
      refine (H4.out _ _ m' RR.out).mono ?_
      rintro e7 w7 ⟨v7, rfl, o7, h7⟩
      have B7 := Lib.hid (B6.out.trans (h7.mono B6.out.size))
      have C7 := Lib.hid (C6.out.trans (h7.mono C6.out.size))
      obtain ⟨a7, c7, hv7, -⟩ := rd_len o7.rd
      rw [HE.out] at hv7
      simp only [List.length_nil] at hv7
      subst hv7
      clear h7 o7 lp RR
      obtain ⟨lp, lk, lb, rd, -⟩ := HT.out w7 B7.out
      have RD := Lib.hid rd
      clear rd lp hqd
      go_wp2_with fail
      refine (HB.out _ RD.out).mono ?_
      rintro e8 w8 ⟨rfl, h8⟩
      have s8 := run_routeStore_new x w8
      have n8 := newRoute w8 x
      have h8' := h8.alloc h8.size (.cells (rc x) 34)
      have B8 := Lib.hid (B7.out.trans (h8'.mono B7.out.size))
      have C8 := Lib.hid (C7.out.trans (h8'.mono C7.out.size))
      have N8 := Lib.hid n8
      clear h8 h8' n8 lk lb RD
      have HX : Hid (∀ W, Below (w8.alloc (.cells (rc x) 34)).heap.size (w8.alloc (.cells (rc x) 34)) W → (preLoad ⟨w8.heap.size, 0, none⟩).run Try.prog W = .ok (.agg (pc x.pre)) W ∧ (preLoad ⟨w.heap.size, 0, none⟩).run Try.prog W = .ok (.agg (pc p)) W ∧ (keyLoad ⟨w.heap.size + 1, 0, none⟩).run Try.prog W = .ok (.agg (kc k)) W ∧ Rd W (.slice au n cu) (underL l p) ∧ Below w.heap.size w W) := fun W h => by
        obtain ⟨g1, g2, -, -, g3⟩ := HT.out W (B8.out.trans (h.mono B8.out.size))
        exact ⟨run_preLoadA (N8.out.below h (by simp)).pre, g1, g2, RU.out.later (C8.out.trans (h.mono C8.out.size)), g3⟩
      obtain ⟨q1, q2, q3, -, q5⟩ := HX.out _ (Below.refl _ _)
      have Q5 := Lib.hid q5
      clear q5
      rcases best_cases HG.out HL2.out HK.out p.bits with ⟨e', g1, g2, -, -⟩ | ⟨r', g1, hr⟩
      · rw [HXF.out] at g1
        simp only [Prod.mk.injEq] at g1
        obtain ⟨gx, ge⟩ := g1
        subst gx
        subst ge
        have hd : ((f : Int) != 0) = true := by rcases g2 with rfl | rfl <;> rfl
        clear g2
        go_wp2
        go_ret
        exact ⟨rfl, Q5.out⟩
      · rw [HXF.out] at g1
        simp only [Prod.mk.injEq] at g1
        obtain ⟨gx, ge⟩ := g1
        subst gx
        subst ge
        have HR0 := Lib.hid hr
        clear hr
        cases hf : fitsB p k with
        | false =>
          rw [hf] at HF2
          clear hf
          go_wp2_with fail
          refine (HF2.out _).mono ?_
          rintro e9 w9 ⟨rfl, h9⟩
          have FIN := Lib.hid (HX.out _ h9).2.2.2.2
          clear h9 q1 q2 q3 s8
          go_wp2
          go_ret
          exact ⟨rfl, FIN.out⟩
        | true =>
          rw [hf] at HF2
          obtain ⟨gx, ge, hget, hcase⟩ := under_best HG.out HL2.out HPB.out HPZ.out HK.out hf HR0.out
          have HGT : Hid (∀ W, Rd W (.slice au n cu) (underL l p) → Calls Try.prog 9 #[.slice au n cu, .agg (pc x.pre)] W (GetPost W (gx, ge))) := fun W h => by
            rw [← hget]; exact get_any (underL l p) x.pre x.hk _ W h
          have HCV := Lib.hid (fun W => covers_any x.pre p x.hk HPB.out W)
          have HNE := run_preNeq x.pre p
          have HCA := Lib.hid hcase
          clear hf hget hcase
          go_wp2_with fail
          refine (HF2.out _).mono ?_
          rintro e9 w9 ⟨rfl, h9⟩
          have D9 := Lib.hid h9
          clear q1 q2 q3 s8 h9
          obtain ⟨q1, q2, q3, q4, -⟩ := HX.out _ D9.out
          have Q4 := Lib.hid q4
          clear q4
          go_wp2_with fail
          refine (HGT.out _ Q4.out).mono ?_
          rintro e10 w10 ⟨rfl, h10⟩
          have D10 := Lib.hid (D9.out.trans (h10.mono D9.out.size))
          clear q1 q2 q3 h10 Q4
          obtain ⟨q1, q2, q3, q4, -⟩ := HX.out _ D10.out
          clear q4
          rcases HCA.out with ⟨rfl, hc | ⟨hc, hp⟩⟩ | ⟨rfl, hc, hp⟩
          · rw [hc] at HCV
            clear hc
            go_wp2_with fail
            refine (HCV.out _).mono ?_
            rintro e11 w11 ⟨rfl, h11⟩
            have FIN := Lib.hid (HX.out _ (D10.out.trans (h11.mono D10.out.size))).2.2.2.2
            clear q1 q2 q3 h11
            go_wp2
            go_ret
            exact ⟨rfl, FIN.out⟩
          · rw [hc] at HCV
            rw [hp] at HNE
            clear hc hp
            go_wp2_with fail
            refine (HCV.out _).mono ?_
            rintro e11 w11 ⟨rfl, h11⟩
            have D11 := D10.out.trans (h11.mono D10.out.size)
            clear q1 q2 q3 h11
            obtain ⟨q1, q2, -, -, q5⟩ := HX.out _ D11
            have FIN := Lib.hid q5
            clear q5 D11
            go_wp2
            go_ret
            exact ⟨rfl, FIN.out⟩
          · rw [hc] at HCV
            rw [hp] at HNE
            clear hc hp
            go_wp2_with fail
            refine (HCV.out _).mono ?_
            rintro e11 w11 ⟨rfl, h11⟩
            have D11 := D10.out.trans (h11.mono D10.out.size)
            clear q1 q2 q3 h11
            obtain ⟨q1, q2, -, -, q5⟩ := HX.out _ D11
            have FIN := Lib.hid q5
            clear q5 D11
            go_wp2
            go_ret
            exact ⟨rfl, FIN.out⟩
end Go.Proofs.Ytcpdpcfejpbdpaa.tableUnder
