/- route.ReadPrefix: a text as a prefix. -/
import Derived.Test.YtpjojbiiceedjaaDoorReadKey
import Derived.Test.YtpjojbiiceedjaaDoorKeyMay
namespace Go.Proofs.YtpjojbiiceedjaaDoor.Rr
open Go.RowKit Go.Sort
attribute [local go_sem ↓] loadVar_key loadVar_pre storeVar_key storeVar_pre

def preZ : Pre := ⟨0, 0, zkey⟩
theorem preZ_lit : (#[Value.int IntKind.i64 0, Value.int IntKind.i64 0, Value.int IntKind.u8 0, Value.int IntKind.u8 0, Value.int IntKind.u8 0, Value.int IntKind.u8 0,
          Value.int IntKind.u8 0, Value.int IntKind.u8 0, Value.int IntKind.u8 0, Value.int IntKind.u8 0,
          Value.int IntKind.u8 0, Value.int IntKind.u8 0, Value.int IntKind.u8 0, Value.int IntKind.u8 0,
          Value.int IntKind.u8 0, Value.int IntKind.u8 0, Value.int IntKind.u8 0, Value.int IntKind.u8 0] : Array Value) = pc preZ := rfl

/-- A prefix that is built, behind a name. -/
def preBuild (parts : Array (Nat × Value)) : Sem Value := Instr.build 29 parts
theorem build_pre (parts : Array (Nat × Value)) : Instr.build 29 parts = preBuild parts := rfl
theorem run_preBuild (b l : Int) (c : Nat → Nat) (w : World) : (preBuild #[(0, .int .i64 b), (1, .int .i64 l), (2, .agg (kc c))]).run Tryd.prog w = .ok (.agg (pc ⟨b, l, c⟩)) w := by kernel_rfl
theorem run_preBuild0 (w : World) : (preBuild #[]).run Tryd.prog w = .ok (.agg (pc preZ)) w := by kernel_rfl
attribute [local go_sem ↓] build_pre

theorem pre_laid (w : World) (p : Pre) : (preStore ⟨w.heap.size, 0, none⟩ (.agg (pc p))).run Tryd.prog (w.alloc (.cells (pc preZ) 29)) = .ok () (w.alloc (.cells (pc p) 29)) := by
  rw [run_preStore (heap_alloc_new _ _) (pc_size _), World.setRow_alloc_new]
theorem pre_laid_load (w : World) (p : Pre) : (preLoad ⟨w.heap.size, 0, none⟩).run Tryd.prog (w.alloc (.cells (pc p) 29)) = .ok (.agg (pc p)) (w.alloc (.cells (pc p) 29)) :=
  run_preLoad (rowAt_new w (pc p) _)

/-- What goes out, in a block of its own, as yet nothing. -/
structure OutPre (w wr : World) : Prop where
  below : Below w.heap.size w wr
  out : wr.heap[w.heap.size]? = some (.cells (pc preZ) 29 (0, 0))
theorem outPre_new (w : World) : OutPre w (w.alloc (.cells (pc preZ) 29)) := ⟨(Below.refl _ _).alloc (Nat.le_refl _) _, heap_alloc_new _ _⟩
theorem OutPre.lt {w wr : World} (h : OutPre w wr) : w.heap.size < wr.heap.size := by
  rcases Nat.lt_or_ge w.heap.size wr.heap.size with e | e
  · exact e
  · have := h.out; rw [Array.getElem?_eq_none e] at this; cases this
theorem OutPre.later {w wr w1 : World} (h : OutPre w wr) (hb : Below wr.heap.size wr w1) : OutPre w w1 := ⟨h.below.trans (hb.mono h.below.size), by rw [hb.block _ h.lt]; exact h.out⟩
theorem OutPre.alloc {w wr : World} (h : OutPre w wr) (o : Obj) : OutPre w (wr.alloc o) := h.later ((Below.refl _ _).alloc (Nat.le_refl _) o)
theorem OutPre.store {w wr : World} (h : OutPre w wr) (p : Pre) : (preStore ⟨w.heap.size, 0, none⟩ (.agg (pc p))).run Tryd.prog wr = .ok () (wr.setRow w.heap.size (pc p)) := run_preStore h.out (pc_size _)
theorem OutPre.load {w wr : World} (h : OutPre w wr) (p : Pre) : (preLoad ⟨w.heap.size, 0, none⟩).run Tryd.prog (wr.setRow w.heap.size (pc p)) = .ok (.agg (pc p)) (wr.setRow w.heap.size (pc p)) := by
  have m3 := setRow_heap _ _ (pc preZ) (pc p) _ _ h.out
  exact run_preLoad (fun j v hj => by rw [cell_of_row _ _ _ _ _ _ m3]; simpa using hj)
theorem OutPre.done {w wr : World} (h : OutPre w wr) (p : Pre) : Below w.heap.size w (wr.setRow w.heap.size (pc p)) := below_setRow h.below (Nat.le_refl _) _

theorem numV_eq (o : Option Nat) : numV o = .tuple #[.int .i64 (o.getD 0 : Nat), .bool o.isSome] := by cases o <;> rfl

/-- What ReadPrefix hands back. -/
def readPreV (s : List UInt8) : Value := if 60 < s.length then .tuple #[.agg (pc preZ), .int .i64 3] else match readPreT s with
  | some p => .tuple #[.agg (pc p), .int .i64 0]
  | none => .tuple #[.agg (pc preZ), .int .i64 2]

set_option maxHeartbeats 2000000 in
set_option maxRecDepth 100000 in
theorem pre_long (s : List UInt8) (w : World) (hs : s.length < 1000000) (h60 : 60 < s.length) :
    Calls Tryd.prog 20 #[.string (bs s)] w fun e w' => e = .returned (.tuple #[.agg (pc preZ), .int .i64 3]) ∧ Below w.heap.size w w' := by
  have hz := preZ_lit
  have O0 := outPre_new w
  have hsz := bs_size s
  have hsI : (s.length : Int) < 1000000 := by omega
  have h60' : (60 : Int) < s.length := by omega
  have S2 := O0.store preZ
  have L2 := O0.load preZ
  have D2 := O0.done preZ
  have B0 := fun w => run_preBuild0 w
  clear O0
  go_enter Tryd.func20, Tryd.ntmps20
  go_wp2
  exact bodyPost_ret (v := .tuple #[.agg (pc preZ), .int .i64 3]) (results_row_tmp rfl _ _ _ _ rfl rfl L2) rfl ⟨rfl, D2⟩

set_option maxHeartbeats 4000000 in
set_option maxRecDepth 100000 in
theorem pre_bad (s a b : List UInt8) (found isK isN : Bool) (kb n : Nat) (k : Nat → Nat) (w : World) (hs : s.length < 1000000) (h60 : ¬ 60 < s.length) (hno : isK = false ∨ (isK = true ∧ isN = false)) (h : Env w)
    (C1 : Hid (∀ w, Env w → Calls Tryd.prog 19 #[.string (bs s), .string (bs [47])] w fun e w' => e = .returned (.tuple #[.string (bs a), .string (bs b), .bool found]) ∧ Below w.heap.size w w'))
    (C2 : Hid (∀ w, Env w → Calls Tryd.prog 43 #[.string (bs a)] w fun e w' => e = .returned (.tuple #[.agg (kc k), .int .i64 kb, .bool isK]) ∧ Below w.heap.size w w'))
    (C3 : Hid (∀ w, Calls Tryd.prog 21 #[.string (bs b), .int .i64 kb] w fun e w' => e = .returned (.tuple #[.int .i64 n, .bool isN]) ∧ Below w.heap.size w w')) :
    Calls Tryd.prog 20 #[.string (bs s)] w fun e w' => e = .returned (.tuple #[.agg (pc preZ), .int .i64 2]) ∧ Below w.heap.size w w' := by
  have hz := preZ_lit
  have hzk := zkey_lit
  have O0 := outPre_new w
  have E0 := h.alloc (.cells (pc preZ) 29)
  have hsz := bs_size s
  have hsI : (s.length : Int) < 1000000 := by omega
  have h60' : ¬ (60 : Int) < s.length := by omega
  have B0 := fun w => run_preBuild0 w
  have B1 := fun w => run_preBuild kb n k w
  rcases hno with rfl | ⟨rfl, rfl⟩
  all_goals
    go_enter Tryd.func20, Tryd.ntmps20
    go_wp2_with fail
    refine (C1.out _ E0).mono ?_
    rintro e w1 ⟨rfl, h1⟩
    have O1 := O0.later h1
    have E1 := E0.stay h1 (Nat.le_refl _)
    clear O0 E0 h1
    go_wp2_with fail
    refine (C2.out _ E1).mono ?_
    rintro e w2 ⟨rfl, h2⟩
    have O2 := (O1.later h2).alloc (.cells (kc k) 27)
    have S1 := key_laid w2 k
    have L1 := rowAt_new w2 (kc k) 27
    have hlt2 : w2.heap.size < (w2.alloc (.cells (kc k) 27)).heap.size := by simp
    clear O1 E1 h2
    go_wp2_with fail
    clear S1
    generalize w2.alloc (.cells (kc k) 27) = W2 at *
    generalize w2.heap.size = g at *
    refine (C3.out _).mono ?_
    rintro e w3 ⟨rfl, h3⟩
    have O3 := (O2.later h3).alloc (.cells (pc ⟨kb, n, k⟩) 29)
    have L3 := run_keyLoad (L1.below h3 hlt2)
    have S3 := pre_laid w3 ⟨kb, n, k⟩
    have S4 := O3.store preZ
    have L4 := O3.load preZ
    have D4 := O3.done preZ
    clear O2 O3 h3 L1
    go_wp2
    exact bodyPost_ret (v := .tuple #[.agg (pc preZ), .int .i64 2]) (results_row_tmp rfl _ _ _ _ rfl rfl L4) rfl ⟨rfl, D4⟩

def preOr (m : Bool) (p : Pre) : Value := if m then .tuple #[.agg (pc p), .int .i64 0] else .tuple #[.agg (pc preZ), .int .i64 2]

set_option maxHeartbeats 4000000 in
set_option maxRecDepth 100000 in
theorem pre_read (s a b : List UInt8) (found m : Bool) (kb n : Nat) (k : Nat → Nat) (w : World) (hs : s.length < 1000000) (h60 : ¬ 60 < s.length) (h : Env w)
    (C1 : Hid (∀ w, Env w → Calls Tryd.prog 19 #[.string (bs s), .string (bs [47])] w fun e w' => e = .returned (.tuple #[.string (bs a), .string (bs b), .bool found]) ∧ Below w.heap.size w w'))
    (C2 : Hid (∀ w, Env w → Calls Tryd.prog 43 #[.string (bs a)] w fun e w' => e = .returned (.tuple #[.agg (kc k), .int .i64 kb, .bool true]) ∧ Below w.heap.size w w'))
    (C3 : Hid (∀ w, Calls Tryd.prog 21 #[.string (bs b), .int .i64 kb] w fun e w' => e = .returned (.tuple #[.int .i64 n, .bool true]) ∧ Below w.heap.size w w'))
    (C4 : Hid (∀ w, Calls Tryd.prog 25 #[.agg (pc ⟨kb, n, k⟩)] w fun e w' => e = .returned (.bool m) ∧ Below w.heap.size w w')) :
    Calls Tryd.prog 20 #[.string (bs s)] w fun e w' => e = .returned (preOr m ⟨kb, n, k⟩) ∧ Below w.heap.size w w' := by
  have hz := preZ_lit
  have hzk := zkey_lit
  have O0 := outPre_new w
  have E0 := h.alloc (.cells (pc preZ) 29)
  have hsz := bs_size s
  have hsI : (s.length : Int) < 1000000 := by omega
  have h60' : ¬ (60 : Int) < s.length := by omega
  have B0 := fun w => run_preBuild0 w
  have B1 := fun w => run_preBuild kb n k w
  go_enter Tryd.func20, Tryd.ntmps20
  go_wp2_with fail
  refine (C1.out _ E0).mono ?_
  rintro e w1 ⟨rfl, h1⟩
  have O1 := O0.later h1
  have E1 := E0.stay h1 (Nat.le_refl _)
  clear O0 E0 h1
  go_wp2_with fail
  refine (C2.out _ E1).mono ?_
  rintro e w2 ⟨rfl, h2⟩
  have O2 := (O1.later h2).alloc (.cells (kc k) 27)
  have S1 := key_laid w2 k
  have L1 := rowAt_new w2 (kc k) 27
  have hlt2 : w2.heap.size < (w2.alloc (.cells (kc k) 27)).heap.size := by simp
  clear O1 E1 h2
  go_wp2_with fail
  clear S1
  generalize w2.alloc (.cells (kc k) 27) = W2 at *
  generalize w2.heap.size = g at *
  refine (C3.out _).mono ?_
  rintro e w3 ⟨rfl, h3⟩
  have O3 := (O2.later h3).alloc (.cells (pc ⟨kb, n, k⟩) 29)
  have L3 := run_keyLoad (L1.below h3 hlt2)
  have S3 := pre_laid w3 ⟨kb, n, k⟩
  have L4 := pre_laid_load w3 ⟨kb, n, k⟩
  have r4 := rowAt_new w3 (pc ⟨kb, n, k⟩) 29
  have hlt4 : w3.heap.size < (w3.alloc (.cells (pc ⟨kb, n, k⟩) 29)).heap.size := by simp
  clear O2 h3 L1
  go_wp2_with fail
  clear S3 L3 L4
  generalize w3.alloc (.cells (pc ⟨kb, n, k⟩) 29) = W3 at *
  generalize w3.heap.size = g3 at *
  refine (C4.out _).mono ?_
  rintro e w4 ⟨rfl, h4⟩
  have O4 := O3.later h4
  cases m
  · have S5 := O4.store preZ
    have L5 := O4.load preZ
    have D5 := O4.done preZ
    clear O3 O4 h4 r4
    go_wp2
    exact bodyPost_ret (v := .tuple #[.agg (pc preZ), .int .i64 2]) (results_row_tmp rfl _ _ _ _ rfl rfl L5) rfl ⟨rfl, D5⟩
  · have L6 := run_preLoad (r4.below h4 hlt4)
    have S5 := O4.store ⟨kb, n, k⟩
    have L5 := O4.load ⟨kb, n, k⟩
    have D5 := O4.done ⟨kb, n, k⟩
    clear O3 O4 h4 r4
    go_wp2
    exact bodyPost_ret (v := .tuple #[.agg (pc ⟨kb, n, k⟩), .int .i64 0]) (results_row_tmp rfl _ _ _ _ rfl rfl L5) rfl ⟨rfl, D5⟩

theorem readPre_any (s : List UInt8) (w : World) (h : Env w) (hs : s.length < 1000000) :
    Calls Tryd.prog 20 #[.string (bs s)] w fun e w' => e = .returned (readPreV s) ∧ Below w.heap.size w w' := by
  unfold readPreV
  by_cases h60 : 60 < s.length
  · rw [if_pos h60]; exact pre_long s w hs h60
  · rw [if_neg h60]
    have hl := ahead_le 47 s
    obtain ⟨kb, hkb⟩ : ∃ kb : Nat, keyBits (ahead 47 s) = kb := ⟨(keyBits (ahead 47 s)).toNat, by unfold keyBits; split <;> rfl⟩
    have hkb2 : kb ≤ 65535 := by unfold keyBits at hkb; split at hkb <;> omega
    have C1 := Lib.hid (fun w (h : Env w) => cut_text s 47 (by omega) w h)
    have C2 := Lib.hid (fun w (h : Env w) => rkey_any (ahead 47 s) w h (by omega))
    have C3 := Lib.hid (fun w => number_any (behind 47 s) kb w hkb2 (by omega))
    unfold rkeyV at C2
    rw [hkb] at C2
    unfold numR at C3
    simp only [numV_eq] at C3
    unfold readPreT
    rw [hkb, Int.toNat_natCast]
    cases hk : readKeyT (ahead 47 s) with
    | none =>
      rw [hk] at C2
      exact pre_bad s _ _ _ _ _ kb _ _ w hs h60 (.inl rfl) h C1 C2 C3
    | some k =>
      rw [hk] at C2
      cases hn : readNum kb (behind 47 s) with
      | none =>
        rw [hn] at C3
        exact pre_bad s _ _ _ _ _ kb _ _ w hs h60 (.inr ⟨rfl, rfl⟩) h C1 C2 C3
      | some n =>
        rw [hn] at C3
        have C4 := Lib.hid (fun w => may_any ⟨kb, n, k⟩ (readKeyT_bytes hk) w)
        refine (pre_read s _ _ _ _ kb n k w hs h60 h C1 C2 C3 C4).mono fun e w' ⟨he, hw⟩ => ⟨?_, hw⟩
        rw [he]
        cases hm : mayB ⟨kb, n, k⟩ <;> simp [preOr, hm]

end Go.Proofs.YtpjojbiiceedjaaDoor.Rr
