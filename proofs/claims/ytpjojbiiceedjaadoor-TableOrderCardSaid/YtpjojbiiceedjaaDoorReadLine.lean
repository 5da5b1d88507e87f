/- route.ReadLine: a text as a route; and routes as cells: a whole one loaded, stored, built. -/
import Derived.Test.YtpjojbiiceedjaaDoorReadPre
import Derived.Test.YtpjojbiiceedjaaDoorTellB
namespace Go.Proofs.YtpjojbiiceedjaaDoor.Rr
open Go.RowKit Go.Sort
attribute [local go_sem ↓] loadVar_key loadVar_pre storeVar_key storeVar_pre build_pre

def routeLoad (a : Addr) : Sem Value := loadVar 32 a
theorem loadVar_route (a : Addr) : loadVar 32 a = routeLoad a := rfl
def routeStore (a : Addr) (v : Value) : Sem Unit := storeVar 32 a v
theorem storeVar_route (a : Addr) (v : Value) : storeVar 32 a v = routeStore a v := rfl
def routeBuild (parts : Array (Nat × Value)) : Sem Value := Instr.build 32 parts
theorem build_route (parts : Array (Nat × Value)) : Instr.build 32 parts = routeBuild parts := rfl
attribute [local go_sem ↓] loadVar_route storeVar_route build_route

theorem infoRoute : (Tryd.prog.info? 32).map (·.size) = some 19 := by kernel_rfl
theorem rc_one (p : Pre) (hop : Nat) : (rc p hop).all (·.oneCell') = true := by
  have h := pc_one p
  rw [Array.all_eq_true_iff_forall_mem] at h ⊢
  intro v hv
  rw [rc, Array.mem_push] at hv
  rcases hv with hv | hv
  · exact h v hv
  · rw [hv]; rfl
theorem run_routeLoad {w : World} {b off : Nat} {p : Pre} {hop : Nat} (h : RowAt w b off (rc p hop)) : (routeLoad ⟨b, off, none⟩).run Tryd.prog w = .ok (.agg (rc p hop)) w :=
  run_load_cells Tryd.underlying32 rfl (by rw [rc_size]; exact infoRoute) h
theorem run_routeStore {w : World} {g : Nat} {cs : Array Value} {t : TypeId} {p : Pre} {hop : Nat} (hg : w.heap[g]? = some (.cells cs t (0, 0))) (hs : cs.size = 19) :
    (routeStore ⟨g, 0, none⟩ (.agg (rc p hop))).run Tryd.prog w = .ok () (w.setRow g (rc p hop)) :=
  run_storeVar_row w g t 32 cs (rc p hop) hg (by rw [rc_size]; exact infoRoute) (by rw [hs, rc_size]) (rc_one p hop)
theorem run_routeBuild0 (w : World) : (routeBuild #[]).run Tryd.prog w = .ok (.agg (rc preZ 0)) w := by kernel_rfl
theorem run_routeBuild (p : Pre) (hop : Nat) (w : World) : (routeBuild #[(0, .agg (pc p)), (1, .int .u16 hop)]).run Tryd.prog w = .ok (.agg (rc p hop)) w := by
  obtain ⟨b, l, k⟩ := p
  kernel_rfl

theorem routeZ_lit : (#[Value.int IntKind.i64 0, Value.int IntKind.i64 0, Value.int IntKind.u8 0, Value.int IntKind.u8 0, Value.int IntKind.u8 0, Value.int IntKind.u8 0,
          Value.int IntKind.u8 0, Value.int IntKind.u8 0, Value.int IntKind.u8 0, Value.int IntKind.u8 0,
          Value.int IntKind.u8 0, Value.int IntKind.u8 0, Value.int IntKind.u8 0, Value.int IntKind.u8 0,
          Value.int IntKind.u8 0, Value.int IntKind.u8 0, Value.int IntKind.u8 0, Value.int IntKind.u8 0, Value.int IntKind.u16 0] : Array Value) = rc preZ 0 := rfl

structure OutRt (w wr : World) : Prop where
  below : Below w.heap.size w wr
  out : wr.heap[w.heap.size]? = some (.cells (rc preZ 0) 32 (0, 0))
theorem outRt_new (w : World) : OutRt w (w.alloc (.cells (rc preZ 0) 32)) := ⟨(Below.refl _ _).alloc (Nat.le_refl _) _, heap_alloc_new _ _⟩
theorem OutRt.lt {w wr : World} (h : OutRt w wr) : w.heap.size < wr.heap.size := by
  rcases Nat.lt_or_ge w.heap.size wr.heap.size with e | e
  · exact e
  · have := h.out; rw [Array.getElem?_eq_none e] at this; cases this
theorem OutRt.later {w wr w1 : World} (h : OutRt w wr) (hb : Below wr.heap.size wr w1) : OutRt w w1 := ⟨h.below.trans (hb.mono h.below.size), by rw [hb.block _ h.lt]; exact h.out⟩
theorem OutRt.alloc {w wr : World} (h : OutRt w wr) (o : Obj) : OutRt w (wr.alloc o) := h.later ((Below.refl _ _).alloc (Nat.le_refl _) o)
theorem OutRt.store {w wr : World} (h : OutRt w wr) (p : Pre) (n : Nat) : (routeStore ⟨w.heap.size, 0, none⟩ (.agg (rc p n))).run Tryd.prog wr = .ok () (wr.setRow w.heap.size (rc p n)) := run_routeStore h.out (rc_size _ _)
theorem OutRt.load {w wr : World} (h : OutRt w wr) (p : Pre) (n : Nat) : (routeLoad ⟨w.heap.size, 0, none⟩).run Tryd.prog (wr.setRow w.heap.size (rc p n)) = .ok (.agg (rc p n)) (wr.setRow w.heap.size (rc p n)) := by
  have m3 := setRow_heap _ _ (rc preZ 0) (rc p n) _ _ h.out
  exact run_routeLoad (fun j v hj => by rw [cell_of_row _ _ _ _ _ _ m3]; simpa using hj)
theorem OutRt.done {w wr : World} (h : OutRt w wr) (p : Pre) (n : Nat) : Below w.heap.size w (wr.setRow w.heap.size (rc p n)) := below_setRow h.below (Nat.le_refl _) _

/-- What ReadLine hands back. -/
def lineV : Option (Pre × Nat) → Value
  | some (p, n) => .tuple #[.agg (rc p n), .int .i64 0]
  | none => .tuple #[.agg (rc preZ 0), .int .i64 2]
def readLineV (s : List UInt8) : Value := if 60 < s.length then .tuple #[.agg (rc preZ 0), .int .i64 3] else lineV (readLineT s)

set_option maxHeartbeats 2000000 in
set_option maxRecDepth 100000 in
theorem rline_long (s : List UInt8) (w : World) (hs : s.length < 1000000) (h60 : 60 < s.length) :
    Calls Tryd.prog 7 #[.string (bs s)] w fun e w' => e = .returned (.tuple #[.agg (rc preZ 0), .int .i64 3]) ∧ Below w.heap.size w w' := by
  have hz := routeZ_lit
  have O0 := outRt_new w
  have hsz := bs_size s
  have hsI : (s.length : Int) < 1000000 := by omega
  have h60' : (60 : Int) < s.length := by omega
  have S2 := O0.store preZ 0
  have L2 := O0.load preZ 0
  have D2 := O0.done preZ 0
  have B0 := fun w => run_routeBuild0 w
  clear O0
  go_enter Tryd.func7, Tryd.ntmps7
  go_wp2
  exact bodyPost_ret (v := .tuple #[.agg (rc preZ 0), .int .i64 3]) (results_row_tmp rfl _ _ _ _ rfl rfl L2) rfl ⟨rfl, D2⟩

set_option maxHeartbeats 4000000 in
set_option maxRecDepth 100000 in
theorem rline_bad (s a b : List UInt8) (found isN : Bool) (err : Int) (n : Nat) (p : Pre) (w : World) (hs : s.length < 1000000) (h60 : ¬ 60 < s.length) (hno : (err != 0) = true ∨ ((err != 0) = false ∧ isN = false)) (h : Env w)
    (C1 : Hid (∀ w, Env w → Calls Tryd.prog 19 #[.string (bs s), .string (bs [32])] w fun e w' => e = .returned (.tuple #[.string (bs a), .string (bs b), .bool found]) ∧ Below w.heap.size w w'))
    (C2 : Hid (∀ w, Env w → Calls Tryd.prog 20 #[.string (bs a)] w fun e w' => e = .returned (.tuple #[.agg (pc p), .int .i64 err]) ∧ Below w.heap.size w w'))
    (C3 : Hid (∀ w, Calls Tryd.prog 21 #[.string (bs b), .int .i64 65535] w fun e w' => e = .returned (.tuple #[.int .i64 n, .bool isN]) ∧ Below w.heap.size w w')) :
    Calls Tryd.prog 7 #[.string (bs s)] w fun e w' => e = .returned (.tuple #[.agg (rc preZ 0), .int .i64 2]) ∧ Below w.heap.size w w' := by
  have hz := routeZ_lit
  have hzp := preZ_lit
  have O0 := outRt_new w
  have E0 := h.alloc (.cells (rc preZ 0) 32)
  have hsz := bs_size s
  have hsI : (s.length : Int) < 1000000 := by omega
  have h60' : ¬ (60 : Int) < s.length := by omega
  have B0 := fun w => run_routeBuild0 w
  rcases hno with he | ⟨he, rfl⟩
  all_goals
    go_enter Tryd.func7, Tryd.ntmps7
    go_wp2_with fail
    refine (C1.out _ E0).mono ?_
    rintro e w1 ⟨rfl, h1⟩
    have O1 := O0.later h1
    have E1 := E0.stay h1 (Nat.le_refl _)
    clear O0 E0 h1
    go_wp2_with fail
    refine (C2.out _ E1).mono ?_
    rintro e w2 ⟨rfl, h2⟩
    have O2 := (O1.later h2).alloc (.cells (pc p) 29)
    have S1 := pre_laid w2 p
    clear O1 E1 h2
    go_wp2_with fail
    clear S1
    generalize w2.alloc (.cells (pc p) 29) = W2 at *
    refine (C3.out _).mono ?_
    rintro e w3 ⟨rfl, h3⟩
    have O3 := O2.later h3
    have S4 := O3.store preZ 0
    have L4 := O3.load preZ 0
    have D4 := O3.done preZ 0
    clear O2 O3 h3
    go_wp2
    exact bodyPost_ret (v := .tuple #[.agg (rc preZ 0), .int .i64 2]) (results_row_tmp rfl _ _ _ _ rfl rfl L4) rfl ⟨rfl, D4⟩

set_option maxHeartbeats 4000000 in
set_option maxRecDepth 100000 in
theorem rline_read (s a b : List UInt8) (found : Bool) (n : Nat) (p : Pre) (w : World) (hs : s.length < 1000000) (h60 : ¬ 60 < s.length) (hn : n < 65536) (h : Env w)
    (C1 : Hid (∀ w, Env w → Calls Tryd.prog 19 #[.string (bs s), .string (bs [32])] w fun e w' => e = .returned (.tuple #[.string (bs a), .string (bs b), .bool found]) ∧ Below w.heap.size w w'))
    (C2 : Hid (∀ w, Env w → Calls Tryd.prog 20 #[.string (bs a)] w fun e w' => e = .returned (.tuple #[.agg (pc p), .int .i64 0]) ∧ Below w.heap.size w w'))
    (C3 : Hid (∀ w, Calls Tryd.prog 21 #[.string (bs b), .int .i64 65535] w fun e w' => e = .returned (.tuple #[.int .i64 n, .bool true]) ∧ Below w.heap.size w w')) :
    Calls Tryd.prog 7 #[.string (bs s)] w fun e w' => e = .returned (.tuple #[.agg (rc p n), .int .i64 0]) ∧ Below w.heap.size w w' := by
  have hz := routeZ_lit
  have hzp := preZ_lit
  have O0 := outRt_new w
  have E0 := h.alloc (.cells (rc preZ 0) 32)
  have hsz := bs_size s
  have hsI : (s.length : Int) < 1000000 := by omega
  have h60' : ¬ (60 : Int) < s.length := by omega
  have hnI : (n : Int) < 65536 := by omega
  have B1 := fun w => run_routeBuild p n w
  go_enter Tryd.func7, Tryd.ntmps7
  go_wp2_with fail
  refine (C1.out _ E0).mono ?_
  rintro e w1 ⟨rfl, h1⟩
  have O1 := O0.later h1
  have E1 := E0.stay h1 (Nat.le_refl _)
  clear O0 E0 h1
  go_wp2_with fail
  refine (C2.out _ E1).mono ?_
  rintro e w2 ⟨rfl, h2⟩
  have O2 := (O1.later h2).alloc (.cells (pc p) 29)
  have S1 := pre_laid w2 p
  have L1 := rowAt_new w2 (pc p) 29
  have hlt2 : w2.heap.size < (w2.alloc (.cells (pc p) 29)).heap.size := by simp
  clear O1 E1 h2
  go_wp2_with fail
  clear S1
  generalize w2.alloc (.cells (pc p) 29) = W2 at *
  generalize w2.heap.size = g at *
  refine (C3.out _).mono ?_
  rintro e w3 ⟨rfl, h3⟩
  have O3 := O2.later h3
  have L3 := run_preLoad (L1.below h3 hlt2)
  have S4 := O3.store p n
  have L4 := O3.load p n
  have D4 := O3.done p n
  clear O2 O3 h3 L1
  go_wp2
  exact bodyPost_ret (v := .tuple #[.agg (rc p n), .int .i64 0]) (results_row_tmp rfl _ _ _ _ rfl rfl L4) rfl ⟨rfl, D4⟩

theorem readLine_any (s : List UInt8) (w : World) (h : Env w) (hs : s.length < 1000000) :
    Calls Tryd.prog 7 #[.string (bs s)] w fun e w' => e = .returned (readLineV s) ∧ Below w.heap.size w w' := by
  unfold readLineV
  by_cases h60 : 60 < s.length
  · rw [if_pos h60]; exact rline_long s w hs h60
  · rw [if_neg h60]
    have hl := ahead_le 32 s
    have C1 := Lib.hid (fun w (h : Env w) => cut_text s 32 (by omega) w h)
    have C2 := Lib.hid (fun w (h : Env w) => readPre_any (ahead 32 s) w h (by omega))
    have C3 := Lib.hid (fun w => number_any (behind 32 s) 65535 w (by decide) (by omega))
    unfold readPreV at C2
    rw [if_neg (show ¬ 60 < (ahead 32 s).length by omega)] at C2
    unfold numR at C3
    simp only [numV_eq] at C3
    unfold readLineT
    cases hk : readPreT (ahead 32 s) with
    | none =>
      rw [hk] at C2
      exact rline_bad s _ _ _ _ _ _ _ w hs h60 (.inl rfl) h C1 C2 C3
    | some p =>
      rw [hk] at C2
      cases hn : readNum 65535 (behind 32 s) with
      | none =>
        rw [hn] at C3
        exact rline_bad s _ _ _ _ _ _ _ w hs h60 (.inr ⟨rfl, rfl⟩) h C1 C2 C3
      | some n =>
        rw [hn] at C3
        exact rline_read s _ _ _ n p w hs h60 (by have := (readNum_is hn).2; omega) h C1 C2 C3

end Go.Proofs.YtpjojbiiceedjaaDoor.Rr
