/- route.Key, Prefix, Line: what each call hands back. -/
import Derived.Test.YtpjojbiiceedjaaDoorTell
import Derived.Test.YtpjojbiiceedjaaDoorKeyPreEq
namespace Go.Proofs.YtpjojbiiceedjaaDoor.Rr
open Go.RowKit Go.Sort
attribute [local go_sem ↓] loadVar_key loadVar_pre

def keyT (k : Nat → Nat) (bits : Int) : List UInt8 := if bits = 32 then shortT k else wideT k
def keyOk (k : Nat → Nat) (bits : Int) : Bool := (bits == 32 || bits == 128) && endsB k bits.toNat
def preT (p : Pre) : List UInt8 := joinTo [47] [keyT p.key p.bits, Lib.decDigits p.len.toNat] 2
def lineT (p : Pre) (hop : Nat) : List UInt8 := joinTo [32] [preT p, Lib.decDigits hop] 2

theorem keyText_any (k : Nat → Nat) (bits : Int) (w : World) (hk : Bytes16 k) (h : Env w) (hb : bits = 32 ∨ bits = 128) :
    Calls Tryd.prog 38 #[.agg (kc k), .int .i64 bits] w fun e w' => e = .returned (.string (bs (keyT k bits))) ∧ Below w.heap.size w w' := by
  rcases hb with rfl | rfl
  · exact keyText_short k w hk h
  · exact keyText_wide k w hk

theorem bits_cases {bits : Int} (h : bits = 32 ∨ bits = 128) : ((bits != 32) = false) ∨ ((bits != 32) = true ∧ (bits != 128) = false) := by
  rcases h with rfl | rfl
  · exact .inl rfl
  · exact .inr ⟨rfl, rfl⟩

def keyR (k : Nat → Nat) (bits : Int) : Value := if keyOk k bits = true then .tuple #[.string (bs (keyT k bits)), .int .i64 0] else .tuple #[.string (bs []), .int .i64 1]

theorem may_facts {p : Pre} (hk : Bytes16 p.key) (h : mayB p = true) : (p.bits = 32 ∨ p.bits = 128) ∧ 0 ≤ p.len ∧ p.len ≤ p.bits := by
  obtain ⟨h1, h2, h3, _⟩ := (mayB_iff p hk).1 h
  exact ⟨h1, h2, h3⟩

theorem keyT_len {k : Nat → Nat} (hk : Bytes16 k) (bits : Int) : (keyT k bits).length ≤ 100 := by
  have hd : ∀ i, (Lib.decDigits (k i)).length ≤ 3 := fun i => dec_length (k := 2) (Nat.lt_trans (hk i) (by decide))
  unfold keyT
  split
  · have h0 := hd 0; have h1 := hd 1; have h2 := hd 2; have h3 := hd 3
    simp [shortT, joinTo]
    omega
  · have : ∀ i, i ≤ 32 → (joinTo [] (wideParts k) i).length ≤ i := by
      intro i
      induction i with
      | zero => intro _; simp [joinTo]
      | succ i ih =>
        intro hi
        have := ih (by omega)
        have e : (wideParts k).getD i [] = [hexD (stepN k i)] := by
          rw [List.getD_eq_getElem?_getD]
          simp [wideParts, show i < 32 by omega]
        simp only [joinTo, e, ite_self, List.append_nil, List.length_append, List.length_singleton]
        omega
    exact Nat.le_trans (this 32 (Nat.le_refl _)) (by decide)

set_option maxHeartbeats 1000000 in
set_option maxRecDepth 100000 in
theorem prefix_no (p : Pre) (w : World) (hk : Bytes16 p.key) (hm : mayB p = false) :
    Calls Tryd.prog 16 #[.agg (pc p)] w fun e w' => e = .returned (.tuple #[.string (bs []), .int .i64 1]) ∧ Below w.heap.size w w' := by
  have hr := rowAt_new w (pc p) 29
  have hb : Below w.heap.size w (w.alloc (.cells (pc p) 29)) := (Below.refl _ _).alloc (Nat.le_refl _) _
  have L := run_preLoad hr
  have C := may_any p hk (w.alloc (.cells (pc p) 29))
  rw [hm] at C
  have HC := Lib.hid C
  clear C hm
  go_enter Tryd.func16, Tryd.ntmps16
  go_wp2_with fail
  refine HC.out.mono ?_
  rintro e w1 ⟨rfl, h1⟩
  go_wp2
  go_ret2
  exact ⟨rfl, hb.trans (h1.mono hb.size)⟩

set_option maxHeartbeats 2000000 in
set_option maxRecDepth 100000 in
theorem prefix_yes (p : Pre) (w : World) (hk : Bytes16 p.key) (h : Env w) (hm : mayB p = true) :
    Calls Tryd.prog 16 #[.agg (pc p)] w fun e w' => e = .returned (.tuple #[.string (bs (preT p)), .int .i64 0]) ∧ Below w.heap.size w w' := by
  have hr := rowAt_new w (pc p) 29
  have hb : Below w.heap.size w (w.alloc (.cells (pc p) 29)) := (Below.refl _ _).alloc (Nat.le_refl _) _
  have hE := h.alloc (.cells (pc p) 29)
  have L := run_preLoad hr
  have C := may_any p hk (w.alloc (.cells (pc p) 29))
  rw [hm] at C
  have HC := Lib.hid C
  obtain ⟨m1, m2, m3⟩ := may_facts hk hm
  obtain ⟨n, hn⟩ : ∃ n : Nat, p.len = n := ⟨p.len.toNat, by omega⟩
  have hn128 : n ≤ 128 := by omega
  have HT : Hid (preT p = joinTo [47] [keyT p.key p.bits, Lib.decDigits n] 2) := by show _ = _; unfold preT; rw [hn, Int.toNat_natCast]
  have HM := Lib.hid m1
  have HN := Lib.hid hn
  have hz : w.heap.size < (w.alloc (.cells (pc p) 29)).heap.size := by simp
  clear C hm m1 m2 m3 hn
  go_enter Tryd.func16, Tryd.ntmps16
  go_wp2_with fail
  refine HC.out.mono ?_
  rintro e w1 ⟨rfl, h1⟩
  have hr1 := hr.below h1 hz
  have hb1 := hb.trans (h1.mono hb.size)
  have E1 := hE.stay h1 (Nat.le_refl _)
  clear hr h1 hE L HC hz hb
  go_wp2
  have L := fun d os => run_keyLoad (rowAt_regrown hr1.key d os)
  have c0 := cell_regrown hr1.bits
  have c1 := cell_regrown hr1.len
  have C1 := fun d os => Calls.regrown_of (keyText_any p.key p.bits (grow (redrawn w1 d) os) hk (E1.regrown d os) HM.out)
  have C2 := fun d os => Calls.regrown_of (itoa_any n (by omega) (grow (redrawn w1 d) os) (E1.regrown d os))
  simp only [Nat.zero_add] at L c1
  rw [HN.out] at c1
  refine wp_region_quiet_tail_below 8 (by kernel_rfl) (by kernel_rfl) ?_
  simp only [List.take_succ_cons, List.take_zero, List.drop_succ_cons, List.drop_zero]
  repeat (go_big_quiet_step ((with_reducible first | exact C1 _ _ | exact C2 _ _)))
  refine wpQuiet_nil fun w2 hw2 => ?_
  have hb2 : Below w.heap.size w w2 := by
    obtain ⟨p, rfl⟩ := hw2
    exact hb1.trans ((below_regrown w1 p.d p.os).mono hb1.size)
  clear hw2 L c0 c1 C1 C2 E1 hr1
  go_wp2_with fail
  have d1 := keyT_len hk p.bits
  have d2 : (Lib.decDigits n).length ≤ 100 := Nat.le_trans (dec_length (k := 2) (by omega)) (by decide)
  refine (joined_new [47] [keyT p.key p.bits, Lib.decDigits n] w2 (by decide) (by simp [d1, d2]) (by simp)).mono ?_
  rintro e w3 ⟨rfl, h3⟩
  clear d1 d2
  go_wp2
  go_ret2
  exact ⟨by rw [HT.out]; rfl, hb2.trans (h3.mono hb2.size)⟩

def preR (p : Pre) : Value := if mayB p = true then .tuple #[.string (bs (preT p)), .int .i64 0] else .tuple #[.string (bs []), .int .i64 1]

theorem tellPrefix_any (p : Pre) (w : World) (hk : Bytes16 p.key) (h : Env w) :
    Calls Tryd.prog 16 #[.agg (pc p)] w fun e w' => e = .returned (preR p) ∧ Below w.heap.size w w' := by
  unfold preR
  cases hm : mayB p with
  | true => exact prefix_yes p w hk h hm
  | false => exact prefix_no p w hk hm

/-- A route as a row of cells: its prefix, and where it leads. -/
def rc (p : Pre) (hop : Nat) : Array Value := (pc p).push (.int .u16 hop)
theorem rc_size (p : Pre) (hop : Nat) : (rc p hop).size = 19 := by simp [rc, pc_size]
theorem rc_hop (p : Pre) (hop : Nat) : (rc p hop)[18]? = some (.int .u16 hop) := by
  rw [rc, Array.getElem?_push, if_pos (by rw [pc_size])]
theorem rc_pre (p : Pre) (hop : Nat) (i : Nat) (h : i < 18) : (rc p hop)[i]? = (pc p)[i]? := by
  rw [rc, Array.getElem?_push, if_neg (by rw [pc_size]; omega)]
theorem _root_.Go.Proofs.YtpjojbiiceedjaaDoor.RowAt.pre {w : World} {b off : Nat} {p : Pre} {hop : Nat} (h : RowAt w b off (rc p hop)) : RowAt w b off (pc p) := fun j v hv => by
  have hj : j < 18 := by
    by_cases e : j < 18
    · exact e
    · rw [Array.getElem?_eq_none (by rw [pc_size]; omega)] at hv; exact absurd hv (by simp)
  exact h j v (by rw [rc_pre _ _ _ hj]; exact hv)
theorem _root_.Go.Proofs.YtpjojbiiceedjaaDoor.RowAt.hop {w : World} {b off : Nat} {p : Pre} {hop : Nat} (h : RowAt w b off (rc p hop)) : w.cell? ⟨b, off + 18, none⟩ = some (.int .u16 hop) := h 18 _ (rc_hop p hop)

theorem preT_len {p : Pre} (hk : Bytes16 p.key) (h : mayB p = true) : (preT p).length ≤ 100 := by
  obtain ⟨m1, m2, m3⟩ := may_facts hk h
  have hd : ∀ i, (Lib.decDigits (p.key i)).length ≤ 3 := fun i => dec_length (k := 2) (Nat.lt_trans (hk i) (by decide))
  have d2 : (Lib.decDigits p.len.toNat).length ≤ 3 := dec_length (k := 2) (by omega)
  have d1 : (keyT p.key p.bits).length ≤ 32 := by
    unfold keyT
    split
    · have h0 := hd 0; have h1 := hd 1; have h2 := hd 2; have h3 := hd 3
      simp [shortT, joinTo]
      omega
    · have : ∀ i, i ≤ 32 → (joinTo [] (wideParts p.key) i).length ≤ i := by
        intro i
        induction i with
        | zero => intro _; simp [joinTo]
        | succ i ih =>
          intro hi
          have := ih (by omega)
          have e : (wideParts p.key).getD i [] = [hexD (stepN p.key i)] := by
            rw [List.getD_eq_getElem?_getD]
            simp [wideParts, show i < 32 by omega]
          simp only [joinTo, e, ite_self, List.append_nil, List.length_append, List.length_singleton]
          omega
      exact this 32 (Nat.le_refl _)
  simp [preT, joinTo]
  omega

set_option maxHeartbeats 1000000 in
set_option maxRecDepth 100000 in
theorem line_no (p : Pre) (hop : Nat) (w : World) (hk : Bytes16 p.key) (h : Env w) (hm : mayB p = false) :
    Calls Tryd.prog 6 #[.agg (rc p hop)] w fun e w' => e = .returned (.tuple #[.string (bs []), .int .i64 1]) ∧ Below w.heap.size w w' := by
  have hr := rowAt_new w (rc p hop) 32
  have hb : Below w.heap.size w (w.alloc (.cells (rc p hop) 32)) := (Below.refl _ _).alloc (Nat.le_refl _) _
  have L := run_preLoad hr.pre
  have C := tellPrefix_any p (w.alloc (.cells (rc p hop) 32)) hk (h.alloc _)
  unfold preR at C
  rw [hm] at C
  have HC := Lib.hid C
  clear C hm
  go_enter Tryd.func6, Tryd.ntmps6
  go_wp2_with fail
  refine HC.out.mono ?_
  rintro e w1 ⟨rfl, h1⟩
  go_wp2
  go_ret2
  exact ⟨rfl, hb.trans (h1.mono hb.size)⟩

set_option maxHeartbeats 2000000 in
set_option maxRecDepth 100000 in
theorem line_yes (p : Pre) (hop : Nat) (w : World) (hk : Bytes16 p.key) (hh : hop < 65536) (h : Env w) (hm : mayB p = true) :
    Calls Tryd.prog 6 #[.agg (rc p hop)] w fun e w' => e = .returned (.tuple #[.string (bs (lineT p hop)), .int .i64 0]) ∧ Below w.heap.size w w' := by
  have hr := rowAt_new w (rc p hop) 32
  have hb : Below w.heap.size w (w.alloc (.cells (rc p hop) 32)) := (Below.refl _ _).alloc (Nat.le_refl _) _
  have L := run_preLoad hr.pre
  have hE := h.alloc (.cells (rc p hop) 32)
  have C := tellPrefix_any p (w.alloc (.cells (rc p hop) 32)) hk (h.alloc _)
  unfold preR at C
  rw [hm] at C
  have HC := Lib.hid C
  have HM := Lib.hid hm
  have hz : w.heap.size < (w.alloc (.cells (rc p hop) 32)).heap.size := by simp
  have hhI : (hop : Int) < 65536 := by omega
  have hh0 : (0 : Int) ≤ hop := by omega
  clear C hm
  go_enter Tryd.func6, Tryd.ntmps6
  go_wp2_with fail
  refine HC.out.mono ?_
  rintro e w1 ⟨rfl, h1⟩
  have c1 := (hr.below h1 hz).hop
  simp only [Nat.zero_add] at c1
  have hb1 := hb.trans (h1.mono hb.size)
  have E1 := hE.stay h1 (Nat.le_refl _)
  clear hr h1 hE L HC hz hb
  go_wp2_with fail
  refine (itoa_any hop (by omega) _ E1).mono ?_
  rintro e w2 ⟨rfl, h2⟩
  have hb2 := hb1.trans (h2.mono hb1.size)
  clear c1 hhI hh0
  go_wp2_with fail
  have d1 := preT_len hk HM.out
  have d2 : (Lib.decDigits hop).length ≤ 100 := Nat.le_trans (dec_length (k := 4) (by omega)) (by decide)
  refine (joined_new [32] [preT p, Lib.decDigits hop] w2 (by decide) (by simp [d1, d2]) (by simp)).mono ?_
  rintro e w3 ⟨rfl, h3⟩
  clear d1 d2
  go_wp2
  go_ret2
  exact ⟨rfl, hb2.trans (h3.mono hb2.size)⟩

def lineR (p : Pre) (hop : Nat) : Value := if mayB p = true then .tuple #[.string (bs (lineT p hop)), .int .i64 0] else .tuple #[.string (bs []), .int .i64 1]

theorem tellLine_any (p : Pre) (hop : Nat) (w : World) (hk : Bytes16 p.key) (hh : hop < 65536) (h : Env w) :
    Calls Tryd.prog 6 #[.agg (rc p hop)] w fun e w' => e = .returned (lineR p hop) ∧ Below w.heap.size w w' := by
  unfold lineR
  cases hm : mayB p with
  | true => exact line_yes p hop w hk hh h hm
  | false => exact line_no p hop w hk h hm

end Go.Proofs.YtpjojbiiceedjaaDoor.Rr
