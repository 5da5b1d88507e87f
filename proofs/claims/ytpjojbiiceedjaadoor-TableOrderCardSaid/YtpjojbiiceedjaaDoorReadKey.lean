/- route.readKey and ReadKey: a text as a key, of how many bits. -/
import Derived.Test.YtpjojbiiceedjaaDoorReadWide
namespace Go.Proofs.YtpjojbiiceedjaaDoor.Rr
open Go.RowKit Go.Sort
attribute [local go_sem ↓] loadVar_key loadVar_pre storeVar_key storeVar_pre

theorem keyV_eq (o : Option (Nat → Nat)) : keyV o = .tuple #[.agg (kc (o.getD zkey)), .bool o.isSome] := by cases o <;> rfl

/-- A key that lies in a new block, and one that goes out, behind what was there. -/
theorem key_laid (w : World) (k : Nat → Nat) : (keyStore ⟨w.heap.size, 0, none⟩ (.agg (kc k))).run Tryd.prog (w.alloc (.cells (kc zkey) 27)) = .ok () (w.alloc (.cells (kc k) 27)) := by
  rw [run_keyStore (heap_alloc_new _ _) (kc_size _), World.setRow_alloc_new]
theorem key_laid_load (w : World) (k : Nat → Nat) : (keyLoad ⟨w.heap.size, 0, none⟩).run Tryd.prog (w.alloc (.cells (kc k) 27)) = .ok (.agg (kc k)) (w.alloc (.cells (kc k) 27)) :=
  run_keyLoad (rowAt_new w (kc k) _)

structure OutKey (w wr : World) : Prop where
  below : Below w.heap.size w wr
  out : wr.heap[w.heap.size]? = some (.cells (kc zkey) 27 (0, 0))
theorem outKey_new (w : World) : OutKey w (w.alloc (.cells (kc zkey) 27)) := ⟨(Below.refl _ _).alloc (Nat.le_refl _) _, heap_alloc_new _ _⟩
theorem OutKey.lt {w wr : World} (h : OutKey w wr) : w.heap.size < wr.heap.size := by
  rcases Nat.lt_or_ge w.heap.size wr.heap.size with e | e
  · exact e
  · have := h.out; rw [Array.getElem?_eq_none e] at this; cases this
theorem OutKey.later {w wr w1 : World} (h : OutKey w wr) (hb : Below wr.heap.size wr w1) : OutKey w w1 := ⟨h.below.trans (hb.mono h.below.size), by rw [hb.block _ h.lt]; exact h.out⟩
theorem OutKey.alloc {w wr : World} (h : OutKey w wr) (o : Obj) : OutKey w (wr.alloc o) := h.later ((Below.refl _ _).alloc (Nat.le_refl _) o)
theorem OutKey.store {w wr : World} (h : OutKey w wr) (k : Nat → Nat) : (keyStore ⟨w.heap.size, 0, none⟩ (.agg (kc k))).run Tryd.prog wr = .ok () (wr.setRow w.heap.size (kc k)) := run_keyStore h.out (kc_size _)
theorem OutKey.load {w wr : World} (h : OutKey w wr) (k : Nat → Nat) : (keyLoad ⟨w.heap.size, 0, none⟩).run Tryd.prog (wr.setRow w.heap.size (kc k)) = .ok (.agg (kc k)) (wr.setRow w.heap.size (kc k)) := by
  have m3 := setRow_heap _ _ (kc zkey) (kc k) _ _ h.out
  exact run_keyLoad (fun j v hj => by rw [cell_of_row _ _ _ _ _ _ m3]; simpa using hj)
theorem OutKey.done {w wr : World} (h : OutKey w wr) (k : Nat → Nat) : Below w.heap.size w (wr.setRow w.heap.size (kc k)) := below_setRow h.below (Nat.le_refl _) _

def rkeyV (s : List UInt8) : Value := .tuple #[.agg (kc ((readKeyT s).getD zkey)), .int .i64 (keyBits s), .bool (readKeyT s).isSome]

set_option maxHeartbeats 2000000 in
set_option maxRecDepth 100000 in
theorem rkey_any (s : List UInt8) (w : World) (h : Env w) (hs : s.length < 1000000) :
    Calls Tryd.prog 43 #[.string (bs s)] w fun e w' => e = .returned (rkeyV s) ∧ Below w.heap.size w w' := by
  have hz := zkey_lit
  have O0 := outKey_new w
  have hE := h.alloc (.cells (kc zkey) 27)
  have C0 := contains_any s 46 (w.alloc (.cells (kc zkey) 27))
  have HR : Hid (rkeyV s = if 46 ∈ s then .tuple #[.agg (kc ((readShort s).getD zkey)), .int .i64 32, .bool (readShort s).isSome] else .tuple #[.agg (kc ((readWide s).getD zkey)), .int .i64 128, .bool (readWide s).isSome]) := by
    show _ = _
    unfold rkeyV readKeyT keyBits
    split <;> rfl
  by_cases hm : (46 : UInt8) ∈ s
  · rw [decide_eq_true hm] at C0
    rw [if_pos hm] at HR
    have HC := Lib.hid C0
    have HE := Lib.hid hE
    clear C0 hm
    go_enter Tryd.func43, Tryd.ntmps43
    go_wp2_with fail
    refine HC.out.mono ?_
    rintro e w1 ⟨rfl, rfl⟩
    go_wp2_with fail
    refine (short_any s _ HE.out hs).mono ?_
    rintro e w2 ⟨rfl, h2⟩
    rw [keyV_eq]
    have O2 := O0.later h2
    generalize hk : (readShort s).getD zkey = k at *
    generalize hb : (readShort s).isSome = b at *
    have S1 := key_laid w2 k
    have L1 := key_laid_load w2 k
    have O3 := O2.alloc (.cells (kc k) 27)
    have S2 := O3.store k
    have L2 := O3.load k
    have D2 := O3.done k
    clear hk hb O0 O2 O3 h2 hE h
    go_wp2
    exact bodyPost_ret (v := .tuple #[.agg (kc k), .int .i64 32, .bool b]) (results_row_tmp2 rfl _ _ _ _ rfl rfl rfl L2) rfl ⟨by rw [HR.out], D2⟩
  · rw [decide_eq_false hm] at C0
    rw [if_neg hm] at HR
    have HC := Lib.hid C0
    clear C0 hm
    go_enter Tryd.func43, Tryd.ntmps43
    go_wp2_with fail
    refine HC.out.mono ?_
    rintro e w1 ⟨rfl, rfl⟩
    go_wp2_with fail
    refine (wide_any s _ hs).mono ?_
    rintro e w2 ⟨rfl, h2⟩
    rw [keyV_eq]
    have O2 := O0.later h2
    generalize hk : (readWide s).getD zkey = k at *
    generalize hb : (readWide s).isSome = b at *
    have S1 := key_laid w2 k
    have L1 := key_laid_load w2 k
    have O3 := O2.alloc (.cells (kc k) 27)
    have S2 := O3.store k
    have L2 := O3.load k
    have D2 := O3.done k
    clear hk hb O0 O2 O3 h2 hE h
    go_wp2
    exact bodyPost_ret (v := .tuple #[.agg (kc k), .int .i64 128, .bool b]) (results_row_tmp2 rfl _ _ _ _ rfl rfl rfl L2) rfl ⟨by rw [HR.out], D2⟩

/-- What ReadKey hands back. -/
def readKeyV (s : List UInt8) : Value := if 60 < s.length then .tuple #[.agg (kc zkey), .int .i64 0, .int .i64 3] else match readKeyT s with
  | some k => .tuple #[.agg (kc k), .int .i64 (keyBits s), .int .i64 0]
  | none => .tuple #[.agg (kc zkey), .int .i64 0, .int .i64 2]

end Go.Proofs.YtpjojbiiceedjaaDoor.Rr
