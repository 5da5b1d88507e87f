/- Whether two routes are the same, and whether two prefixes aren't, as the program asks it. -/
import Derived.Test.YtcpdpcfejpbdpaaTabRt
namespace Go.Proofs.Ytcpdpcfejpbdpaa
open Go.RowKit Go.Sort

theorem run_equalPre (d : Nat) (p q : Pre) (w : World) : (Op.equalIn (d + 4) 26 (.agg (pc p)) (.agg (pc q))).run Try.prog w = .ok (preEq p q) w := by
  have h0 := pc_bits p
  have h1 := pc_bits q
  have h2 := pc_len p
  have h3 := pc_len q
  have h4 := pc_key p
  have h5 := pc_key q
  have hs : Try.prog.stoodInHeld 26 = false := by kernel_rfl
  have hf : Try.prog.underlying 26 = some (.struct (Try.prog.fieldsOf 26)) := by unfold Program.fieldsOf; rw [Try.underlying26]
  rw [run_equalIn_struct w (d + 3) 26 _ _ hf hs]
  have hk := run_eqKey (d + 1) p.key q.key w
  unfold Program.fieldsOf
  rw [Try.underlying26]
  simp [Op.eqFields, part, isAgg, run_underlying Try.underlying3, run_underlying Try.underlying24, h0, h1, h2, h3, Sem.run_bind, run_equalIn_int w (d + 2) 3 .i64 .i64 _ _ Try.underlying3, h4, h5, hk]
  unfold preEq
  by_cases e1 : p.bits = q.bits
  · by_cases e2 : p.len = q.len
    · cases keyEq p.key q.key <;> simp [e1, e2]
    · simp [e1, e2]
  · simp [e1]

theorem rc_cut (r : Rt) : (rc r).extract 0 18 = pc r.pre := by
  apply Array.ext_getElem?
  intro i
  rw [Array.getElem?_extract, rc_size]
  by_cases h : i < 18
  · rw [if_pos (by omega), Nat.zero_add, rc_pre _ _ h]
  · rw [if_neg (by omega), Array.getElem?_eq_none (by rw [pc_size]; omega)]

def rtEq (r s : Rt) : Bool := preEq r.pre s.pre && ((r.hop : Int) == (s.hop : Int))

theorem run_eqRoute (r s : Rt) (w : World) : (Op.equalIn 10000 34 (.agg (rc r)) (.agg (rc s))).run Try.prog w = .ok (rtEq r s) w := by
  have h0 := rc_hop r
  have h1 := rc_hop s
  have h2 := rc_cut r
  have h3 := rc_cut s
  have hs : Try.prog.stoodInHeld 34 = false := by kernel_rfl
  have hf : Try.prog.underlying 34 = some (.struct (Try.prog.fieldsOf 34)) := by unfold Program.fieldsOf; rw [Try.underlying34]
  rw [run_equalIn_struct w 9999 34 _ _ hf hs]
  have hk := run_equalPre 9995 r.pre s.pre w
  unfold Program.fieldsOf
  rw [Try.underlying34]
  simp [Op.eqFields, part, isAgg, run_underlying Try.underlying29, run_underlying Try.underlying26, h0, h1, Sem.run_bind, run_equalIn_int w 9998 29 .u16 .u16 _ _ Try.underlying29, h2, h3, hk]
  unfold rtEq
  cases preEq r.pre s.pre
  · simp
  · by_cases h : (r.hop : Int) = (s.hop : Int) <;> simp [h]

/-- The comparisons, behind names, so that the walk meets them by a fact. -/
def rtEql (x y : Value) : Sem Value := binOp .eql 34 x y
theorem binOp_rtEql (x y : Value) : binOp .eql 34 x y = rtEql x y := rfl
theorem run_rtEql (r s : Rt) (w : World) : (rtEql (.agg (rc r)) (.agg (rc s))).run Try.prog w = .ok (.bool (rtEq r s)) w := by
  unfold rtEql
  rw [run_eql_struct, run_eqRoute]; rfl
def rtNeq (x y : Value) : Sem Value := binOp .neq 34 x y
theorem binOp_rtNeq (x y : Value) : binOp .neq 34 x y = rtNeq x y := rfl
def preNeq (x y : Value) : Sem Value := binOp .neq 26 x y
theorem binOp_preNeq (x y : Value) : binOp .neq 26 x y = preNeq x y := rfl
end Go.Proofs.Ytcpdpcfejpbdpaa
