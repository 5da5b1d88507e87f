/- Whether two prefixes are the same, as the program asks it. -/
import Derived.Test.YtcpdpcfejpbdpaaKeyEq
import Derived.Test.YtcpdpcfejpbdpaaKeyMay
namespace Go.Proofs.Ytcpdpcfejpbdpaa
open Go.RowKit Go.Sort

theorem pc_key (p : Pre) : (pc p).extract 2 18 = kc p.key := by
  apply Array.ext_getElem?
  intro i
  rw [Array.getElem?_extract, pc_size]
  by_cases h : i < 16
  · rw [if_pos (by omega), pc_at p i h, kc_at _ i h]
  · rw [if_neg (by omega), Array.getElem?_eq_none (by rw [kc_size]; omega)]

/-- The comparison of two prefixes, behind a name, so that the walk meets it by a fact. -/
def preEql (x y : Value) : Sem Value := binOp .eql 26 x y
theorem binOp_preEql (x y : Value) : binOp .eql 26 x y = preEql x y := rfl

theorem run_preEql (p q : Pre) (w : World) : (preEql (.agg (pc p)) (.agg (pc q))).run Try.prog w = .ok (.bool (preEq p q)) w := by
  unfold preEql
  have h0 := pc_bits p
  have h1 := pc_bits q
  have h2 := pc_len p
  have h3 := pc_len q
  have h4 := pc_key p
  have h5 := pc_key q
  have hk := fun d => run_eqKey d p.key q.key w
  have hs : Try.prog.stoodInHeld 26 = false := by kernel_rfl
  have hf : Try.prog.underlying 26 = some (.struct (Try.prog.fieldsOf 26)) := by unfold Program.fieldsOf; rw [Try.underlying26]
  rw [run_eql_struct, run_equalIn_struct w 9999 26 _ _ hf hs]
  have hk := hk 9997
  unfold Program.fieldsOf
  rw [Try.underlying26]
  simp [Op.eqFields, part, isAgg, run_underlying Try.underlying3, run_underlying Try.underlying24, h0, h1, h2, h3, Sem.run_bind, run_equalIn_int w 9998 3 .i64 .i64 _ _ Try.underlying3, h4, h5, hk]
  unfold preEq
  by_cases e1 : p.bits = q.bits
  · by_cases e2 : p.len = q.len
    · cases keyEq p.key q.key <;> simp [e1, e2]
    · simp [e1, e2]
  · simp [e1]
end Go.Proofs.Ytcpdpcfejpbdpaa
