/- Whether two routes are the same, as the program asks it; and that lines are the same just if the routes are. -/
import Derived.Test.YtpjojbiiceedjaaDoorTextLaws
import Derived.Test.YtpjojbiiceedjaaDoorReadLine
import Derived.Test.YtpjojbiiceedjaaDoorKeyPreEq
namespace Go.Proofs.YtpjojbiiceedjaaDoor.Rr
open Go.RowKit Go.Sort

theorem run_equalPre (d : Nat) (p q : Pre) (w : World) : (Op.equalIn (d + 4) 29 (.agg (pc p)) (.agg (pc q))).run Tryd.prog w = .ok (preEq p q) w := by
  have h0 := pc_bits p
  have h1 := pc_bits q
  have h2 := pc_len p
  have h3 := pc_len q
  have h4 := pc_key p
  have h5 := pc_key q
  have hs : Tryd.prog.stoodInHeld 29 = false := by kernel_rfl
  have hf : Tryd.prog.underlying 29 = some (.struct (Tryd.prog.fieldsOf 29)) := by unfold Program.fieldsOf; rw [Tryd.underlying29]
  rw [run_equalIn_struct w (d + 3) 29 _ _ hf hs]
  have hk := run_eqKey (d + 1) p.key q.key w
  unfold Program.fieldsOf
  rw [Tryd.underlying29]
  simp [Op.eqFields, part, isAgg, run_underlying Tryd.underlying3, run_underlying Tryd.underlying27, h0, h1, h2, h3, Sem.run_bind, run_equalIn_int w (d + 2) 3 .i64 .i64 _ _ Tryd.underlying3, h4, h5, hk]
  unfold preEq
  by_cases e1 : p.bits = q.bits
  · by_cases e2 : p.len = q.len
    · cases keyEq p.key q.key <;> simp [e1, e2]
    · simp [e1, e2]
  · simp [e1]

theorem rc_cut (p : Pre) (n : Nat) : (rc p n).extract 0 18 = pc p := by
  apply Array.ext_getElem?
  intro i
  rw [Array.getElem?_extract, rc_size]
  by_cases h : i < 18
  · rw [if_pos (by omega), Nat.zero_add, rc_pre _ _ _ h]
  · rw [if_neg (by omega), Array.getElem?_eq_none (by rw [pc_size]; omega)]

def routeEq (p q : Pre) (n m : Nat) : Bool := preEq p q && ((n : Int) == (m : Int))

theorem run_eqRoute (p q : Pre) (n m : Nat) (w : World) : (Op.equalIn 10000 32 (.agg (rc p n)) (.agg (rc q m))).run Tryd.prog w = .ok (routeEq p q n m) w := by
  have h0 := rc_hop p n
  have h1 := rc_hop q m
  have h2 := rc_cut p n
  have h3 := rc_cut q m
  have hs : Tryd.prog.stoodInHeld 32 = false := by kernel_rfl
  have hf : Tryd.prog.underlying 32 = some (.struct (Tryd.prog.fieldsOf 32)) := by unfold Program.fieldsOf; rw [Tryd.underlying32]
  rw [run_equalIn_struct w 9999 32 _ _ hf hs]
  have hk := run_equalPre 9995 p q w
  unfold Program.fieldsOf
  rw [Tryd.underlying32]
  simp [Op.eqFields, part, isAgg, run_underlying Tryd.underlying30, run_underlying Tryd.underlying29, h0, h1, Sem.run_bind, run_equalIn_int w 9998 30 .u16 .u16 _ _ Tryd.underlying30, h2, h3, hk]
  unfold routeEq
  cases preEq p q
  · simp
  · by_cases h : (n : Int) = (m : Int) <;> simp [h]

theorem preEq_iff {p q : Pre} : preEq p q = true ↔ p.bits = q.bits ∧ p.len = q.len ∧ ∀ i, i < 16 → p.key i = q.key i := by
  unfold preEq
  simp [keyEq_iff, and_assoc]
theorem preEq_refl (p : Pre) : preEq p p = true := preEq_iff.2 ⟨rfl, rfl, fun _ _ => rfl⟩
theorem routeEq_refl (p : Pre) (n : Nat) : routeEq p p n n = true := by unfold routeEq; rw [preEq_refl]; simp

theorem keyT_same {a b : Nat → Nat} (bits : Int) (h : ∀ i, i < 16 → a i = b i) : keyT a bits = keyT b bits := by
  unfold keyT
  rw [shortT_is, shortT_is, wideT_is, wideT_is, h 0 (by decide), h 1 (by decide), h 2 (by decide), h 3 (by decide)]
  congr 1
  refine List.map_congr_left fun j hj => ?_
  have hj : j < 32 := by simpa using hj
  unfold stepN
  rw [h (j / 2) (by omega)]

theorem lineT_same {p q : Pre} {n m : Nat} (h : routeEq p q n m = true) : lineT p n = lineT q m := by
  unfold routeEq at h
  simp only [Bool.and_eq_true, beq_iff_eq] at h
  obtain ⟨h1, h2⟩ := h
  obtain ⟨e1, e2, e3⟩ := preEq_iff.1 h1
  rw [lineT_is, lineT_is, preT_is, preT_is, e1, e2, keyT_same _ e3, show n = m by omega]

theorem lineT_iff {p q : Pre} {n m : Nat} (hp : Bytes16 p.key) (hq : Bytes16 q.key) (hn : n < 65536) (hm : m < 65536) (mp : mayB p = true) (mq : mayB q = true) : (lineT p n == lineT q m) = routeEq p q n m := by
  cases h : routeEq p q n m with
  | true => rw [lineT_same h]; simp
  | false =>
    rw [beq_eq_false_iff_ne]
    intro e
    obtain ⟨p', a1, a2, a3, a4⟩ := line_back hp hn mp
    obtain ⟨q', b1, b2, b3, b4⟩ := line_back hq hm mq
    rw [e, b1] at a1
    simp only [Option.some.injEq, Prod.mk.injEq] at a1
    obtain ⟨rfl, rfl⟩ := a1
    have : routeEq p q m m = true := by
      unfold routeEq
      rw [preEq_iff.2 ⟨by rw [← a2, b2], by rw [← a3, b3], fun i hi => by rw [← a4 i hi, b4 i hi]⟩]
      simp
    rw [this] at h; cases h

theorem rc_same {p q : Pre} (n : Nat) (hb : p.bits = q.bits) (hl : p.len = q.len) (hk : ∀ i, i < 16 → p.key i = q.key i) : rc p n = rc q n := by unfold rc; rw [pc_same hb hl hk]

/-- A route that comes in: its cells, its numbers. -/
theorem mayB_zero : mayB preZ = false := by decide +kernel
theorem keyOk_zero : keyOk zkey 0 = false := by decide +kernel

end Go.Proofs.YtpjojbiiceedjaaDoor.Rr
