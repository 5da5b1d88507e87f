/- slices.Chunk at bytes, by two: who ranges over it gets the pieces in order. -/
import Derived.Test.YtjlmkhomedoolaaRootPut
import Derived.RangeFuncNested
import Derived.RangeFuncBound
import Derived.RangeFuncCalls
import Derived.RangeFuncLeaves
import Derived.Shelf.RegionOpen
import Derived.OwnWalkIn
import Derived.TacticsInMore
import Derived.LoopNIn
import Derived.LoopIn
import Derived.BigRegionIn
namespace Go.Proofs.Ytjlmkhomedoolaa.Root
open Go.RowKit Go.Sort Go.Shelf Go.Proofs.Ytjlmkhomedoolaa Go.Proofs.Ytjlmkhomedoolaa.Page

def bytesCut (v : Value) (lo hi : Option Value) (mx : Value) : Sem Value := Instr.slice 29 v lo hi (some mx)
theorem cut_bytes (v : Value) (lo hi : Option Value) (mx : Value) : Instr.slice 29 v lo hi (some mx) = bytesCut v lo hi mx := rfl
attribute [local go_sem ↓] slice_bytes cut_bytes
attribute [local go_sem] Oper.semAt_some

theorem run_tail (b o M cap q : Nat) (h : q < M) (hc : M ≤ cap) (W : World) : (bytesSlice (.slice (some ⟨b, o, none⟩) M cap) (some (.int .i64 (q : Int))) none).run Try.prog W = .ok (.slice (some ⟨b, o + q, none⟩) (M - q) (cap - q)) W := by
  unfold bytesSlice
  rw [run_slice_l W 29 _ _ _ underB .i64 _ (by omega) (by omega), elemB, sizeB]
  simp only [Result.andThen, sliced, Int.toNat_natCast, Option.map_some, Nat.mul_one]
  rw [if_neg (by omega), add_here]
theorem run_cut (b o M cap q : Nat) (h : q + 2 ≤ M) (hc : M ≤ cap) (W : World) : (bytesCut (.slice (some ⟨b, o, none⟩) M cap) (some (.int .i64 (q : Int))) (some (.int .i64 ((q : Int) + 2))) (.int .i64 ((q : Int) + 2))).run Try.prog W = .ok (.slice (some ⟨b, o + q, none⟩) 2 2) W := by
  unfold bytesCut
  rw [run_slice_lhm W 29 _ _ _ underB .i64 .i64 .i64 _ _ _ (by omega) (by omega) (by omega) (by omega), elemB, sizeB]
  simp only [Result.andThen, sliced, Int.toNat_natCast, Option.map_some, Nat.mul_one]
  rw [if_neg (by omega), add_here, show ((q : Int) + 2).toNat = q + 2 by omega, show q + 2 - q = 2 by omega]

theorem chunk_in (N : Nat) (v : Value) (w : World) (h1 : v.oneCell' = true) : CallsIn Fence.wide N Try.prog 31 #[v, .int .i64 2] w fun e w' =>
    e = .returned (.func (.func 38) #[] #[.pointer (some ⟨w.heap.size, 0, none⟩), .pointer (some ⟨w.heap.size + 1, 0, none⟩)]) ∧ w' = (w.alloc (.cells #[v] 29)).alloc (.cells #[.int .i64 2] 3) := by
  refine callsIn_of_wp Try.func31 rfl trivial ?_ rfl
  simp only [Try.ntmps31, List.size_toArray, List.length_cons, List.length_nil, Nat.reduceAdd, Nat.reduceSub, Array.replicate_succ, Array.replicate_zero, List.push_toArray, List.append_toArray, List.nil_append, List.cons_append]
  gi_wp2
  go_ret
  exact ⟨rfl, rfl⟩

theorem range_prefix {k m : Nat} (h : k ≤ m) : List.range k <+: List.range m := by
  rw [List.prefix_iff_eq_take, List.length_range, List.take_range, Nat.min_eq_left h]
/-- What is kept by whoever is handed the pieces: the two boxes. -/
def KpC (B0 B1 : Nat) (A C : World) : Prop := A.heap.size ≤ C.heap.size ∧ C.heap[B0]? = A.heap[B0]? ∧ C.heap[B1]? = A.heap[B1]?
theorem KpC.refl (B0 B1 : Nat) (A : World) : KpC B0 B1 A A := ⟨Nat.le_refl _, rfl, rfl⟩
theorem KpC.trans {B0 B1 : Nat} {A C D : World} (h : KpC B0 B1 A C) (k : KpC B0 B1 C D) : KpC B0 B1 A D := ⟨Nat.le_trans h.1 k.1, k.2.1.trans h.2.1, k.2.2.trans h.2.2⟩
theorem KpC.drew {B0 B1 : Nat} {A C : World} (h : KpC B0 B1 A C) : KpC B0 B1 A C.drew := h
theorem KpC.put {B0 B1 : Nat} (W : World) (l : Nat) (o' : Obj) (h0 : B0 < l) (h1 : B1 < l) : KpC B0 B1 W (W.putObj l o') :=
  ⟨by simp [World.putObj], World.putObj_heap_other (by omega), World.putObj_heap_other (by omega)⟩
def encC {m : Nat} (b o : Nat) (k : Fin m) : Array Value := #[.slice (some ⟨b, o + 2 * k.val, none⟩) 2 2]

set_option maxRecDepth 100000 in
set_option maxHeartbeats 2000000 in
theorem chunk1_in (n : Nat) (hn : 1 ≤ n) (lp B0 B1 : Nat) (m cap b o : Nat) (a : Option Addr) (hcap : 2 * m ≤ cap) (hmx : cap ≤ maxLen) (ha : 0 < m → a = some ⟨b, o, none⟩) (J Jx : List (Fin m) → World → Prop) (hD : ∀ pre W, J pre W → J pre W.drew)
    (hY : ∀ pre x W, J pre W → pre.length < m → YieldAt Fence.wide (n - 1) Try.prog lp (encC b o x) W fun e W' =>
      (e = .returned (.bool true) ∧ J (pre ++ [x]) W' ∧ KpC B0 B1 W W') ∨ (e = .returned (.bool false) ∧ Jx (pre ++ [x]) W'))
    (W : World) (hc0 : Bx 29 W B0 #[.slice a (2 * m) cap]) (hc1 : Bx 3 W B1 #[.int .i64 2]) (h0 : J [] W) :
    CallsIn Fence.wide n Try.prog 38 #[.func (.yield lp) #[] #[], .pointer (some ⟨B0, 0, none⟩), .pointer (some ⟨B1, 0, none⟩)] W fun e W' => (∃ v, e = .returned v) ∧
      ((∃ ys, ys.map Fin.val = List.range m ∧ J ys W') ∨ (∃ pre, pre.map Fin.val <+: List.range m ∧ Jx pre W')) := by
  have HY := Lib.hid hY
  have HD := Lib.hid hD
  have H0 := Lib.hid h0
  have HCC := Lib.hid (And.intro hc0 hc1)
  have HA := Lib.hid ha
  obtain ⟨M, hM⟩ : ∃ M, M = 2 * m := ⟨_, rfl⟩
  rw [← hM] at hc0 HCC hcap
  have HM := Lib.hid hM
  unfold maxLen at hmx
  have hM63 : (M : Int) ≤ 9223372036854775807 := by omega
  clear hY hD h0 hc0 hc1 ha hM
  refine callsIn_of_wp Try.func38 rfl trivial ?_ rfl
  simp only [Try.ntmps38, List.size_toArray, List.length_cons, List.length_nil, Nat.reduceAdd, Nat.reduceSub, Array.replicate_succ, Array.replicate_zero, List.push_toArray, List.append_toArray, List.nil_append, List.cons_append]
  gi_wp2
  gi_loopw [4, 5] (fun i _ wr => ∃ (k q : Nat) (pre : List (Fin m)), i = .int .i64 (q : Int) ∧ Hid (q = 2 * k ∧ k ≤ m ∧ pre.map Fin.val = List.range k) ∧ Hid (J pre wr) ∧ Hid (KpC B0 B1 W wr)) (fun i _ _ => (M - (intOf i).toNat))
  case atStart => exact ⟨0, 0, [], rfl, ⟨rfl, Nat.zero_le _, rfl⟩, H0, KpC.refl _ _ _⟩
  case round =>
    obtain ⟨k, q, pre, rfl, HZ, HJ, HW⟩ := hrel
    obtain ⟨hz, hkm, hpm⟩ := HZ.out
    have c0 : wr.cell? ⟨B0, 0, none⟩ = some (.slice a M cap) := Bx.cell (HW.out.2.1.trans HCC.out.1) 0
    have c1 : wr.cell? ⟨B1, 0, none⟩ = some (.int .i64 2) := Bx.cell (HW.out.2.2.trans HCC.out.2) 0
    by_cases hlt : k < m
    · have hqM : q < M := by have := HM.out; omega
      have hqI : (q : Int) < M := by omega
      have hq2 : q + 2 ≤ M := by have := HM.out; omega
      have e := HA.out (by omega)
      subst e
      have f1 := run_tail b o M cap q hqM hcap
      have f2 := run_cut b o M cap q hq2 hcap
      obtain ⟨R, hR⟩ : ∃ R, M - q = R := ⟨_, rfl⟩
      have hR2 : (2 : Int) ≤ R := by omega
      have hR3 : decide ((R : Int) < 2) = false := by simp; omega
      rw [hR] at f1
      obtain ⟨fn, tmps, assign, body, hy, hRd⟩ := HY.out pre ⟨k, hlt⟩ wr.drew (HD.out _ _ HJ.out) (by have := congrArg List.length hpm; rw [List.length_map, List.length_range] at this; omega)
      have hq0 : o + 2 * k = o + q := by omega
      unfold encC at hy
      dsimp only at hy
      rw [hq0] at hy
      have HN : Hid (q + 2 = 2 * (k + 1) ∧ k + 1 ≤ m ∧ (pre ++ [(⟨k, hlt⟩ : Fin m)]).map Fin.val = List.range (k + 1)) := ⟨by omega, by omega, by rw [List.map_append, hpm, List.range_succ]; rfl⟩
      clear hz hR HZ hq0 hpm
      gi_wp2
      gi_region
      gi_wp2
      refine hRd.mono ?_
      rintro e W3 (⟨rfl, hJ3, hk3⟩ | ⟨rfl, hJx3⟩)
      · have HJ3 := Lib.hid hJ3
        have HB3 := Lib.hid (HW.out.drew.trans hk3)
        have d1 : W3.cell? ⟨B1, 0, none⟩ = some (.int .i64 2) := Bx.cell (HB3.out.2.2.trans HCC.out.2) 0
        clear hJ3 hk3 c0 c1
        gi_wp2
        go_roundw
        case rel => exact ⟨k + 1, q + 2, _, by go_num, HN, HJ3, HB3⟩
        case measure => simp [intOf]; omega
      · have HJ3 := Lib.hid hJx3
        clear hJx3
        gi_wp2
        refine bodyPost_ret (results_none rfl _ _ _) rfl ?_
        exact ⟨⟨_, rfl⟩, .inr ⟨_, by rw [HN.out.2.2]; exact range_prefix HN.out.2.1, HJ3.out⟩⟩
    · have hk : k = m := by omega
      have hqM : q = M := by have := HM.out; omega
      subst hk
      subst hqM
      have HPM := Lib.hid hpm
      clear hz HZ c1 hpm
      gi_wp2
      go_end0
      exact ⟨⟨_, rfl⟩, .inl ⟨_, HPM.out, HJ.out⟩⟩

theorem chunk_stops (n : Nat) (hn : 1 ≤ n) (B0 B1 : Nat) (m cap b o : Nat) (a : Option Addr) (hcap : 2 * m ≤ cap) (hmx : cap ≤ maxLen) (ha : 0 < m → a = some ⟨b, o, none⟩) (w : World) (hc0 : Bx 29 w B0 #[.slice a (2 * m) cap]) (hc1 : Bx 3 w B1 #[.int .i64 2]) :
    SeqStopsK Fence.wide n Try.prog 38 #[.pointer (some ⟨B0, 0, none⟩), .pointer (some ⟨B1, 0, none⟩)] (encC b o) (KpC B0 B1) (fun ys : List (Fin m) => ys.map Fin.val = List.range m) (fun pre => pre.map Fin.val <+: List.range m) m w := fun lp J Jx W hW hJ _ hY h0 =>
  chunk1_in n hn lp B0 B1 m cap b o a hcap hmx ha J Jx (fun pre W h => hJ pre W W.drew none h ⟨rfl, rfl, rfl, Nat.le_refl _, fun _ _ _ => rfl⟩ (fun r e => by cases e)) hY W (hc0.later hW) (hc1.later hW) h0
end Go.Proofs.Ytjlmkhomedoolaa.Root
