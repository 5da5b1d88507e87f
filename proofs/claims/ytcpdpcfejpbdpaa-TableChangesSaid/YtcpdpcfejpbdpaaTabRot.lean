/- slices.swapRangeCmpFunc, rotateCmpFunc: parts of a row of routes exchanged. -/
import Derived.Test.YtcpdpcfejpbdpaaTabSw
import Derived.Shelf.RegionOpen
import Derived.BigQuiet
namespace Go.Proofs.Ytcpdpcfejpbdpaa
open Go.RowKit Go.Sort Go.Shelf
attribute [local go_sem ↓] loadVar_key loadVar_pre loadVar_route storeVar_pre storeVar_route buildSlice_row

section
variable {α : Type}
def swr (P S M T Q : List α) (i : Nat) : List α := P ++ (T.take i ++ S.drop i) ++ M ++ (S.take i ++ T.drop i) ++ Q

theorem swr_at (P S M T Q : List α) (i : Nat) (x y : α) (hx : S[i]? = some x) (hy : T[i]? = some y) :
    swr P S M T Q i = (P ++ T.take i) ++ x :: ((S.drop (i + 1) ++ M ++ S.take i) ++ y :: (T.drop (i + 1) ++ Q)) ∧
    swr P S M T Q (i + 1) = (P ++ T.take i) ++ y :: ((S.drop (i + 1) ++ M ++ S.take i) ++ x :: (T.drop (i + 1) ++ Q)) := by
  obtain ⟨hs, ex⟩ := List.getElem?_eq_some_iff.1 hx
  obtain ⟨ht, ey⟩ := List.getElem?_eq_some_iff.1 hy
  have e1 : S.drop i = x :: S.drop (i + 1) := by rw [List.drop_eq_getElem_cons hs, ex]
  have e2 : T.drop i = y :: T.drop (i + 1) := by rw [List.drop_eq_getElem_cons ht, ey]
  have e3 : S.take (i + 1) = S.take i ++ [x] := by rw [List.take_add_one, hx]; rfl
  have e4 : T.take (i + 1) = T.take i ++ [y] := by rw [List.take_add_one, hy]; rfl
  unfold swr
  rw [e1, e2, e3, e4]
  constructor <;> simp [List.append_assoc]
theorem swr_zero (P S M T Q : List α) : swr P S M T Q 0 = P ++ S ++ M ++ T ++ Q := by simp [swr]
theorem swr_end (P S M T Q : List α) (k : Nat) (hs : S.length = k) (ht : T.length = k) : swr P S M T Q k = P ++ T ++ M ++ S ++ Q := by
  unfold swr
  rw [List.take_of_length_le (by omega), List.drop_of_length_le (by omega), List.take_of_length_le (by omega), List.drop_of_length_le (by omega)]
  simp
theorem swr_length (P S M T Q : List α) (i k : Nat) (hs : S.length = k) (ht : T.length = k) : (swr P S M T Q i).length = P.length + k + M.length + k + Q.length := by
  unfold swr
  simp only [List.length_append, List.length_take, List.length_drop]
  omega
end

def SwPost (w0 : World) (g : Nat) (rest : List Value) (L : List Rt) (e : Ending) (w' : World) : Prop := e = .returned (.tuple #[]) ∧ SW w0 g rest L w'

set_option maxHeartbeats 4000000 in
set_option maxRecDepth 100000 in
theorem swapRange_any (w0 : World) (g : Nat) (rest : List Value) (P S M T Q : List Rt) (k a b n cap : Nat) (f : Value) (W : World) (h : SW w0 g rest (P ++ S ++ M ++ T ++ Q) W) (hs : S.length = k) (ht : T.length = k)
    (ha : P.length = a) (hb : a + k + M.length = b) (hn : (P ++ S ++ M ++ T ++ Q).length = n) (h16 : n ≤ 65536) :
    Calls Try.prog 67 #[.slice (some ⟨g, 0, none⟩) n cap, .int .i64 a, .int .i64 b, .int .i64 k, f] W (SwPost w0 g rest (P ++ T ++ M ++ S ++ Q)) := by
  have hlen : P.length + k + M.length + k + Q.length = n := by rw [← hn]; simp only [List.length_append]; omega
  have hbn : b + k ≤ n := by omega
  have hab : a + k ≤ b := by omega
  have hnI : (n : Int) ≤ 65536 := by omega
  have HE := Lib.hid (swr_end P S M T Q k hs ht)
  have HZ : Hid (SW w0 g rest (swr P S M T Q 0) W) := by show SW _ _ _ _ _; rw [swr_zero]; exact h
  have HS := Lib.hid hs
  have HT := Lib.hid ht
  have HA := Lib.hid ha
  have HB := Lib.hid hb
  have HL := Lib.hid hlen
  have mixed : Try.prog.follows .mixedOrders = true := by kernel_rfl
  clear h hs ht ha hb hn hlen
  unfold SwPost
  go_enter Try.func67, Try.ntmps67
  go_wp2
  go_loopw [10] (fun t wr => ∃ i : Nat, i ≤ k ∧ t = .int .i64 i ∧ Hid (SW w0 g rest (swr P S M T Q i) wr)) (fun t _ => k - (intOf t).toNat)
  case atStart => exact ⟨0, Nat.zero_le _, rfl, HZ⟩
  case round =>
    obtain ⟨i, hi, rfl, HW⟩ := hrel
    by_cases hlt : i < k
    · have hltI : (i : Int) < k := by omega
      obtain ⟨x, hx⟩ : ∃ x, S[i]? = some x := ⟨S[i]'(by rw [HS.out]; exact hlt), List.getElem?_eq_getElem _⟩
      obtain ⟨y, hy⟩ : ∃ y, T[i]? = some y := ⟨T[i]'(by rw [HT.out]; exact hlt), List.getElem?_eq_getElem _⟩
      obtain ⟨e1, e2⟩ := swr_at P S M T Q i x y hx hy
      have hd := HW.out.drew
      have p1 : (P ++ T.take i).length = a + i := by rw [List.length_append, HA.out, List.length_take, HT.out]; omega
      have p2 : (P ++ T.take i).length + 1 + (S.drop (i + 1) ++ M ++ S.take i).length = b + i := by
        rw [p1]; simp only [List.length_append, List.length_drop, List.length_take, HS.out]; have := HB.out; omega
      rw [e1] at hd
      have l1 := hd.load (get_first _ _ x)
      have l2 := hd.load (get_second _ _ _ x y)
      obtain ⟨X, Y, s1, s2, hsw⟩ := hd.swap (i := (P ++ T.take i).length) (j := (P ++ T.take i).length + 1 + (S.drop (i + 1) ++ M ++ S.take i).length) (List.getElem?_eq_some_iff.1 (get_first _ _ x)).1 (List.getElem?_eq_some_iff.1 (get_second _ _ _ x y)).1 x y
      rw [swap_two, ← e2] at hsw
      rw [p1] at l1 s1
      rw [p2] at l2 s2
      have HSW := Lib.hid hsw
      have w1 : IntKind.i64.wrap ((a : Int) + (i : Int)) = (a : Int) + (i : Int) := by rw [IntKind.wrap_i64]; omega
      have w2 : IntKind.i64.wrap ((b : Int) + (i : Int)) = (b : Int) + (i : Int) := by rw [IntKind.wrap_i64]; omega
      have t1 : ((a : Int) + (i : Int)).toNat = a + i := by omega
      have t2 : ((b : Int) + (i : Int)).toNat = b + i := by omega
      have q1 : (0 : Int) ≤ (a : Int) + (i : Int) := by omega
      have q2 : (0 : Int) ≤ (b : Int) + (i : Int) := by omega
      have q3 : (a : Int) + (i : Int) < n := by omega
      have q4 : (b : Int) + (i : Int) < n := by omega
      clear hsw hd e1 e2 p1 p2 hx hy
      go_wp2_with fail
      go_big_region_o
      all_goals go_wp2
      go_roundw
      case rel => exact ⟨i + 1, by omega, by go_num, HSW⟩
      case measure => simp [intOf]; omega
    · obtain rfl : i = k := by omega
      go_wp2
      go_end0
      exact ⟨rfl, by rw [← HE.out]; exact HW.out⟩

theorem swapRange_at (w0 : World) (g : Nat) (rest : List Value) (P S M T Q : List Rt) (k a b n cap : Nat) (za zb zk : Int) (f : Value) (W : World) (h : SW w0 g rest (P ++ S ++ M ++ T ++ Q) W) (hs : S.length = k) (ht : T.length = k)
    (ha : P.length = a) (hb : a + k + M.length = b) (hn : (P ++ S ++ M ++ T ++ Q).length = n) (h16 : n ≤ 65536) (ea : za = a) (eb : zb = b) (ek : zk = k) :
    Calls Try.prog 67 #[.slice (some ⟨g, 0, none⟩) n cap, .int .i64 za, .int .i64 zb, .int .i64 zk, f] W (SwPost w0 g rest (P ++ T ++ M ++ S ++ Q)) := by
  subst ea eb ek
  exact swapRange_any w0 g rest P S M T Q k a b n cap f W h hs ht ha hb hn h16

/-- How far a rotation is: a part U ahead of a part V is still to be exchanged with it. -/
structure RotAt (w0 : World) (g : Nat) (rest : List Value) (Z : List Rt) (m i j : Nat) (W : World) : Prop where
  ex : ∃ P U V Q : List Rt, P.length + i = m ∧ U.length = i ∧ V.length = j ∧ P ++ V ++ U ++ Q = Z ∧ SW w0 g rest (P ++ U ++ V ++ Q) W

set_option maxHeartbeats 4000000 in
set_option maxRecDepth 100000 in
theorem rotate_any (w0 : World) (g : Nat) (rest : List Value) (A U V B : List Rt) (a m b n cap : Nat) (f : Value) (W : World) (h : SW w0 g rest (A ++ U ++ V ++ B) W) (ha : A.length = a) (hu : a + U.length = m) (hv : m + V.length = b)
    (hU : 0 < U.length) (hV : 0 < V.length) (hn : (A ++ U ++ V ++ B).length = n) (h16 : n ≤ 65536) :
    Calls Try.prog 66 #[.slice (some ⟨g, 0, none⟩) n cap, .int .i64 a, .int .i64 m, .int .i64 b, f] W (SwPost w0 g rest (A ++ V ++ U ++ B)) := by
  have hbn : b ≤ n := by rw [← hn]; simp only [List.length_append]; omega
  have hZn : (A ++ V ++ U ++ B).length = n := by rw [← hn]; simp only [List.length_append]; omega
  have H0 : Hid (RotAt w0 g rest (A ++ V ++ U ++ B) m (m - a) (b - m) W) := ⟨A, U, V, B, by omega, by omega, by omega, rfl, h⟩
  have hi0 : 0 < m - a := by omega
  have hj0 : 0 < b - m := by omega
  have ham : a ≤ m := by omega
  have hmb : m ≤ b := by omega
  obtain ⟨Z, hZ⟩ : ∃ Z, Z = A ++ V ++ U ++ B := ⟨_, rfl⟩
  rw [← hZ] at H0 hZn ⊢
  have HN := Lib.hid hZn
  have hnI : (n : Int) ≤ 65536 := by omega
  have z1 : (m : Int) - (a : Int) = ((m - a : Nat) : Int) := by omega
  have z2 : (b : Int) - (m : Int) = ((b - m : Nat) : Int) := by omega
  clear h ha hu hv hU hV hn hZ hZn
  unfold SwPost
  go_enter Try.func66, Try.ntmps66
  go_wp2
  go_loopw [10, 11] (fun s t wr => ∃ i j : Nat, 0 < i ∧ 0 < j ∧ i ≤ m ∧ m + j ≤ n ∧ s = .int .i64 i ∧ t = .int .i64 j ∧ Hid (RotAt w0 g rest Z m i j wr)) (fun s t _ => (intOf s).toNat + (intOf t).toNat)
  case atStart => exact ⟨m - a, b - m, hi0, hj0, by omega, by omega, rfl, rfl, H0⟩
  case round =>
    obtain ⟨i, j, hi, hj, him, hjn, rfl, rfl, HR⟩ := hrel
    have hiI : (0 : Int) < i := by omega
    have hjI : (0 : Int) < j := by omega
    have himI : (i : Int) ≤ m := by omega
    have hjnI : (m : Int) + j ≤ n := by omega
    have hmI : (m : Int) ≤ 65536 := by omega
    have hjI2 : (j : Int) ≤ 65536 := by omega
    by_cases hne : i = j
    · have hneI : ((i : Int) != (j : Int)) = false := by rw [bne_eq_false_iff_eq]; omega
      obtain ⟨P, U, V, Q, e1, e2, e3, e4, hw⟩ := HR.out.ex
      have hl : (P ++ U ++ [] ++ V ++ Q).length = n := by
        rw [← HN.out, ← e4]; simp only [List.length_append, List.length_nil]; omega
      have C := swapRange_at w0 g rest P U [] V Q i (m - i) m n cap ((m : Int) - (i : Int)) m i f wr (by simpa using hw) e2 (by omega) (by omega) (by simp; omega) hl h16 (by omega) rfl rfl
      rw [List.append_nil, e4] at C
      have HC := Lib.hid C
      clear C e1 e2 e3 e4 hw hl hne z1 z2
      go_wp2_with fail
      refine HC.out.mono ?_
      rintro e w' ⟨rfl, hw⟩
      go_wp2
      go_end0
      exact ⟨rfl, hw⟩
    · have hneI : ((i : Int) != (j : Int)) = true := by rw [bne_iff_ne]; omega
      by_cases hgt : j < i
      · have hgtI : (j : Int) < i := by omega
        obtain ⟨P, U, V, Q, e1, e2, e3, e4, hw⟩ := HR.out.ex
        have hU : U = U.take j ++ U.drop j := (List.take_append_drop _ _).symm
        have hl : (P ++ U.take j ++ U.drop j ++ V ++ Q).length = n := by
          rw [← HN.out, ← e4]; simp only [List.length_append, List.length_take, List.length_drop]; omega
        have C := swapRange_at w0 g rest P (U.take j) (U.drop j) V Q j (m - i) m n cap ((m : Int) - (i : Int)) m j f wr (by
          rw [List.append_assoc P (U.take j), List.take_append_drop]; exact hw) (by rw [List.length_take]; omega) e3 (by omega) (by rw [List.length_drop]; omega) hl h16 (by omega) rfl rfl
        have HR2 : ∀ w', SW w0 g rest (P ++ V ++ U.drop j ++ U.take j ++ Q) w' → Hid (RotAt w0 g rest Z m (i - j) j w') := fun w' h => by
          refine ⟨P ++ V, U.drop j, U.take j, Q, by rw [List.length_append]; omega, by rw [List.length_drop]; omega, by rw [List.length_take]; omega, ?_, h⟩
          rw [← e4, List.append_assoc (P ++ V), List.take_append_drop]
        have HC := Lib.hid C
        have HD := Lib.hid HR2
        have z3 : (i : Int) - (j : Int) = ((i - j : Nat) : Int) := by omega
        clear C e1 e2 e3 e4 hw hl hne z1 z2 hU HR2
        go_wp2_with fail
        refine HC.out.mono ?_
        rintro e w' ⟨rfl, hw⟩
        have HE := HD.out w' hw
        clear hw
        go_wp2
        go_roundw
        case rel => exact ⟨i - j, j, by omega, hj, by omega, hjn, rfl, rfl, HE⟩
        case measure => simp [intOf]; omega
      · have hgtI : ¬ (j : Int) < i := by omega
        have hltI : (i : Int) ≤ j := by omega
        have hltN : i < j := by omega
        obtain ⟨P, U, V, Q, e1, e2, e3, e4, hw⟩ := HR.out.ex
        have hl : (P ++ U ++ V.take (j - i) ++ V.drop (j - i) ++ Q).length = n := by
          rw [← HN.out, ← e4]; simp only [List.length_append, List.length_take, List.length_drop]; omega
        have C := swapRange_at w0 g rest P U (V.take (j - i)) (V.drop (j - i)) Q i (m - i) (m + j - i) n cap ((m : Int) - (i : Int)) ((m : Int) + (j : Int) - (i : Int)) i f wr (by
          rw [List.append_assoc (P ++ U), List.take_append_drop]; exact hw) e2 (by rw [List.length_drop]; omega) (by omega) (by rw [List.length_take]; omega) hl h16 (by omega) (by omega) rfl
        have HR2 : ∀ w', SW w0 g rest (P ++ V.drop (j - i) ++ V.take (j - i) ++ U ++ Q) w' → Hid (RotAt w0 g rest Z m i (j - i) w') := fun w' h => by
          refine ⟨P, V.drop (j - i), V.take (j - i), U ++ Q, by omega, by rw [List.length_drop]; omega, by rw [List.length_take]; omega, ?_, by rw [← List.append_assoc]; exact h⟩
          rw [← e4, List.append_assoc P, List.take_append_drop, ← List.append_assoc]
        have HC := Lib.hid C
        have HD := Lib.hid HR2
        have z3 : (j : Int) - (i : Int) = ((j - i : Nat) : Int) := by omega
        clear C e1 e2 e3 e4 hw hl hne z1 z2 HR2
        go_wp2_with fail
        refine HC.out.mono ?_
        rintro e w' ⟨rfl, hw⟩
        have HE := HD.out w' hw
        clear hw
        go_wp2
        go_roundw
        case rel => exact ⟨i, j - i, hi, by omega, him, by omega, rfl, rfl, HE⟩
        case measure => simp [intOf]; omega
end Go.Proofs.Ytcpdpcfejpbdpaa
