/- slices.stableCmpFunc, SortStableFunc over routes, by their order: all of a row in order, ties as they were. -/
import Derived.Test.YtggjcjijoihilaaTabSymA
namespace Go.Proofs.Ytggjcjijoihilaa
open Go.RowKit Go.Sort Go.Shelf Go.Deep
attribute [local go_sem ↓] loadVar_key loadVar_pre loadVar_route storeVar_pre storeVar_route buildSlice_row

/-- Each block of so many is in order. -/
def Blk (bs : Nat) (l : List Rt) : Prop := ∀ k, Srt oR ((l.drop (k * bs)).take bs)

theorem srt_nil : Srt oR [] := List.Pairwise.nil
theorem blk_nil (bs : Nat) : Blk bs [] := fun k => by simp [Srt]
theorem blk_snoc {bs q : Nat} {P S : List Rt} (hP : Blk bs P) (hl : P.length = q * bs) (hs : Srt oR S) (hS : S.length ≤ bs) : Blk bs (P ++ S) := fun k => by
  by_cases h : k < q
  · have hk : k * bs + bs ≤ q * bs := by
      have := Nat.mul_le_mul_right bs (show k + 1 ≤ q from h)
      rwa [Nat.add_mul, Nat.one_mul] at this
    rw [List.drop_append_of_le_length (by omega), List.take_append_of_le_length (by rw [List.length_drop]; omega)]
    exact hP k
  · by_cases h2 : k = q
    · subst h2
      rw [List.drop_append, List.drop_of_length_le (by omega), List.nil_append, hl, Nat.sub_self, List.drop_zero, List.take_of_length_le hS]
      exact hs
    · have hk : q * bs + bs ≤ k * bs := by
        have := Nat.mul_le_mul_right bs (show q + 1 ≤ k by omega)
        rwa [Nat.add_mul, Nat.one_mul] at this
      rw [List.drop_of_length_le (by rw [List.length_append]; omega)]
      simp [Srt]
theorem blk_first {bs : Nat} {l : List Rt} (h : Blk bs l) : Srt oR (l.take bs) ∧ Blk bs (l.drop bs) := by
  refine ⟨by have := h 0; simpa using this, fun k => ?_⟩
  have := h (k + 1)
  rw [List.drop_drop, show bs + k * bs = (k + 1) * bs by rw [Nat.add_mul, Nat.one_mul, Nat.add_comm]]
  exact this
theorem blk_all {bs : Nat} {l : List Rt} (h : Blk bs l) (hl : l.length ≤ bs) : Srt oR l := by
  have := h 0
  rw [Nat.zero_mul, List.drop_zero, List.take_of_length_le hl] at this
  exact this

theorem sym_at (w0 : World) (g : Nat) (rest : List Value) (n cap : Nat) (h16 : n ≤ 65536) (A X Y B : List Rt) (a m b : Nat) (za zm zb : Int) (W : World) (h : SW w0 g rest (A ++ X ++ Y ++ B) W) (ha : A.length = a) (hma : a + X.length = m) (hb : m + Y.length = b) (hn : (A ++ X ++ Y ++ B).length = n)
    (hX : X ≠ []) (hY : Y ≠ []) (sx : Srt oR X) (sy : Srt oR Y) (hm : AllMay (X ++ Y)) (ea : za = a) (em : zm = m) (eb : zb = b) :
    Calls Try.prog 82 #[.slice (some ⟨g, 0, none⟩) n cap, .int .i64 za, .int .i64 zm, .int .i64 zb, cmpV] W (SymPost w0 g rest A (X ++ Y) B) := by
  subst ea em eb
  exact sym_any w0 g rest n cap h16 (X.length + Y.length + 1) A X Y B a m b W (Nat.lt_succ_self _) h ha hma hb hn hX hY sx sy hm

/-- How far the sort is: a part of larger blocks, and the rest. -/
structure StAt (w0 : World) (g : Nat) (rest : List Value) (L0 : List Rt) (b1 b2 a : Nat) (W : World) : Prop where
  ex : ∃ P R : List Rt, ∃ q, P.length = a ∧ a = q * b1 ∧ Blk b1 P ∧ Blk b2 R ∧ Cls oR (P ++ R) L0 ∧ SW w0 g rest (P ++ R) W

/-- A larger block behind a part of such. -/
theorem st_more {w0 : World} {g : Nat} {rest : List Value} {L0 : List Rt} {b1 b2 a a' : Nat} {W' : World} {P S Z R : List Rt} {q : Nat} (hP : P.length = a) (ha : a = q * b1) (h1 : Blk b1 P) (h2 : Blk b2 R) (hc : Cls oR (P ++ S ++ R) L0) (hz : Srt oR Z) (hzs : Cls oR Z S) (hzl : Z.length = b1) (ha' : a' = a + b1)
    (hw : SW w0 g rest (P ++ Z ++ R) W') : StAt w0 g rest L0 b1 b2 a' W' :=
  ⟨P ++ Z, R, q + 1, by rw [List.length_append]; omega, by rw [ha', ha, Nat.add_mul, Nat.one_mul], blk_snoc h1 (by rw [hP, ha]) hz (by omega), h2, (Cls.mid hzs).trans hc, hw⟩

set_option maxHeartbeats 8000000 in
set_option maxRecDepth 1000000 in
theorem stable_any (w0 : World) (g : Nat) (rest : List Value) (L0 : List Rt) (n cap : Nat) (W : World) (h : SW w0 g rest L0 W) (hn : L0.length = n) (h16 : n ≤ 65536) (hm : AllMay L0) :
    Calls Try.prog 73 #[.slice (some ⟨g, 0, none⟩) n cap, .int .i64 n, cmpV] W (SymPost w0 g rest [] L0 []) := by
  have hnI : (n : Int) ≤ 65536 := by omega
  have HM := Lib.hid hm
  have HN := Lib.hid hn
  have H0 : Hid (StAt w0 g rest L0 20 1 0 W) := ⟨[], L0, 0, rfl, rfl, blk_nil _, fun k => by
    have : ((L0.drop (k * 1)).take 1).length ≤ 1 := by rw [List.length_take]; omega
    match h2 : (L0.drop (k * 1)).take 1, this with
    | [], _ => exact List.Pairwise.nil
    | [x], _ => exact srt_one x
    | x :: y :: t, h3 => simp at h3, Cls.refl _, h⟩
  clear h hm hn
  unfold SymPost cmpV
  go_enter Try.func73, Try.ntmps73
  go_wp2
  go_loopw [7, 8] (fun s t wr => ∃ a : Nat, a ≤ n ∧ s = .int .i64 a ∧ t = .int .i64 ((a : Int) + 20) ∧ Hid (StAt w0 g rest L0 20 1 a wr)) (fun s _ _ => n - (intOf s).toNat)
  case atStart => exact ⟨0, Nat.zero_le _, rfl, rfl, H0⟩
  case round =>
    obtain ⟨a, han, rfl, rfl, HS⟩ := hrel
    have haI : (a : Int) ≤ 65536 := by omega
    by_cases hle : a + 20 ≤ n
    · have hleI : (a : Int) + 20 ≤ n := by omega
      obtain ⟨P, R, q, e1, e2, e3, e4, e5, e6⟩ := HS.out.ex
      have hln : P.length + R.length = n := by have := e5.length; rw [List.length_append] at this; rw [this]; exact HN.out
      have hR : R = R.take 20 ++ R.drop 20 := (List.take_append_drop _ _).symm
      have hmay : AllMay (R.take 20) := fun r hr => HM.out r (e5.mem.1 (List.mem_append_right _ (List.mem_of_mem_take hr)))
      have C := insertion_any w0 g rest P (R.take 20) (R.drop 20) a (a + 20) n cap wr (by rw [List.append_assoc, ← hR]; exact e6) e1 (by rw [List.length_take]; omega) (by rw [List.append_assoc, ← hR, List.length_append]; exact hln) h16 hmay
      have hST : ∀ w', (∃ Z, SW w0 g rest (P ++ Z ++ R.drop 20) w' ∧ Srt oR Z ∧ Cls oR Z (R.take 20)) → Hid (StAt w0 g rest L0 20 1 (a + 20) w') := fun w' ⟨Z, z1, z2, z3⟩ =>
        st_more e1 e2 e3 (fun k => by
          have := e4 (20 + k)
          rw [List.drop_drop]
          rwa [show (20 + k) * 1 = 20 + k * 1 by omega] at this) (by rw [List.append_assoc, ← hR]; exact e5) z2 z3 (by rw [z3.length, List.length_take]; omega) rfl z1
      unfold cmpV at C
      have HC := Lib.hid C
      have HST := Lib.hid hST
      clear C hST hmay hR hln e1 e2 e3 e4 e5 e6
      have ec : ((a + 20 : Nat) : Int) = (a : Int) + 20 := by omega
      rw [ec] at HC
      go_wp2_with fail
      refine HC.out.mono ?_
      rintro e w1 ⟨rfl, hz⟩
      have HZ := HST.out w1 hz
      clear hz
      go_wp2
      go_roundw
      case rel => exact ⟨a + 20, hle, by go_num, by go_num, HZ⟩
      case measure => simp [intOf]; omega
    · have hleI : ¬ (a : Int) + 20 ≤ n := by omega
      obtain ⟨P, R, q, e1, e2, e3, e4, e5, e6⟩ := HS.out.ex
      have hln : P.length + R.length = n := by have := e5.length; rw [List.length_append] at this; rw [this]; exact HN.out
      have hmay : AllMay R := fun r hr => HM.out r (e5.mem.1 (List.mem_append_right _ hr))
      have C := insertion_any w0 g rest P R [] a n n cap wr (by simpa using e6) e1 (by omega) (by simpa using hln) h16 hmay
      have hST : ∀ w', (∃ Z, SW w0 g rest (P ++ Z ++ []) w' ∧ Srt oR Z ∧ Cls oR Z R) → Hid (∃ L, SW w0 g rest L w' ∧ Blk 20 L ∧ Cls oR L L0) := fun w' ⟨Z, z1, z2, z3⟩ =>
        ⟨P ++ Z, by simpa using z1, blk_snoc e3 (by rw [e1, e2]) z2 (by rw [z3.length]; omega), ((Cls.refl P).app z3).trans e5⟩
      unfold cmpV at C
      have HC := Lib.hid C
      have HST := Lib.hid hST
      clear C hST hmay hln e1 e2 e3 e4 e5 e6
      go_wp2_with fail
      refine HC.out.mono ?_
      rintro e w1 ⟨rfl, hz⟩
      have HZ := HST.out w1 hz
      clear hz
      go_wp2
      go_loopw [6, 7, 8, 9] (fun s _ _ _ wr => ∃ bs : Nat, 0 < bs ∧ bs ≤ 131072 ∧ s = .int .i64 bs ∧ Hid (∃ L, SW w0 g rest L wr ∧ Blk bs L ∧ Cls oR L L0)) (fun s _ _ _ _ => n - (intOf s).toNat)
      case atStart => exact ⟨20, by decide, by decide, rfl, HZ⟩
      case round =>
        obtain ⟨bs, hb0, hbm, rfl, HL⟩ := hrel
        have hbI : (bs : Int) ≤ 131072 := by omega
        have hb0I : (0 : Int) < bs := by omega
        by_cases hlt : bs < n
        · have hltI : (bs : Int) < n := by omega
          have hb6 : (bs : Int) ≤ 65536 := by omega
          obtain ⟨L, l1, l2, l3⟩ := HL.out
          have H1 : Hid (StAt w0 g rest L0 (2 * bs) bs 0 wr) := ⟨[], L, 0, rfl, by omega, blk_nil _, l2, l3, l1⟩
          clear l1 l2 l3
          go_wp2
          go_loopw [7, 8] (fun s t wr => ∃ a : Nat, a ≤ n ∧ s = .int .i64 a ∧ t = .int .i64 ((a : Int) + 2 * (bs : Int)) ∧ Hid (StAt w0 g rest L0 (2 * bs) bs a wr)) (fun s _ _ => n - (intOf s).toNat)
          case atStart => exact ⟨0, Nat.zero_le _, rfl, congrArg (Value.int .i64) (by omega), H1⟩
          case round =>
            obtain ⟨a, han, rfl, rfl, HS⟩ := hrel
            have haI : (a : Int) ≤ 65536 := by omega
            by_cases hle : a + 2 * bs ≤ n
            · have hleI : (a : Int) + 2 * (bs : Int) ≤ n := by omega
              obtain ⟨P, R, q, e1, e2, e3, e4, e5, e6⟩ := HS.out.ex
              have hln : P.length + R.length = n := by have := e5.length; rw [List.length_append] at this; rw [this]; exact HN.out
              obtain ⟨S1, hS1⟩ : ∃ S1, S1 = R.take bs := ⟨_, rfl⟩
              obtain ⟨S2, hS2⟩ : ∃ S2, S2 = (R.drop bs).take bs := ⟨_, rfl⟩
              obtain ⟨R', hR'⟩ : ∃ R', R' = (R.drop bs).drop bs := ⟨_, rfl⟩
              have hR : R = S1 ++ (S2 ++ R') := by rw [hS1, hS2, hR', List.take_append_drop, List.take_append_drop]
              have b1 := blk_first e4
              have b2 := blk_first b1.2
              rw [← hS1] at b1
              rw [← hS2, ← hR'] at b2
              have q1 : S1.length = bs := by rw [hS1, List.length_take]; omega
              have q2 : S2.length = bs := by rw [hS2, List.length_take, List.length_drop]; omega
              have hmay : AllMay (S1 ++ S2) := fun r hr => HM.out r (e5.mem.1 (by
                rw [hR]
                rcases List.mem_append.1 hr with h | h <;> simp [h]))
              rw [hR] at e5 e6 hln
              have C := sym_at w0 g rest n cap h16 P S1 S2 R' a (a + bs) (a + 2 * bs) (a : Int) ((a : Int) + (bs : Int)) ((a : Int) + 2 * (bs : Int)) wr (by simpa using e6) e1 (by omega) (by omega) (by simpa using hln) (fun h => by rw [h] at q1; simp at q1; omega) (fun h => by rw [h] at q2; simp at q2; omega) b1.1 b2.1 hmay rfl (by omega) (by omega)
              have hST : ∀ w', (∃ Z, SW w0 g rest (P ++ Z ++ R') w' ∧ Srt oR Z ∧ Cls oR Z (S1 ++ S2)) → Hid (StAt w0 g rest L0 (2 * bs) bs (a + 2 * bs) w') := fun w' ⟨Z, z1, z2, z3⟩ =>
                st_more e1 e2 e3 b2.2 (by simpa using e5) z2 z3 (by rw [z3.length, List.length_append]; omega) rfl z1
              unfold cmpV at C
              have HC := Lib.hid C
              have HST := Lib.hid hST
              clear C hST hmay hR hln e1 e2 e3 e4 e5 e6 b1 b2 q1 q2 hS1 hS2 hR'
              go_wp2_with fail
              refine HC.out.mono ?_
              rintro e w1 ⟨rfl, hz⟩
              have HZ := HST.out w1 hz
              clear hz
              go_wp2
              go_roundw
              case rel => exact ⟨a + 2 * bs, hle, congrArg (Value.int .i64) (by omega), congrArg (Value.int .i64) (by omega), HZ⟩
              case measure => simp [intOf]; omega
            · have hleI : ¬ (a : Int) + 2 * (bs : Int) ≤ n := by omega
              obtain ⟨P, R, q, e1, e2, e3, e4, e5, e6⟩ := HS.out.ex
              have hln : P.length + R.length = n := by have := e5.length; rw [List.length_append] at this; rw [this]; exact HN.out
              by_cases hmn : a + bs < n
              · have hmnI : (a : Int) + (bs : Int) < n := by omega
                obtain ⟨S1, hS1⟩ : ∃ S1, S1 = R.take bs := ⟨_, rfl⟩
                obtain ⟨S2, hS2⟩ : ∃ S2, S2 = R.drop bs := ⟨_, rfl⟩
                have hR : R = S1 ++ S2 := by rw [hS1, hS2, List.take_append_drop]
                have b1 := blk_first e4
                rw [← hS1, ← hS2] at b1
                have q1 : S1.length = bs := by rw [hS1, List.length_take]; omega
                have q2 : S2.length = n - (a + bs) := by rw [hS2, List.length_drop]; omega
                have b2 := blk_all b1.2 (by omega)
                have hmay : AllMay (S1 ++ S2) := fun r hr => HM.out r (e5.mem.1 (by
                  rw [hR]; exact List.mem_append_right _ hr))
                rw [hR] at e5 e6 hln
                have C := sym_at w0 g rest n cap h16 P S1 S2 [] a (a + bs) n (a : Int) ((a : Int) + (bs : Int)) (n : Int) wr (by simpa using e6) e1 (by omega) (by omega) (by simpa using hln) (fun h => by rw [h] at q1; simp at q1; omega) (fun h => by rw [h] at q2; simp at q2; omega) b1.1 b2 hmay rfl (by omega) rfl
                have hST : ∀ w', (∃ Z, SW w0 g rest (P ++ Z ++ []) w' ∧ Srt oR Z ∧ Cls oR Z (S1 ++ S2)) → Hid (∃ L, SW w0 g rest L w' ∧ Blk (2 * bs) L ∧ Cls oR L L0) := fun w' ⟨Z, z1, z2, z3⟩ =>
                  ⟨P ++ Z, by simpa using z1, blk_snoc e3 (by rw [e1, e2]) z2 (by rw [z3.length, List.length_append]; omega), ((Cls.refl P).app z3).trans e5⟩
                unfold cmpV at C
                have HC := Lib.hid C
                have HST := Lib.hid hST
                clear C hST hmay hR hln e1 e2 e3 e4 e5 e6 b1 b2 q1 q2 hS1 hS2
                go_wp2_with fail
                refine HC.out.mono ?_
                rintro e w1 ⟨rfl, hz⟩
                have HZ := HST.out w1 hz
                clear hz
                go_wp2
                go_roundw
                case rel => exact ⟨2 * bs, by omega, by omega, congrArg (Value.int .i64) (by omega), HZ⟩
                case measure => simp [intOf]; omega
              · have hmnI : ¬ (a : Int) + (bs : Int) < n := by omega
                have HZ : Hid (∃ L, SW w0 g rest L wr ∧ Blk (2 * bs) L ∧ Cls oR L L0) :=
                  ⟨P ++ R, e6, blk_snoc e3 (by rw [e1, e2]) (blk_all e4 (by omega)) (by omega), e5⟩
                clear hln e1 e2 e3 e4 e5 e6
                go_wp2
                go_roundw
                case rel => exact ⟨2 * bs, by omega, by omega, congrArg (Value.int .i64) (by omega), HZ⟩
                case measure => simp [intOf]; omega
        · have hltI : ¬ (bs : Int) < n := by omega
          go_wp2
          go_end0
          obtain ⟨L, l1, l2, l3⟩ := HL.out
          exact ⟨rfl, L, by simpa using l1, blk_all l2 (by rw [l3.length, HN.out]; omega), l3⟩

set_option maxHeartbeats 1000000 in
set_option maxRecDepth 100000 in
theorem sortStable_any (w0 : World) (g : Nat) (rest : List Value) (L0 : List Rt) (n cap : Nat) (W : World) (h : SW w0 g rest L0 W) (hn : L0.length = n) (h16 : n ≤ 65536) (hm : AllMay L0) :
    Calls Try.prog 48 #[.slice (some ⟨g, 0, none⟩) n cap, cmpV] W (SymPost w0 g rest [] L0 []) := by
  have C := stable_any w0 g rest L0 n cap W h hn h16 hm
  unfold cmpV at C ⊢
  have HC := Lib.hid C
  have hnI : (n : Int) ≤ 65536 := by omega
  clear C h hn hm
  unfold SymPost
  go_enter Try.func48, Try.ntmps48
  go_wp2_with fail
  refine HC.out.mono ?_
  rintro e w1 ⟨rfl, hz⟩
  have HZ := Lib.hid hz
  clear hz
  go_wp2
  go_end0
  exact ⟨rfl, HZ.out⟩

/-- No route at all, and no row. -/
theorem sortStable_nil (W : World) :
    Calls Try.prog 48 #[.slice none 0 0, cmpV] W fun e w' => e = .returned (.tuple #[]) ∧ W = w' := by
  have C : Calls Try.prog 81 #[.slice none 0 0, .int .i64 0, .int .i64 0, cmpV] W fun e w' => e = .returned (.tuple #[]) ∧ W = w' := by
    unfold cmpV
    go_enter Try.func81, Try.ntmps81
    go_wp2
    go_loop [8, 9] (fun t _ => t = .int .i64 1) (fun _ _ => 0)
    case atStart => exact rfl
    case round =>
      obtain rfl := hrel
      go_wp2
      go_end0
      exact ⟨rfl, rfl⟩
  have D : Calls Try.prog 73 #[.slice none 0 0, .int .i64 0, cmpV] W fun e w' => e = .returned (.tuple #[]) ∧ W = w' := by
    unfold cmpV at C ⊢
    have HC := Lib.hid C
    clear C
    go_enter Try.func73, Try.ntmps73
    go_wp2
    go_loop [7, 8] (fun s t => s = .int .i64 0 ∧ t = .int .i64 20) (fun _ _ => 0)
    case atStart => exact ⟨rfl, rfl⟩
    case round =>
      obtain ⟨rfl, rfl⟩ := hrel
      go_wp2_with fail
      refine HC.out.mono ?_
      rintro e w1 ⟨rfl, rfl⟩
      go_wp2
      go_loop [6, 7, 8, 9] (fun s _ _ _ => s = .int .i64 20) (fun _ _ _ _ => 0)
      case atStart => exact rfl
      case round =>
        obtain rfl := hrel
        go_wp2
        go_end0
        exact ⟨rfl, rfl⟩
  unfold cmpV at D ⊢
  have HD := Lib.hid D
  clear C D
  go_enter Try.func48, Try.ntmps48
  go_wp2_with fail
  refine HD.out.mono ?_
  rintro e w1 ⟨rfl, rfl⟩
  go_wp2
  go_end0
  exact ⟨rfl, rfl⟩
end Go.Proofs.Ytggjcjijoihilaa
