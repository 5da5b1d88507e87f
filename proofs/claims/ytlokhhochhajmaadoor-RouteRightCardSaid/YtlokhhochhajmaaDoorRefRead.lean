/- The document's own num and digit of layer 2. -/
import Derived.Test.YtlokhhochhajmaaDoorEnv
import Derived.Test.YtlokhhochhajmaaDoorTextRead
import Derived.LoopTactic
import Derived.Test.YtlokhhochhajmaaDoorReadNum
namespace Go.Proofs.YtlokhhochhajmaaDoor
open Go.RowKit

def numZ (most : Nat) (s : List UInt8) : Int := match readNum most s with
  | some n => n
  | none => -1

/-- A number of up to five digits, without a limit. -/
theorem numZ_of {most : Nat} {s : List UInt8} (hm : most ≤ 65535) (h : s ≠ []) (h0 : s.head? = some 48 → s = [48]) : numZ most s = match rnum 99999 0 s with
    | some n => if n ≤ most then (n : Int) else -1
    | none => -1 := by
  have e : readNum 99999 s = rnum 99999 0 s := by
    unfold readNum
    rw [if_neg]
    rintro (g | ⟨g1, g2⟩)
    · exact h g
    · exact g2 (h0 g1)
  unfold numZ
  cases hr : rnum 99999 0 s with
  | some n =>
    obtain ⟨e1, _⟩ := readNum_is (e.trans hr)
    rw [e1, readNum_dec]
    by_cases hn : n ≤ most
    · rw [if_pos hn]; simp [hn]
    · rw [if_neg hn]; simp [hn]
  | none =>
    cases hq : readNum most s with
    | none => rfl
    | some m =>
      obtain ⟨e1, e2⟩ := readNum_is hq
      have : readNum 99999 s = some m := readNum_iff.2 ⟨e1, by omega⟩
      rw [e, hr] at this; cases this

theorem numZ_long {most : Nat} {s : List UInt8} (hm : most ≤ 65535) (h5 : 5 < s.length) : numZ most s = -1 := by
  unfold numZ
  cases hq : readNum most s with
  | none => rfl
  | some m =>
    obtain ⟨e1, e2⟩ := readNum_is hq
    have := dec_length (n := m) (k := 4) (by omega)
    rw [← e1] at this
    omega

theorem numZ_empty (most : Nat) : numZ most [] = -1 := by unfold numZ readNum; rw [if_pos (.inl rfl)]
theorem numZ_nought {most : Nat} {cs : List UInt8} (h : cs ≠ []) : numZ most (48 :: cs) = -1 := by
  unfold numZ readNum
  rw [if_pos (.inr ⟨rfl, fun e => h (by simpa using e)⟩)]

theorem ret_int' {a b : Int} (h : a = b) : Ending.returned (.int .i64 a) = .returned (.int .i64 b) := by rw [h]

set_option maxHeartbeats 1000000 in
set_option maxRecDepth 100000 in
theorem rnumber_empty (most : Nat) (w : World) :
    Calls Tryd.prog 30 #[.string (bs []), .int .i64 most] w fun e w' => e = .returned (.int .i64 (-1)) ∧ w = w' := by
  have h0 : (bs []).size = 0 := by rw [bs_size]; rfl
  go_enter Tryd.func30, Tryd.ntmps30
  go_wp2
  go_ret
  exact ⟨rfl, rfl⟩

set_option maxHeartbeats 1000000 in
set_option maxRecDepth 100000 in
theorem rnumber_long (s : List UInt8) (most : Nat) (w : World) (hl : s.length < 1000000) (h5 : 5 < s.length) :
    Calls Tryd.prog 30 #[.string (bs s), .int .i64 most] w fun e w' => e = .returned (.int .i64 (-1)) ∧ w = w' := by
  have h0 := bs_size s
  have h1 : (s.length : Int) < 1000000 := by omega
  have h2 : (5 : Int) < s.length := by omega
  have h3 : ((s.length : Int) == 0) = false := by rw [beq_eq_false_iff_ne]; omega
  go_enter Tryd.func30, Tryd.ntmps30
  go_wp2
  go_ret
  exact ⟨rfl, rfl⟩

set_option maxHeartbeats 1000000 in
set_option maxRecDepth 100000 in
theorem rnumber_nought (c : UInt8) (cs : List UInt8) (most : Nat) (w : World) (e48 : ((c.toNat : Int) == 48) = true) (hcs : cs ≠ []) (h5 : (c :: cs).length ≤ 5) :
    Calls Tryd.prog 30 #[.string (bs (c :: cs)), .int .i64 most] w fun e w' => e = .returned (.int .i64 (-1)) ∧ w = w' := by
  obtain ⟨l, hl⟩ : ∃ l, l = (c :: cs).length := ⟨_, rfl⟩
  have h0 : (bs (c :: cs)).size = l := by rw [bs_size, hl]
  have hg : ∀ h, (bs (c :: cs))[0]'h = c := fun _ => rfl
  have hz : 0 < (bs (c :: cs)).size := by rw [bs_size]; simp
  have h2 : ¬ (5 : Int) < l := by omega
  have hcl : 0 < cs.length := List.length_pos_iff.2 hcs
  have h3 : (1 : Int) < l := by rw [hl]; simp; omega
  have h4 : ((l : Int) == 0) = false := by rw [beq_eq_false_iff_ne]; omega
  clear hl hcl h5
  go_enter Tryd.func30, Tryd.ntmps30
  go_wp2
  go_ret
  exact ⟨rfl, rfl⟩

/-- What is known at the head of a round. -/
structure NumInv (s : List UInt8) (i n : Nat) (R : Option Nat) : Prop where
  small : n < 10 ^ i
  rest : rnum 99999 n (s.drop i) = R

def numEnd (most : Nat) : Option Nat → Int
  | some n => if n ≤ most then (n : Int) else -1
  | none => -1

set_option maxHeartbeats 4000000 in
set_option maxRecDepth 100000 in
theorem rnumber_loop (c : UInt8) (cs : List UInt8) (most : Nat) (w : World) (b48 b1 : Bool) (e48 : ((c.toNat : Int) == 48) = b48) (hb1 : decide ((1 : Int) < ((c :: cs).length : Nat)) = b1) (hno : b1 = false ∨ b48 = false) (hmost : most ≤ 65535) (h5 : (c :: cs).length ≤ 5) :
    Calls Tryd.prog 30 #[.string (bs (c :: cs)), .int .i64 most] w fun e w' => e = .returned (.int .i64 (numEnd most (rnum 99999 0 (c :: cs)))) ∧ w = w' := by
  obtain ⟨l, hl⟩ : ∃ l, l = (c :: cs).length := ⟨_, rfl⟩
  have h0 : (bs (c :: cs)).size = l := by rw [bs_size, hl]
  have hg0 : ∀ h, (bs (c :: cs))[0]'h = c := fun _ => rfl
  have hz : 0 < (bs (c :: cs)).size := by rw [bs_size]; simp
  have h2 : ¬ (5 : Int) < l := by omega
  have h4 : ((l : Int) == 0) = false := by rw [beq_eq_false_iff_ne]; simp at hl; omega
  rw [← hl] at hb1 h5
  have hl5 : (l : Int) ≤ 5 := by omega
  have hmI : (most : Int) ≤ 65535 := by omega
  obtain ⟨R, hR⟩ : ∃ R, R = rnum 99999 0 (c :: cs) := ⟨_, rfl⟩
  rw [← hR]
  have HR := Lib.hid hR
  have HL := Lib.hid hl
  have H0 := Lib.hid h0
  have H5 := Lib.hid h5
  clear hR hl h5
  have key : ∀ i d, i < l → (c :: cs)[i]? = some d → (∀ h, (bs (c :: cs))[i]'h = d) ∧ (c :: cs).drop i = d :: (c :: cs).drop (i + 1) := fun i d hi hd => by
    have hi2 : i < (c :: cs).length := by rw [← HL.out]; exact hi
    rw [List.getElem?_eq_getElem hi2] at hd
    simp only [Option.some.injEq] at hd
    refine ⟨fun h => ?_, ?_⟩
    · show (c :: cs).toArray[i]'(by simpa using hi2) = d
      simpa using hd
    · rw [List.drop_eq_getElem_cons hi2, hd]
  have HK := Lib.hid key
  clear key
  have hways : (b1 = false) ∨ (b1 = true ∧ b48 = false) := by
    rcases hno with h | h
    · exact .inl h
    · cases b1
      · exact .inl rfl
      · exact .inr ⟨rfl, h⟩
  clear hno
  rcases hways with rfl | ⟨rfl, rfl⟩
  all_goals
    go_enter Tryd.func30, Tryd.ntmps30
    go_wp2
    clear hb1 e48 h2 h4 hz hg0
    go_loop [5, 6] (fun v t => ∃ i n : Nat, i ≤ l ∧ t = .int .i64 i ∧ v = .int .i64 n ∧ NumInv (c :: cs) i n R) (fun _ t => l - (intOf t).toNat)
    case atStart => exact ⟨0, 0, Nat.zero_le _, rfl, rfl, by decide, HR.out.symm⟩
    case round =>
      obtain ⟨i, n, hi, rfl, rfl, hn, hrest⟩ := hrel
      clear HR
      have hpow : (10 : Nat) ^ i ≤ 100000 := by
        have h5 := H5.out
        have : (10 : Nat) ^ i ≤ 10 ^ 5 := Nat.pow_le_pow_right (by decide) (by omega)
        exact Nat.le_trans this (by decide)
      by_cases hlt : i < l
      · have hlt' : (i : Int) < l := by omega
        have hpow2 : (10 : Nat) ^ (i + 1) ≤ 100000 := by
          have h5 := H5.out
          have : (10 : Nat) ^ (i + 1) ≤ 10 ^ 5 := Nat.pow_le_pow_right (by decide) (by omega)
          exact Nat.le_trans this (by decide)
        have hps : (10 : Nat) ^ (i + 1) = 10 ^ i * 10 := Nat.pow_succ 10 i
        obtain ⟨d, hd⟩ : ∃ d, (c :: cs)[i]? = some d := ⟨(c :: cs)[i]'(by rw [← HL.out]; exact hlt), List.getElem?_eq_getElem _⟩
        obtain ⟨hg, hdrop⟩ := HK.out i d hlt hd
        have hzi : i < (bs (c :: cs)).size := by rw [H0.out]; exact hlt
        rw [hdrop, rnum] at hrest
        obtain ⟨x, hx⟩ : ∃ x, x = d.toNat := ⟨_, rfl⟩
        have hx256 : x < 256 := by rw [hx]; exact d.toNat_lt
        have hg2 : d.toNat = x := hx.symm
        have hxI : (x : Int) < 256 := by omega
        by_cases hdig : 48 ≤ x ∧ x ≤ 57
        · obtain ⟨g1, g2⟩ := hdig
          have g1' : (48 : Int) ≤ x := by omega
          have g2' : (x : Int) ≤ 57 := by omega
          have hisd : isDigit d = true := by unfold isDigit; rw [← hx]; simp [g1, g2]
          have hdv : dv d = x - 48 := by unfold dv; rw [← hx]
          rw [hdv, if_pos ⟨hisd, by omega⟩] at hrest
          obtain ⟨M, hM⟩ : ∃ M : Nat, M = 99999 := ⟨_, rfl⟩
          have hM2 : (M : Int) ≤ 100000 := by omega
          have hnM : (n : Int) ≤ M := by omega
          have hnext : NumInv (c :: cs) (i + 1) (10 * n + (x - 48)) R := ⟨by omega, hrest⟩
          have HN := Lib.hid hnext
          clear hrest hdrop hd hx hdv hisd hpow hpow2 hps hn hnext hM
          go_wp2
          go_round
          case rel => exact ⟨i + 1, 10 * n + (x - 48), by omega, by go_num, by congr 1; omega, HN.out⟩
          case measure => simp [intOf]; omega
        · have hisd : isDigit d = false := by unfold isDigit; rw [← hx]; simp; omega
          rw [if_neg (fun h => by rw [hisd] at h; cases h.1)] at hrest
          have HX := Lib.hid hrest
          clear hrest hdrop hd hx hisd hpow hpow2 hps hn
          by_cases g1 : (x : Int) < 48
          · clear hdig
            go_wp2
            go_ret
            exact ⟨ret_int' (by rw [← HX.out]; rfl), rfl⟩
          · have g2 : (57 : Int) < x := by omega
            clear hdig
            go_wp2
            go_ret
            exact ⟨ret_int' (by rw [← HX.out]; rfl), rfl⟩
      · obtain rfl : i = l := by omega
        rw [List.drop_of_length_le (by rw [← HL.out]; exact Nat.le_refl _), rnum] at hrest
        have HX := Lib.hid hrest
        have hnI : (n : Int) < 100000 := by omega
        by_cases hle : n ≤ most
        · have hle' : ¬ (most : Int) < n := by omega
          have HV : Hid (numEnd most R = (n : Int)) := by show _ = _; rw [← HX.out]; simp [numEnd, hle]
          clear hrest hpow hn hle
          go_wp2
          go_ret
          exact ⟨ret_int' HV.out.symm, rfl⟩
        · have hle' : (most : Int) < n := by omega
          have HV : Hid (numEnd most R = -1) := by show _ = _; rw [← HX.out]; simp [numEnd, hle]
          clear hrest hpow hn hle
          go_wp2
          go_ret
          exact ⟨ret_int' HV.out.symm, rfl⟩

theorem numZ_end {most : Nat} {s : List UInt8} (hm : most ≤ 65535) (h : s ≠ []) (h0 : s.head? = some 48 → s = [48]) : numZ most s = numEnd most (rnum 99999 0 s) := by
  rw [numZ_of hm h h0]
  cases rnum 99999 0 s <;> rfl

theorem rnumber_any (s : List UInt8) (most : Nat) (w : World) (hm : most ≤ 65535) (hl : s.length < 1000000) :
    Calls Tryd.prog 30 #[.string (bs s), .int .i64 most] w fun e w' => e = .returned (.int .i64 (numZ most s)) ∧ w = w' := by
  by_cases h5 : 5 < s.length
  · rw [numZ_long hm h5]; exact rnumber_long s most w hl h5
  · cases s with
    | nil => rw [numZ_empty]; exact rnumber_empty most w
    | cons c cs =>
      have is48 : ((c.toNat : Int) == 48) = true → c = 48 := fun h => by
        apply UInt8.toNat_inj.1
        rw [beq_iff_eq] at h
        have : (48 : UInt8).toNat = 48 := rfl
        omega
      have not48 : ((c.toNat : Int) == 48) = false → c ≠ 48 := fun h e => by subst e; cases h
      cases h48 : ((c.toNat : Int) == 48) with
      | false =>
        rw [numZ_end hm (by simp) (fun e => absurd (by simpa using e) (not48 h48))]
        exact rnumber_loop c cs most w false _ h48 rfl (.inr rfl) hm (by omega)
      | true =>
        by_cases hcs : cs = []
        · subst hcs
          rw [numZ_end hm (by simp) (fun _ => by rw [is48 h48])]
          exact rnumber_loop c [] most w true false h48 rfl (.inl rfl) hm (by omega)
        · obtain rfl := is48 h48
          rw [numZ_nought hcs]
          exact rnumber_nought 48 cs most w h48 hcs (by omega)

end Go.Proofs.YtlokhhochhajmaaDoor
