/- route.readNumber: digits as a number, up to a limit. -/
import Derived.Test.YtpjojbiiceedjaaDoorEnv
import Derived.Laws.IdiomStrings
import Derived.LoopTactic
namespace Go.Proofs.YtpjojbiiceedjaaDoor.Rr
open Go.RowKit

theorem bs_toList (l : List UInt8) : (bs l).toList = l := by rw [ByteArray.toList_eq, bs_list]

theorem bytes_of (l : List UInt8) (w : World) : ∃ (cap : Nat) (C : Array Value), (convert 9 23 (.string (bs l))).run Tryd.prog w = .ok (.slice (some ⟨w.heap.size, 0, none⟩) l.length cap) (w.drew.alloc (.cells C 5 (C.size, C.size + 1))) ∧ ∀ (j : Nat) (c : UInt8), l[j]? = some c → C[j]? = some (Value.int .u8 c.toNat) := by
  have h := run_bytes_of_string w 9 23 5 (bs l) Tryd.underlying9 Tryd.underlying23 Tryd.underlying5
  rw [bs_size] at h
  refine ⟨_, _, h, fun j c hj => ?_⟩
  have hl : j < l.length := by
    by_cases e : j < l.length
    · exact e
    · rw [List.getElem?_eq_none (by omega)] at hj; cases hj
  have hj2 : j < (bs l).data.size := by simpa [bs] using hl
  rw [bytesRow_at _ _ j hj2]
  have : (bs l).data[j] = c := by
    rw [List.getElem?_eq_getElem hl] at hj
    simpa [bs] using hj
  rw [this]

def numV : Option Nat → Value
  | some n => .tuple #[.int .i64 n, .bool true]
  | none => .tuple #[.int .i64 0, .bool false]
def numR (lim : Nat) (s : List UInt8) : Value := numV (readNum lim s)

theorem readNum_loop {lim : Nat} {c : UInt8} {cs : List UInt8} (h : (c.toNat == 48) = false ∨ cs = []) : readNum lim (c :: cs) = rnum lim 0 (c :: cs) := by
  unfold readNum
  rw [if_neg]
  rintro (h1 | ⟨h1, h2⟩)
  · cases h1
  · simp only [List.head?_cons, Option.some.injEq] at h1
    subst h1
    rcases h with h | h
    · simp at h
    · rw [h] at h2; exact h2 rfl

set_option maxHeartbeats 2000000 in
set_option maxRecDepth 100000 in
theorem number_empty (lim : Int) (w : World) :
    Calls Tryd.prog 21 #[.string (bs []), .int .i64 lim] w fun e w' => e = .returned (.tuple #[.int .i64 0, .bool false]) ∧ Below w.heap.size w w' := by
  have h0 : (bs []).toList = [] := by rw [bs_toList]
  go_enter Tryd.func21, Tryd.ntmps21
  go_wp2
  go_ret2
  exact ⟨rfl, Below.refl _ _⟩

set_option maxHeartbeats 2000000 in
set_option maxRecDepth 100000 in
theorem number_nought (c : UInt8) (cs : List UInt8) (lim : Int) (w : World) (e48 : ((c.toNat : Int) == 48) = true) (hcs : cs ≠ []) :
    Calls Tryd.prog 21 #[.string (bs (c :: cs)), .int .i64 lim] w fun e w' => e = .returned (.tuple #[.int .i64 0, .bool false]) ∧ Below w.heap.size w w' := by
  have h0 : (bs (c :: cs)).toList = c :: cs := by rw [bs_toList]
  have hg : ∀ h, (bs (c :: cs))[0]'h = c := fun _ => rfl
  have hz : 0 < (bs (c :: cs)).size := by rw [bs_size]; simp
  have hne : (cs == []) = false := by rw [beq_eq_false_iff_ne]; exact hcs
  go_enter Tryd.func21, Tryd.ntmps21
  go_wp2
  go_ret2
  exact ⟨rfl, Below.refl _ _⟩

set_option maxHeartbeats 4000000 in
set_option maxRecDepth 100000 in
theorem number_loop (c : UInt8) (cs : List UInt8) (lim : Nat) (w : World) (b48 : Bool) (e48 : ((c.toNat : Int) == 48) = b48) (hcs : b48 = true → ((c :: cs) == [48]) = true) (hlim : lim ≤ 65535) (hl : cs.length < 1000000) :
    Calls Tryd.prog 21 #[.string (bs (c :: cs)), .int .i64 lim] w fun e w' => e = .returned (numV (rnum lim 0 (c :: cs))) ∧ Below w.heap.size w w' := by
  obtain ⟨cap, C, hc, hC⟩ := bytes_of (c :: cs) w
  have h0 : (bs (c :: cs)).toList = c :: cs := by rw [bs_toList]
  have hg : ∀ h, (bs (c :: cs))[0]'h = c := fun _ => rfl
  have hz : 0 < (bs (c :: cs)).size := by rw [bs_size]; simp
  have hcell : ∀ j d, (c :: cs)[j]? = some d → ((w.alloc (.cells C 5 (C.size, C.size + 1))).drew).cell? ⟨w.heap.size, j, none⟩ = some (.int .u8 d.toNat) := fun j d hj =>
    (cell_of_row _ w.heap.size j C 5 (C.size, C.size + 1) (heap_alloc_new w _)).trans (hC j d hj)
  have hb : Below w.heap.size w ((w.alloc (.cells C 5 (C.size, C.size + 1))).drew) := ((Below.refl _ _).alloc (Nat.le_refl _) _).drew
  have HCell := Lib.hid hcell
  obtain ⟨L, hL⟩ : ∃ L, L = (c :: cs).length := ⟨_, rfl⟩
  rw [← hL] at hc
  have hL1 : (L : Int) ≤ 1000000 := by simp at hL; omega
  have hlimI : (lim : Int) ≤ 65535 := by omega
  have HL := Lib.hid hL
  obtain ⟨R, hR⟩ : ∃ R, R = rnum lim 0 (c :: cs) := ⟨_, rfl⟩
  rw [← hR]
  have HR := Lib.hid hR
  clear hcell hC hL hR
  cases b48
  all_goals
    try have hcs := hcs rfl
    go_enter Tryd.func21, Tryd.ntmps21
    go_wp2
    clear hc h0 hg hz e48 hcs
    generalize (w.alloc (.cells C 5 (C.size, C.size + 1))).drew = W at *
    go_loop [6, 23] (fun v t => ∃ i n : Nat, i ≤ L ∧ t = .int .i64 i ∧ v = .int .i64 n ∧ n ≤ lim ∧ rnum lim n ((c :: cs).drop i) = R) (fun _ t => L - (intOf t).toNat)
    case atStart => exact ⟨0, 0, Nat.zero_le _, rfl, rfl, Nat.zero_le _, HR.out.symm⟩
    case round =>
      obtain ⟨i, n, hi, rfl, rfl, hn, hrest⟩ := hrel
      have hnI : (n : Int) ≤ lim := by omega
      by_cases hlt : i < L
      · have hlt' : (i : Int) < L := by omega
        obtain ⟨d, hd⟩ : ∃ d, (c :: cs)[i]? = some d := ⟨(c :: cs)[i]'(by rw [← HL.out]; exact hlt), List.getElem?_eq_getElem _⟩
        have hcell := HCell.out i d hd
        have hdrop : (c :: cs).drop i = d :: (c :: cs).drop (i + 1) := by
          have hi2 : i < (c :: cs).length := by rw [← HL.out]; exact hlt
          rw [List.drop_eq_getElem_cons hi2]
          rw [List.getElem?_eq_getElem hi2] at hd
          simp only [Option.some.injEq] at hd
          rw [hd]
        rw [hdrop, rnum] at hrest
        obtain ⟨x, hx⟩ : ∃ x, x = d.toNat := ⟨_, rfl⟩
        rw [← hx] at hcell
        have hx256 : x < 256 := by rw [hx]; exact d.toNat_lt
        have hxI : (x : Int) < 256 := by omega
        have hx0 : (0 : Int) ≤ x := by omega
        by_cases hdig : 48 ≤ x ∧ x ≤ 57
        · obtain ⟨g1, g2⟩ := hdig
          have g1' : (48 : Int) ≤ x := by omega
          have g2' : (x : Int) ≤ 57 := by omega
          have hisd : isDigit d = true := by unfold isDigit; rw [← hx]; simp [g1, g2]
          have hdv : dv d = x - 48 := by unfold dv; rw [← hx]
          rw [hdv] at hrest
          by_cases hle : 10 * n + (x - 48) ≤ lim
          · rw [if_pos ⟨hisd, hle⟩] at hrest
            have hle' : 10 * (n : Int) + ((x : Int) - 48) ≤ lim := by omega
            have hge' : 0 ≤ 10 * (n : Int) + ((x : Int) - 48) := by omega
            have HX := Lib.hid hrest
            clear hrest hdrop hd hx hdv hisd
            go_wp2
            go_round
            case rel => exact ⟨i + 1, 10 * n + (x - 48), by omega, by go_num, by congr 1; omega, hle, HX.out⟩
            case measure => simp [intOf]; omega
          · rw [if_neg (fun h => hle h.2)] at hrest
            have hle' : ¬ 10 * (n : Int) + ((x : Int) - 48) ≤ lim := by omega
            have hgt' : (lim : Int) < 10 * (n : Int) + ((x : Int) - 48) := by omega
            have hup' : 10 * (n : Int) + ((x : Int) - 48) ≤ 1000000 := by omega
            have HX := Lib.hid hrest
            clear hrest hdrop hd hx hdv hisd
            go_wp2
            go_ret2
            exact ⟨by rw [← HX.out]; rfl, hb⟩
        · have hisd : isDigit d = false := by unfold isDigit; rw [← hx]; simp; omega
          rw [if_neg (fun h => by rw [hisd] at h; cases h.1)] at hrest
          have HX := Lib.hid hrest
          clear hrest hdrop hd hx hisd
          by_cases g1 : (x : Int) < 48
          · clear hdig
            go_wp2
            go_ret2
            exact ⟨by rw [← HX.out]; rfl, hb⟩
          · have g2 : (57 : Int) < x := by omega
            clear hdig
            go_wp2
            go_ret2
            exact ⟨by rw [← HX.out]; rfl, hb⟩
      · obtain rfl : i = L := by omega
        rw [List.drop_of_length_le (by rw [← HL.out]; exact Nat.le_refl _), rnum] at hrest
        have HX := Lib.hid hrest
        clear hrest
        go_wp2
        go_ret2
        exact ⟨by rw [← HX.out]; rfl, hb⟩

theorem number_any (s : List UInt8) (lim : Nat) (w : World) (hlim : lim ≤ 65535) (hl : s.length < 1000000) :
    Calls Tryd.prog 21 #[.string (bs s), .int .i64 lim] w fun e w' => e = .returned (numR lim s) ∧ Below w.heap.size w w' := by
  cases s with
  | nil => exact number_empty lim w
  | cons c cs =>
    simp only [List.length_cons] at hl
    cases h48 : ((c.toNat : Int) == 48) with
    | false =>
      have h := number_loop c cs lim w false h48 (fun h => by cases h) hlim (by omega)
      unfold numR
      rw [readNum_loop (.inl (by rw [beq_eq_false_iff_ne] at h48 ⊢; omega))]
      exact h
    | true =>
      by_cases hcs : cs = []
      · subst hcs
        have e48 : c = 48 := by
          apply UInt8.toNat_inj.1
          rw [beq_iff_eq] at h48
          have : (48 : UInt8).toNat = 48 := rfl
          omega
        have h := number_loop c [] lim w true h48 (fun _ => by rw [e48]; rfl) hlim (by simp)
        unfold numR
        rw [readNum_loop (.inr rfl)]
        exact h
      · have h := number_nought c cs lim w h48 hcs
        have e48 : c = 48 := by
          apply UInt8.toNat_inj.1
          rw [beq_iff_eq] at h48
          have : (48 : UInt8).toNat = 48 := rfl
          omega
        unfold numR readNum
        rw [if_pos (.inr ⟨by rw [e48]; rfl, fun e => hcs (by simpa using congrArg List.tail e)⟩)]
        exact h

end Go.Proofs.YtpjojbiiceedjaaDoor.Rr
