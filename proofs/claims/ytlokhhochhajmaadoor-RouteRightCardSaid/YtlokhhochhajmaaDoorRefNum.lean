/- The document's own Num and texts of keys, prefixes and routes of layer 2. -/
import Derived.Test.YtlokhhochhajmaaDoorTextLaws
import Derived.Test.YtlokhhochhajmaaDoorRefMay
import Derived.Test.YtlokhhochhajmaaDoorRefStep
import Derived.Test.YtlokhhochhajmaaDoorReadPre
namespace Go.Proofs.YtlokhhochhajmaaDoor
open Go.RowKit Go.Sort
attribute [local go_sem ↓] loadVar_key loadVar_pre storeVar_key storeVar_pre build_pre

theorem bs_append (a b : List UInt8) : bs a ++ bs b = bs (a ++ b) := WideShapes.bytes_inj (by simp [bs])
theorem add_text (a b : List UInt8) (h : a.length + b.length ≤ 100000) (w : World) : (Op.stringOp .add (bs a) (bs b)).run Tryd.prog w = .ok (.string (bs (a ++ b))) w := by
  rw [run_string_add_sum w _ _ (by rw [bs_size, bs_size]; omega), bs_append]

def digitB (d : Nat) : UInt8 := UInt8.ofNat (48 + d)
theorem rune_digit (d : Nat) (h : d < 10) (w : World) : (convert 21 9 (.int .i32 (48 + (d : Int)))).run Tryd.prog w = .ok (.string (bs [digitB d])) w := by
  have h2 : d = 0 ∨ d = 1 ∨ d = 2 ∨ d = 3 ∨ d = 4 ∨ d = 5 ∨ d = 6 ∨ d = 7 ∨ d = 8 ∨ d = 9 := by omega
  rcases h2 with rfl | rfl | rfl | rfl | rfl | rfl | rfl | rfl | rfl | rfl <;> (refine Eq.trans ?_ rfl; kernel_rfl)

set_option maxHeartbeats 1000000 in
set_option maxRecDepth 100000 in
theorem rnum_small (n : Nat) (hn : n < 10) (w : World) :
    Calls Tryd.prog 21 #[.int .i64 n] w fun e w' => e = .returned (.string (bs (Lib.decDigits n))) ∧ Below w.heap.size w w' := by
  have h1 : (n : Int) < 10 := by omega
  have h2 : (0 : Int) ≤ n := by omega
  have hr := fun w => rune_digit n hn w
  have HD : Hid (Lib.decDigits n = [digitB n]) := Lib.hid (dec_small hn)
  go_enter Tryd.func21, Tryd.ntmps21
  go_wp2
  go_ret
  exact ⟨ret_string HD.out.symm, Below.refl _ _⟩

set_option maxHeartbeats 1000000 in
set_option maxRecDepth 100000 in
theorem rnum_step (n : Nat) (w : World) (h10 : ¬ n < 10) (hl : n < 1000000) (C0 : Hid (∀ w, Calls Tryd.prog 21 #[.int .i64 (n / 10 : Nat)] w fun e w' => e = .returned (.string (bs (Lib.decDigits (n / 10)))) ∧ Below w.heap.size w w')) :
    Calls Tryd.prog 21 #[.int .i64 n] w fun e w' => e = .returned (.string (bs (Lib.decDigits n))) ∧ Below w.heap.size w w' := by
  have h1 : ¬ (n : Int) < 10 := by omega
  have h2 : (0 : Int) ≤ n := by omega
  have h3 : (n : Int) < 1000000 := by omega
  obtain ⟨q, hq⟩ : ∃ q, q = n / 10 := ⟨_, rfl⟩
  obtain ⟨d, hd⟩ : ∃ d, d = n % 10 := ⟨_, rfl⟩
  have e1 : (n : Int) / 10 = (q : Int) := by omega
  have e2 : (n : Int) % 10 = (d : Int) := by omega
  have hd10 : d < 10 := by omega
  have hdI : (d : Int) < 10 := by omega
  have C := Lib.hid (C0.out w)
  rw [← hq] at C
  have hr := fun w => rune_digit d hd10 w
  have HD : Hid (Lib.decDigits n = Lib.decDigits q ++ [digitB d]) := by show _ = _; rw [dec_big h10, hq, hd]; rfl
  have hb := fun w => add_text (Lib.decDigits q) [digitB d] (by have := dec_length (n := q) (k := 6) (by omega); simp; omega) w
  clear hq hd h10 C0
  go_enter Tryd.func21, Tryd.ntmps21
  go_wp2_with fail
  (with_reducible refine C.out.mono ?_)
  rintro e w1 ⟨rfl, h5⟩
  clear hl h1 e1 C
  go_wp2
  go_ret
  exact ⟨ret_string HD.out.symm, h5⟩

theorem rnum_any (k : Nat) : ∀ (n : Nat) (w : World), n ≤ k → n < 1000000 →
    Calls Tryd.prog 21 #[.int .i64 n] w fun e w' => e = .returned (.string (bs (Lib.decDigits n))) ∧ Below w.heap.size w w' := by
  induction k with
  | zero => intro n w hk _; exact rnum_small n (by omega) w
  | succ k ih =>
    intro n w hk hl
    by_cases hn : n < 10
    · exact rnum_small n hn w
    · exact rnum_step n w hn hl (Lib.hid fun w => ih (n / 10) w (by omega) (by omega))

end Go.Proofs.YtlokhhochhajmaaDoor
