/- The statement TableBest, walked: at whatever routes, key and bits. -/
import Derived.Test.YtcpdpcfejpbdpaaTBest
namespace Go.Proofs.Ytcpdpcfejpbdpaa.tableBest
open Go.RowKit Go.Sort Go.Shelf
attribute [local go_sem ↓] loadVar_key loadVar_pre loadVar_route storeVar_pre storeVar_route build_pre build_route build_key build_change buildSlice_rows buildSlice_chs binOp_rtEql

set_option maxHeartbeats 1000000 in
set_option maxRecDepth 100000 in
theorem walk_no (l : List Rt) (k : Nat → Nat) (bits : Int) (v : Value) (w : World) (hR : Rd w v l) (hno : rightB l = false) :
    Calls Try.prog 4 #[v, .agg (kc k), .int .i64 bits] w fun e w' => e = .returned (.bool true) ∧ Below w.heap.size w w' := by
  have hb0 : Below w.heap.size w (w.alloc (.cells (kc k) 24)) := (Below.refl _ _).alloc (Nat.le_refl _) _
  have HB0 := Lib.hid hb0
  have C1 := awake_any (w.alloc (.cells (kc k) 24))
  have H1 := Lib.hid C1
  have H2 : Hid (∀ W, Rd W v l → Calls Try.prog 14 #[v] W fun e w' => e = .returned (.bool false) ∧ Below W.heap.size W w') := fun W h => by
    have := right_any l v W h
    rw [hno] at this; exact this
  obtain ⟨a, cap, hv, hmx⟩ := rd_len hR
  unfold maxLen at hmx
  have HR := Lib.hid hR
  obtain ⟨m, hm⟩ : ∃ m, m = l.length := ⟨_, rfl⟩
  rw [← hm] at hv hmx
  subst hv
  clear C1 hR hb0 hm hno
  by_cases hl : m ≤ 256
  · have hlI : (m : Int) ≤ 256 := by omega
    clear hl hmx
    go_enter Try.func4, Try.ntmps4
    go_wp2_with fail
    refine H1.out.mono ?_
    rintro e1 w1 ⟨rfl, h1⟩
    have HW1 : Hid (Below w.heap.size w w1) := HB0.out.trans (h1.mono HB0.out.size)
    clear h1
    go_wp2_with fail
    refine (H2.out _ (HR.out.later HW1.out)).mono ?_
    rintro e1 w2 ⟨rfl, h2⟩
    have HW2 : Hid (Below w.heap.size w w2) := HW1.out.trans (h2.mono HW1.out.size)
    clear h2
    go_wp2
    go_ret
    exact ⟨rfl, HW2.out⟩
  · have hlI : (256 : Int) < m := by omega
    clear hl hmx
    go_enter Try.func4, Try.ntmps4
    go_wp2_with fail
    refine H1.out.mono ?_
    rintro e1 w1 ⟨rfl, h1⟩
    have HW1 : Hid (Below w.heap.size w w1) := HB0.out.trans (h1.mono HB0.out.size)
    clear h1
    go_wp2
    go_ret
    exact ⟨rfl, HW1.out⟩

theorem walkAll (l : List Rt) (k : Nat → Nat) (bits : Int) (v : Value) (w : World) (hR : Rd w v l) (hk : Bytes16 k) :
    Calls Try.prog 4 #[v, .agg (kc k), .int .i64 bits] w fun e w' => e = .returned (.bool true) ∧ Below w.heap.size w w' := by
  cases h : rightB l with
  | false => exact walk_no l k bits v w hR h
  | true => obtain ⟨h1, h2⟩ := (right_iff l).1 h; exact walk l k hk bits v w hR h1 h2
end Go.Proofs.Ytcpdpcfejpbdpaa.tableBest
