/- The law of what the document says of blocks. -/
import Derived.Test.YtkpdkpfmljcllaaRefRoom
namespace Go.Proofs.Ytkpdkpfmljcllaa.Wear
open Go.RowKit Go.Sort Go.Shelf
attribute [local go_sem ↓] loadVar_wb storeVar_wb loadVar_bl storeVar_bl build_bl build_wb

theorem firstL_out {R : Wb → Bool} {os : List Order} {l : List Wb} {p : Int} (h : rightB l p = false) : firstL R os l p = none := by
  unfold firstL; rw [h]; rfl
theorem firstL_lt {R : Wb → Bool} {os : List Order} (ho : AllKeyed os) {l : List Wb} {p : Int} : ∀ k, firstL R os l p = some k → k < l.length := fun k h => by
  obtain ⟨y, hy⟩ := first_some ho h
  exact hy.lt
theorem rfront_any (l : List Wb) (v : Value) (p : Int) (w : World) (hR : RdW w v l) : Calls Try.prog 10 #[v, .int .i64 p, .int .i64 1] w (FirstPost (frontL l p) w) :=
  rfirst_any l v p 1 (such1 p) ahead1 (frontL l p) w hR (fun b W => such1_any b p W) (fun a b W => ahead1_any a b W) firstL_out
    (fun hr _ _ hx => good_first keyed_front hr (fun b hb => such1_free ((rightB_iff.1 hr).2.2.2.2 b hb)) ahead1_is hx) (firstL_lt keyed_front)
theorem rdead_any (l : List Wb) (v : Value) (p : Int) (w : World) (hR : RdW w v l) : Calls Try.prog 10 #[v, .int .i64 p, .int .i64 2] w (FirstPost (deadL l p) w) :=
  rfirst_any l v p 2 such2 ahead2 (deadL l p) w hR (fun b W => such2_any b p W) (fun a b W => ahead2_any a b W) firstL_out
    (fun hr _ _ hx => good_first keyed_dead hr (fun b hb => such2_dead ((rightB_iff.1 hr).2.2.2.2 b hb)) ahead2_is hx) (firstL_lt keyed_dead)
theorem rvictim_any (l : List Wb) (v : Value) (p : Int) (w : World) (hR : RdW w v l) : Calls Try.prog 10 #[v, .int .i64 p, .int .i64 3] w (FirstPost (victimL l p) w) :=
  rfirst_any l v p 3 (such3 p) ahead3 (victimL l p) w hR (fun b W => such3_any b p W) (fun a b W => ahead3_any a b W) firstL_out
    (fun hr _ _ hx => good_first keyed_victim hr (fun b hb => such3_mixed ((rightB_iff.1 hr).2.2.2.2 b hb)) ahead3_is hx) (firstL_lt keyed_victim)

set_option maxHeartbeats 4000000 in
set_option maxRecDepth 100000 in
theorem walkRight (l : List Wb) (v : Value) (p : Int) (w : World) (hR : RdW w v l) :
    Calls Try.prog 3 #[v, .int .i64 p] w fun e w' => e = .returned (.bool true) ∧ Below w.heap.size w w' := by
  have HW := Lib.hid (awake_any w)
  obtain ⟨a0, c0, hv, -, -⟩ := hR.len
  by_cases h40 : 40 < l.length
  · obtain ⟨n, hn⟩ : ∃ n, l.length = n := ⟨_, rfl⟩
    rw [hn] at hv h40
    have h40I : (40 : Int) < (n : Int) := by omega
    subst hv
    clear hR hn h40
    go_enter Try.func3, Try.ntmps3
    go_wp2_with fail
    refine HW.out.mono ?_
    rintro e w1 ⟨rfl, hb⟩
    go_wp2
    go_ret
    exact ⟨rfl, hb⟩
  · have HR := Lib.hid hR
    obtain ⟨n, hn⟩ : ∃ n, l.length = n := ⟨_, rfl⟩
    rw [hn] at hv h40
    have d40 : decide ((40 : Int) < n) = false := by simp; omega
    have h40I : ¬ (40 : Int) < (n : Int) := by omega
    have CF : Hid (∀ W', Below w.heap.size w W' → Calls Try.prog 7 #[v, .int .i64 p] W' fun e w' => e = .returned (.tuple #[.int .i64 (atN (frontL l p) : Nat), .bool (frontL l p).isSome]) ∧ Below w.heap.size w w') := fun W' h =>
      (front_any l v p W' (HR.out.later h)).mono fun e w' ⟨he, hb⟩ => ⟨he, h.trans (hb.mono h.size)⟩
    have CD : Hid (∀ W', Below w.heap.size w W' → Calls Try.prog 8 #[v, .int .i64 p] W' fun e w' => e = .returned (.tuple #[.int .i64 (atN (deadL l p) : Nat), .bool (deadL l p).isSome]) ∧ Below w.heap.size w w') := fun W' h =>
      (deadP_any l v p W' (HR.out.later h)).mono fun e w' ⟨he, hb⟩ => ⟨he, h.trans (hb.mono h.size)⟩
    have CV : Hid (∀ W', Below w.heap.size w W' → Calls Try.prog 9 #[v, .int .i64 p] W' fun e w' => e = .returned (.tuple #[.int .i64 (atN (victimL l p) : Nat), .bool (victimL l p).isSome]) ∧ Below w.heap.size w w') := fun W' h =>
      (victim_any l v p W' (HR.out.later h)).mono fun e w' ⟨he, hb⟩ => ⟨he, h.trans (hb.mono h.size)⟩
    have C1 : Hid (∀ W', Below w.heap.size w W' → Calls Try.prog 10 #[v, .int .i64 p, .int .i64 1] W' fun e w' => e = .returned (.tuple #[.int .i64 (atN (frontL l p) : Nat), .bool (frontL l p).isSome]) ∧ Below w.heap.size w w') := fun W' h =>
      (rfront_any l v p W' (HR.out.later h)).mono fun e w' ⟨he, hb⟩ => ⟨he, h.trans (hb.mono h.size)⟩
    have C2 : Hid (∀ W', Below w.heap.size w W' → Calls Try.prog 10 #[v, .int .i64 p, .int .i64 2] W' fun e w' => e = .returned (.tuple #[.int .i64 (atN (deadL l p) : Nat), .bool (deadL l p).isSome]) ∧ Below w.heap.size w w') := fun W' h =>
      (rdead_any l v p W' (HR.out.later h)).mono fun e w' ⟨he, hb⟩ => ⟨he, h.trans (hb.mono h.size)⟩
    have C3 : Hid (∀ W', Below w.heap.size w W' → Calls Try.prog 10 #[v, .int .i64 p, .int .i64 3] W' fun e w' => e = .returned (.tuple #[.int .i64 (atN (victimL l p) : Nat), .bool (victimL l p).isSome]) ∧ Below w.heap.size w w') := fun W' h =>
      (rvictim_any l v p W' (HR.out.later h)).mono fun e w' ⟨he, hb⟩ => ⟨he, h.trans (hb.mono h.size)⟩
    have CR : Hid (∀ W', Below w.heap.size w W' → Calls Try.prog 11 #[v, .int .i64 p] W' fun e w' => e = .returned (.bool (rightB l p)) ∧ Below w.heap.size w w') := fun W' h =>
      (right_any l v p W' (HR.out.later h)).mono fun e w' ⟨he, hb⟩ => ⟨he, h.trans (hb.mono h.size)⟩
    have C4 : Hid (∀ W', Below w.heap.size w W' → Calls Try.prog 12 #[v, .int .i64 p] W' fun e w' => e = .returned (.bool (rightB l p)) ∧ Below w.heap.size w w') := fun W' h =>
      (rright_any l v p W' (HR.out.later h)).mono fun e w' ⟨he, hb⟩ => ⟨he, h.trans (hb.mono h.size)⟩
    have CO : Hid (∀ W', Below w.heap.size w W' → Calls Try.prog 13 #[v, .int .i64 p] W' fun e w' => e = .returned (.int .i64 (roomL l p)) ∧ Below w.heap.size w w') := fun W' h =>
      (room_any l v p W' (HR.out.later h)).mono fun e w' ⟨he, hb⟩ => ⟨he, h.trans (hb.mono h.size)⟩
    have C5 : Hid (∀ W', Below w.heap.size w W' → Calls Try.prog 14 #[v, .int .i64 p] W' fun e w' => e = .returned (.int .i64 (roomL l p)) ∧ Below w.heap.size w w') := fun W' h =>
      (rroom_any l v p W' (HR.out.later h)).mono fun e w' ⟨he, hb⟩ => ⟨he, h.trans (hb.mono h.size)⟩
    have CS : Hid (∀ W', Below w.heap.size w W' → Calls Try.prog 15 #[v] W' fun e w' => e = .returned (.int .i64 (spreadL l)) ∧ Below w.heap.size w w') := fun W' h =>
      (spread_any l v W' (HR.out.later h)).mono fun e w' ⟨he, hb⟩ => ⟨he, h.trans (hb.mono h.size)⟩
    have C6 : Hid (∀ W', Below w.heap.size w W' → Calls Try.prog 16 #[v] W' fun e w' => e = .returned (.int .i64 (spreadL l)) ∧ Below w.heap.size w w') := fun W' h =>
      (rspread_any l v W' (HR.out.later h)).mono fun e w' ⟨he, hb⟩ => ⟨he, h.trans (hb.mono h.size)⟩
    clear hR HR
    generalize atN (frontL l p) = f0 at *
    generalize (frontL l p).isSome = f1 at *
    generalize atN (deadL l p) = g0 at *
    generalize (deadL l p).isSome = g1 at *
    generalize atN (victimL l p) = h0 at *
    generalize (victimL l p).isSome = h1 at *
    generalize rightB l p = r at *
    generalize roomL l p = m at *
    generalize spreadL l = s at *
    subst hv
    clear hn h40
    go_enter Try.func3, Try.ntmps3
    go_wp2_with fail
    refine HW.out.mono ?_
    rintro e w0 ⟨rfl, hb⟩
    have H := Lib.hid hb
    clear hb HW
    go_wp2_with fail
    refine (CF.out _ H.out).mono ?_
    rintro e w1 ⟨rfl, hb⟩
    replace H := Lib.hid hb
    clear hb
    go_wp2_with fail
    refine (CD.out _ H.out).mono ?_
    rintro e w2 ⟨rfl, hb⟩
    replace H := Lib.hid hb
    clear hb
    go_wp2_with fail
    refine (CV.out _ H.out).mono ?_
    rintro e w3 ⟨rfl, hb⟩
    replace H := Lib.hid hb
    clear hb
    go_wp2_with fail
    refine (C1.out _ H.out).mono ?_
    rintro e w4 ⟨rfl, hb⟩
    replace H := Lib.hid hb
    clear hb
    go_wp2_with fail
    refine (C2.out _ H.out).mono ?_
    rintro e w5 ⟨rfl, hb⟩
    replace H := Lib.hid hb
    clear hb
    go_wp2_with fail
    refine (C3.out _ H.out).mono ?_
    rintro e w6 ⟨rfl, hb⟩
    replace H := Lib.hid hb
    clear hb
    go_wp2_with fail
    refine (CR.out _ H.out).mono ?_
    rintro e w7 ⟨rfl, hb⟩
    replace H := Lib.hid hb
    clear hb
    go_wp2_with fail
    refine (C4.out _ H.out).mono ?_
    rintro e w8 ⟨rfl, hb⟩
    replace H := Lib.hid hb
    clear hb
    go_wp2_with fail
    refine (CO.out _ H.out).mono ?_
    rintro e w9 ⟨rfl, hb⟩
    replace H := Lib.hid hb
    clear hb
    go_wp2_with fail
    refine (C5.out _ H.out).mono ?_
    rintro e w10 ⟨rfl, hb⟩
    replace H := Lib.hid hb
    clear hb
    go_wp2_with fail
    refine (CS.out _ H.out).mono ?_
    rintro e w11 ⟨rfl, hb⟩
    replace H := Lib.hid hb
    clear hb
    go_wp2_with fail
    refine (C6.out _ H.out).mono ?_
    rintro e w12 ⟨rfl, hb⟩
    replace H := Lib.hid hb
    clear hb
    go_wp2
    go_ret
    exact ⟨rfl, H.out⟩
end Go.Proofs.Ytkpdkpfmljcllaa.Wear
