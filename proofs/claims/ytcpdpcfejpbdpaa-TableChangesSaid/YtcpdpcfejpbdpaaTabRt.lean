/- table.Right: what it hands back. -/
import Derived.Test.YtcpdpcfejpbdpaaTabRight
namespace Go.Proofs.Ytcpdpcfejpbdpaa
open Go.RowKit Go.Sort Go.Shelf

/-- The prefix of the route ahead of place i. -/
def prevOf (l : List Rt) : Nat → Pre
  | 0 => zpre
  | j + 1 => match l[j]? with
    | some r => r.pre
    | none => zpre
def badAt (l : List Rt) (i : Nat) : Bool := match l[i]? with
  | some r => badB (i == 0) (prevOf l i) r.pre
  | none => false
def okL (l : List Rt) : Bool := (List.range l.length).all fun i => !badAt l i
def rightB (l : List Rt) : Bool := decide (l.length ≤ 256) && okL l

theorem prevOf_bytes (l : List Rt) (i : Nat) : Bytes16 (prevOf l i).key := by
  unfold prevOf
  split
  · exact zkey_bytes
  · split
    · exact Rt.hk _
    · exact zkey_bytes

theorem okL_true {l : List Rt} (h : FirstAt (badAt l) l.length l.length) : okL l = true := by
  unfold okL
  rw [List.all_eq_true]
  intro i hi
  rw [h.no i (by simpa using hi)]; rfl
theorem okL_false {l : List Rt} {i : Nat} (hi : i < l.length) (h : badAt l i = true) : okL l = false := by
  unfold okL
  rw [List.all_eq_false]
  exact ⟨i, by simpa using hi, by rw [h]; simp⟩

theorem rd_len {w : World} {v : Value} {l : List Rt} (h : Rd w v l) : ∃ a cap, v = .slice a l.length cap ∧ l.length ≤ maxLen := by
  rcases h with ⟨rfl, rfl⟩ | ⟨a, cap, rfl, h1, h2, _⟩
  · exact ⟨none, 0, rfl, by simp [maxLen]⟩
  · exact ⟨some a, cap, rfl, by omega⟩

set_option maxHeartbeats 1000000 in
set_option maxRecDepth 100000 in
theorem right_any (l : List Rt) (v : Value) (w : World) (hR : Rd w v l) :
    Calls Try.prog 14 #[v] w fun e w' => e = .returned (.bool (rightB l)) ∧ Below w.heap.size w w' := by
  obtain ⟨a, cap, hv, hm⟩ := rd_len hR
  unfold maxLen at hm
  by_cases hl : l.length ≤ 256
  · have C := misplaced_any w
    have D := contains_any l v 55 #[.pointer (some ⟨w.heap.size + 1, 0, none⟩), .pointer (some ⟨w.heap.size, 0, none⟩)] (badAt l)
      (fun i W => Below w.heap.size w W ∧ Boxes w.heap.size W (w.heap.size + 1) w.heap.size (i == 0) (prevOf l i)) ((w.alloc (.cells (pc zpre) 26)).alloc (.cells #[.bool true] 4))
      (fun i W h => hR.later h.1) (enters_of Try.func55 (by kernel_rfl) rfl)
      (fun i r W hr ⟨hb, hx⟩ => by
        refine (closure_any w.heap.size W _ _ _ _ r (prevOf_bytes l i) hx).mono ?_
        rintro e w' ⟨rfl, h1, h2⟩
        refine ⟨by simp [badAt, hr], hb.trans h2, ?_⟩
        have e1 : prevOf l (i + 1) = r.pre := by simp [prevOf, hr]
        rw [e1]
        simpa using h1)
      ⟨((Below.refl _ _).alloc (Nat.le_refl _) _).alloc (by simp) _, by
        refine ⟨by omega, Nat.le_refl _, by omega, ?_, ?_⟩
        · have := Go.heap_alloc_new (w.alloc (.cells (pc zpre) 26)) (.cells #[.bool true] 4)
          simpa using this
        · rw [Go.heap_alloc_old _ _ (by simp)]; exact Go.heap_alloc_new w _⟩
    have HC := Lib.hid C
    have HD := Lib.hid D
    have HR : Hid (rightB l = okL l) := by show _ = _; unfold rightB; simp [hl]
    clear C D hR
    obtain ⟨n, hn⟩ : ∃ n, n = l.length := ⟨_, rfl⟩
    rw [← hn] at hv hm hl HD
    have hlI : (n : Int) ≤ 256 := by omega
    have HN := Lib.hid hn
    subst hv
    clear hn
    go_enter Try.func14, Try.ntmps14
    go_wp2_with fail
    refine HC.out.mono ?_
    rintro e w' ⟨rfl, rfl⟩
    go_wp2_with fail
    refine HD.out.mono ?_
    rintro e w' (⟨rfl, hf, hb, -⟩ | ⟨i, hi, rfl, hf, hp, hb, -⟩)
    · go_wp2
      go_ret
      exact ⟨ret_bool (by rw [HR.out, okL_true (by rw [← HN.out]; exact hf)]), hb⟩
    · have HP := Lib.hid hp
      clear hp
      go_wp2
      go_ret
      exact ⟨ret_bool (by rw [HR.out, okL_false (by rw [← HN.out]; exact hi) HP.out]), hb⟩
  · have HR : Hid (rightB l = false) := by show _ = _; unfold rightB; simp [hl]
    clear hR
    obtain ⟨n, hn⟩ : ∃ n, n = l.length := ⟨_, rfl⟩
    rw [← hn] at hv hm hl
    have hlI : ¬ (n : Int) ≤ 256 := by omega
    subst hv
    clear hn
    go_enter Try.func14, Try.ntmps14
    go_wp2
    go_ret
    exact ⟨ret_bool HR.out.symm, Below.refl _ _⟩
end Go.Proofs.Ytcpdpcfejpbdpaa
