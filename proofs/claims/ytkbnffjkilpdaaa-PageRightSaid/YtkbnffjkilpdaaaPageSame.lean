/- The document's May and Same of layer 7: what each hands back. -/
import Derived.Test.YtkbnffjkilpdaaaPageMay
namespace Go.Proofs.Ytkbnffjkilpdaaa.Page
open Go.RowKit Go.Sort Go.Shelf
attribute [local go_sem ↓] slice_bytes text_bytes eq_text ne_text

set_option maxHeartbeats 4000000 in
set_option maxRecDepth 100000 in
theorem rmay_any (p : Pg) (v : Value) (n : Int) (w : World) (hR : RdB w v p.body) : Calls Try.prog 13 #[pgV p v, .int .i64 n] w fun e w' => e = .returned (.bool (mayB p n)) ∧ Below w.heap.size w w' := by
  have HM := may_steps p n
  have HB : Hid (Below w.heap.size w (w.alloc (.cells (pgC p v) 25))) := (Below.refl _ _).alloc (Nat.le_refl _) _
  obtain ⟨a, cap, hv, hl1, hl2⟩ := hR.len
  obtain ⟨k, i, g, l⟩ := p
  simp only at hv hl1 HM HB
  unfold pgC at HB
  unfold pgV pgC
  simp only at HB ⊢
  rw [HM]
  obtain ⟨m, hm⟩ : ∃ m, l.length = m := ⟨_, rfl⟩
  rw [hm] at hv ⊢
  have hm0 : (0 : Int) ≤ m := by omega
  subst hv
  clear hR hl1 hl2 hm HM
  by_cases h1 : 24 ≤ n
  · by_cases h2 : n ≤ 256
    · have hs : sizedB n = true := sized_iff.2 ⟨h1, h2⟩
      have hr : roomI n = n - 16 := room_of hs
      by_cases h3 : k = 1
      · subst h3
        have hk : kindB 1 = true := rfl
        by_cases h5 : 0 ≤ i
        · by_cases h6 : i < 64
          · have hi : idB i = true := id_iff.2 ⟨h5, h6⟩
            have h7 : i ≤ 63 := by omega
            by_cases h8 : g < 281474976710656
            · have hgI : (g : Int) < 281474976710656 := by omega
              have HF : Hid ((sizedB n && (kindB 1 && (idB i && (decide (g < 281474976710656) && decide ((m : Int) ≤ roomI n))))) = decide ((m : Int) ≤ n - 16)) := by show _ = _; rw [hs, hk, hi, decide_eq_true h8, hr]; rfl
              go_enter Try.func13, Try.ntmps13
              go_wp2
              go_ret
              exact ⟨ret_bool (by first | exact HF.out.symm | rfl), HB.out⟩
            · have hgI : decide ((g : Int) < 281474976710656) = false := by simp; omega
              have HF : Hid ((sizedB n && (kindB 1 && (idB i && (decide (g < 281474976710656) && decide ((m : Int) ≤ roomI n))))) = false) := by show _ = _; rw [hs, hk, hi, decide_eq_false h8]; rfl
              go_enter Try.func13, Try.ntmps13
              go_wp2
              go_ret
              exact ⟨ret_bool (by first | exact HF.out.symm | rfl), HB.out⟩
          · have hi : idB i = false := by simp [idB]; omega
            have h7 : ¬ i ≤ 63 := by omega
            have HF : Hid ((sizedB n && (kindB 1 && (idB i && (decide (g < 281474976710656) && decide ((m : Int) ≤ roomI n))))) = false) := by show _ = _; rw [hs, hk, hi]; rfl
            go_enter Try.func13, Try.ntmps13
            go_wp2
            go_ret
            exact ⟨ret_bool (by first | exact HF.out.symm | rfl), HB.out⟩
        · have hi : idB i = false := by simp [idB]; omega
          have HF : Hid ((sizedB n && (kindB 1 && (idB i && (decide (g < 281474976710656) && decide ((m : Int) ≤ roomI n))))) = false) := by show _ = _; rw [hs, hk, hi]; rfl
          go_enter Try.func13, Try.ntmps13
          go_wp2
          go_ret
          exact ⟨ret_bool (by first | exact HF.out.symm | rfl), HB.out⟩
      · have h3' : (k == 1) = false := by simp [h3]
        by_cases h4 : k = 2
        · subst h4
          have hk : kindB 2 = true := rfl
          by_cases h5 : 0 ≤ i
          · by_cases h6 : i < 64
            · have hi : idB i = true := id_iff.2 ⟨h5, h6⟩
              have h7 : i ≤ 63 := by omega
              by_cases h8 : g < 281474976710656
              · have hgI : (g : Int) < 281474976710656 := by omega
                have HF : Hid ((sizedB n && (kindB 2 && (idB i && (decide (g < 281474976710656) && decide ((m : Int) ≤ roomI n))))) = decide ((m : Int) ≤ n - 16)) := by show _ = _; rw [hs, hk, hi, decide_eq_true h8, hr]; rfl
                go_enter Try.func13, Try.ntmps13
                go_wp2
                go_ret
                exact ⟨ret_bool (by first | exact HF.out.symm | rfl), HB.out⟩
              · have hgI : decide ((g : Int) < 281474976710656) = false := by simp; omega
                have HF : Hid ((sizedB n && (kindB 2 && (idB i && (decide (g < 281474976710656) && decide ((m : Int) ≤ roomI n))))) = false) := by show _ = _; rw [hs, hk, hi, decide_eq_false h8]; rfl
                go_enter Try.func13, Try.ntmps13
                go_wp2
                go_ret
                exact ⟨ret_bool (by first | exact HF.out.symm | rfl), HB.out⟩
            · have hi : idB i = false := by simp [idB]; omega
              have h7 : ¬ i ≤ 63 := by omega
              have HF : Hid ((sizedB n && (kindB 2 && (idB i && (decide (g < 281474976710656) && decide ((m : Int) ≤ roomI n))))) = false) := by show _ = _; rw [hs, hk, hi]; rfl
              go_enter Try.func13, Try.ntmps13
              go_wp2
              go_ret
              exact ⟨ret_bool (by first | exact HF.out.symm | rfl), HB.out⟩
          · have hi : idB i = false := by simp [idB]; omega
            have HF : Hid ((sizedB n && (kindB 2 && (idB i && (decide (g < 281474976710656) && decide ((m : Int) ≤ roomI n))))) = false) := by show _ = _; rw [hs, hk, hi]; rfl
            go_enter Try.func13, Try.ntmps13
            go_wp2
            go_ret
            exact ⟨ret_bool (by first | exact HF.out.symm | rfl), HB.out⟩
        · have h4' : (k == 2) = false := by simp [h4]
          have hk : kindB k = false := by unfold kindB; rw [h3', h4']; rfl
          have HF : Hid ((sizedB n && (kindB k && (idB i && (decide (g < 281474976710656) && decide ((m : Int) ≤ roomI n))))) = false) := by show _ = _; rw [hs, hk]; rfl
          go_enter Try.func13, Try.ntmps13
          go_wp2
          go_ret
          exact ⟨ret_bool (by first | exact HF.out.symm | rfl), HB.out⟩
    · have hs : sizedB n = false := by simp [sizedB]; omega
      have HF : Hid ((sizedB n && (kindB k && (idB i && (decide (g < 281474976710656) && decide ((m : Int) ≤ roomI n))))) = false) := by show _ = _; rw [hs]; rfl
      go_enter Try.func13, Try.ntmps13
      go_wp2
      go_ret
      exact ⟨ret_bool (by first | exact HF.out.symm | rfl), HB.out⟩
  · have hs : sizedB n = false := by simp [sizedB]; omega
    have HF : Hid ((sizedB n && (kindB k && (idB i && (decide (g < 281474976710656) && decide ((m : Int) ≤ roomI n))))) = false) := by show _ = _; rw [hs]; rfl
    go_enter Try.func13, Try.ntmps13
    go_wp2
    go_ret
    exact ⟨ret_bool (by first | exact HF.out.symm | rfl), HB.out⟩

def sameB (a b : Pg) : Bool := a.kind == b.kind && (a.id == b.id && (decide ((a.gen : Int) = (b.gen : Int)) && decide (a.body = b.body)))
theorem same_iff {a b : Pg} : sameB a b = true ↔ a = b := by
  obtain ⟨k, i, g, l⟩ := a
  obtain ⟨k', i', g', l'⟩ := b
  unfold sameB
  simp only [Bool.and_eq_true, beq_iff_eq, decide_eq_true_eq, Pg.mk.injEq]
  constructor
  · rintro ⟨h1, h2, h3, h4⟩; exact ⟨h1, h2, by omega, h4⟩
  · rintro ⟨h1, h2, h3, h4⟩; exact ⟨h1, h2, by omega, h4⟩
theorem same_refl (a : Pg) : sameB a a = true := same_iff.2 rfl
set_option maxHeartbeats 4000000 in
set_option maxRecDepth 100000 in
theorem same_any (p o : Pg) (u v : Value) (w : World) (hu : RdB w u p.body) (hv : RdB w v o.body) : Calls Try.prog 11 #[pgV p u, pgV o v] w fun e w' => e = .returned (.bool (sameB p o)) ∧ Below w.heap.size w w' := by
  have HB0 : Below w.heap.size w ((w.alloc (.cells (pgC p u) 25)).alloc (.cells (pgC o v) 25)) := ((Below.refl _ _).alloc (Nat.le_refl _) _).alloc (by simp) _
  have HE : sameB p o = (p.kind == o.kind && (p.id == o.id && (decide ((p.gen : Int) = (o.gen : Int)) && decide (p.body = o.body)))) := rfl
  have t1 := run_text (hu.later HB0)
  have t2 := run_text (hv.later HB0)
  have te := run_textEq p.body o.body
  have HB := Lib.hid HB0
  obtain ⟨k, i, g, l⟩ := p
  obtain ⟨k', i', g', l'⟩ := o
  unfold pgC at HB t1 t2
  unfold pgV pgC
  simp only at HB HE t1 t2 te ⊢
  rw [HE]
  clear hu hv HB0 HE
  obtain ⟨d, hd⟩ : ∃ d, decide (l = l') = d := ⟨_, rfl⟩
  rw [hd] at te ⊢
  clear hd
  cases hk : (k == k') with
  | false =>
    go_enter Try.func11, Try.ntmps11
    go_wp2
    go_ret
    exact ⟨rfl, HB.out⟩
  | true =>
    cases hi : (i == i') with
    | false =>
      go_enter Try.func11, Try.ntmps11
      go_wp2
      go_ret
      exact ⟨rfl, HB.out⟩
    | true =>
      by_cases hg : (g : Int) = (g' : Int)
      · have hgB : ((g : Int) == (g' : Int)) = true := by rw [hg]; exact beq_self_eq_true _
        have HG : Hid (decide ((g : Int) = (g' : Int)) = true) := decide_eq_true hg
        clear hg
        rw [HG.out]
        go_enter Try.func11, Try.ntmps11
        go_wp2
        go_ret
        exact ⟨rfl, HB.out⟩
      · have hgB : ((g : Int) == (g' : Int)) = false := by rw [beq_eq_false_iff_ne]; exact hg
        have HG : Hid (decide ((g : Int) = (g' : Int)) = false) := decide_eq_false hg
        clear hg
        rw [HG.out]
        go_enter Try.func11, Try.ntmps11
        go_wp2
        go_ret
        exact ⟨rfl, HB.out⟩
end Go.Proofs.Ytkbnffjkilpdaaa.Page
