/- slices.IndexFunc, ContainsFunc over routes, whatever the function keeps: what they hand back. -/
import Derived.Test.YtcpdpcfejpbdpaaTabBase
import Derived.LoopTactic
import Derived.Shelf.Abstract
namespace Go.Proofs.Ytcpdpcfejpbdpaa
open Go.RowKit Go.Sort Go.Shelf
attribute [local go_sem ↓] loadVar_key loadVar_pre loadVar_route

/-- Where a search of the first one ends: all ahead were 'no'. -/
structure FirstAt (Pr : Nat → Bool) (n i : Nat) : Prop where
  le : i ≤ n
  no : ∀ j, j < i → Pr j = false

def IndexPost (Pr : Nat → Bool) (n : Nat) (I : Nat → World → Prop) (e : Ending) (w' : World) : Prop :=
  (e = .returned (.int .i64 (-1)) ∧ FirstAt Pr n n ∧ I n w') ∨ ∃ i : Nat, i < n ∧ e = .returned (.int .i64 i) ∧ FirstAt Pr n i ∧ Pr i = true ∧ I (i + 1) w'

set_option maxHeartbeats 1000000 in
set_option maxRecDepth 100000 in
theorem index_any (l : List Rt) (v : Value) (g : Nat) (cb : Array Value) (Pr : Nat → Bool) (I : Nat → World → Prop) (w : World)
    (hR : ∀ i W, I i W → Rd W v l) (eg : ∀ args w, (callFunc g args).run Try.prog w = .ok (.enter g args) w)
    (hC : ∀ i r W, l[i]? = some r → I i W → Calls Try.prog g (#[.agg (rc r)] ++ cb) W fun e w' => e = .returned (.bool (Pr i)) ∧ I (i + 1) w') (h0 : I 0 w) :
    Calls Try.prog 54 #[v, .func (.func g) #[] cb] w (IndexPost Pr l.length I) := by
  have HR := Lib.hid hR
  have HC := Lib.hid hC
  have H0 := Lib.hid h0
  rcases hR 0 w h0 with ⟨rfl, rfl⟩ | ⟨a, cap, rfl, hlc, hcm, -⟩
  · clear hR hC h0
    go_enter Try.func54, Try.ntmps54
    go_wp2
    go_loopw [5, 8] (fun _ t wr => t = .int .i64 0 ∧ Hid (I 0 wr)) (fun _ _ _ => 0)
    case atStart => exact ⟨rfl, H0⟩
    case round =>
      obtain ⟨rfl, HI⟩ := hrel
      go_wp2
      go_ret
      exact .inl ⟨rfl, ⟨Nat.le_refl _, fun j hj => absurd hj (Nat.not_lt_zero _)⟩, HI.out⟩
  · obtain ⟨n, hn⟩ : ∃ n, n = l.length := ⟨_, rfl⟩
    unfold maxLen at hcm
    have hn63 : (n : Int) ≤ 9223372036854775807 := by omega
    rw [← hn] at HR ⊢
    have HN := Lib.hid hn
    clear hR hC h0 hn hlc hcm
    go_enter Try.func54, Try.ntmps54
    go_wp2
    go_loopw [5, 8] (fun _ t wr => ∃ i : Nat, i ≤ n ∧ t = .int .i64 i ∧ Hid (FirstAt Pr n i) ∧ Hid (I i wr)) (fun _ t _ => n - (intOf t).toNat)
    case atStart => exact ⟨0, Nat.zero_le _, rfl, ⟨Nat.zero_le _, fun j hj => absurd hj (Nat.not_lt_zero _)⟩, H0⟩
    case round =>
      obtain ⟨i, hi, rfl, HF, HI⟩ := hrel
      by_cases hlt : i < n
      · have hltI : (i : Int) < n := by omega
        obtain ⟨r, hr⟩ : ∃ r, l[i]? = some r := ⟨l[i]'(by rw [← HN.out]; exact hlt), List.getElem?_eq_getElem _⟩
        have hld : (routeLoad (a.add (i * 19))).run Try.prog wr = .ok (.agg (rc r)) wr := by
          rcases HR.out i wr HI.out with ⟨h, _⟩ | ⟨a', cap', h, _, _, h4⟩
          · cases h
          · cases h; exact run_routeLoad (h4.route hr)
        have hc := HC.out i r wr hr HI.out
        clear hr
        cases hp : Pr i with
        | true =>
          rw [hp] at hc
          have HP := Lib.hid hp
          clear hp
          go_wp2_with (go_at_fn g; refine hc.mono ?_; rintro e w' ⟨rfl, hi'⟩)
          go_ret
          exact .inr ⟨i, hlt, rfl, HF.out, HP.out, hi'⟩
        | false =>
          rw [hp] at hc
          have HP := Lib.hid hp
          clear hp
          go_wp2_with (go_at_fn g; refine hc.mono ?_; rintro e w' ⟨rfl, hi'⟩)
          go_roundw
          case rel => exact ⟨i + 1, by omega, by go_num, ⟨by omega, fun j hj => by
            by_cases e : j = i
            · rw [e]; exact HP.out
            · exact HF.out.no j (by omega)⟩, hi'⟩
          case measure => simp [intOf]; omega
      · obtain rfl : i = n := by omega
        go_wp2
        go_ret
        exact .inl ⟨rfl, HF.out, HI.out⟩
end Go.Proofs.Ytcpdpcfejpbdpaa
