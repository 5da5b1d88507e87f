/- bywayref03.Sort: each route that may be, put where it belongs. -/
import Derived.Test.YtjppingppdmeoaaRefPut
namespace Go.Proofs.Ytjppingppdmeoaa
open Go.RowKit Go.Sort Go.Shelf
attribute [local go_sem ↓] loadVar_key loadVar_pre loadVar_route storeVar_pre storeVar_route

set_option maxHeartbeats 1500000 in
set_option maxRecDepth 100000 in
theorem rsort_any (l : List Rt) (hl : l.length ≤ 60000) (v : Value) (w : World) (hR : Rd w v l) :
    Calls Try.prog 18 #[v] w (ListPost w (sortGo [] l)) := by
  have HR := Lib.hid hR
  obtain ⟨a, cap, hv, -⟩ := rd_len hR
  obtain ⟨n, hn⟩ : ∃ n, n = l.length := ⟨_, rfl⟩
  rw [← hn] at hv hl
  have hlI : (n : Int) ≤ 60000 := by omega
  have HN := Lib.hid hn
  have HL : Hid (n ≤ 60000) := hl
  subst hv
  clear hR hn hl
  unfold ListPost
  go_enter Try.func18, Try.ntmps18
  go_wp2
  go_loopw [3, 4] (fun s t wr => ∃ i : Nat, i ≤ n ∧ t = .int .i64 i ∧ Hid (Own wr w.heap.size s (sortGo [] (l.take i))) ∧ Hid (Below w.heap.size w wr)) (fun _ t _ => n - (intOf t).toNat)
  case atStart => exact ⟨0, Nat.zero_le _, rfl, own_nil _ _, Below.refl _ _⟩
  case round =>
    obtain ⟨i, hi, rfl, HO, HW⟩ := hrel
    by_cases hlt : i < n
    · have hltI : (i : Int) < n := by omega
      have hi0 : (0 : Int) ≤ i := by omega
      obtain ⟨r, hrr⟩ : ∃ r, l[i]? = some r := ⟨l[i]'(by rw [← HN.out]; exact hlt), List.getElem?_eq_getElem _⟩
      obtain ⟨a', rfl, hca⟩ : ∃ a', a = some a' ∧ CellsAt wr a' (fl l) := by
        rcases HR.out.later HW.out with ⟨h, hnil⟩ | ⟨a', cap', h, _, _, hc⟩
        · exfalso; rw [hnil] at hrr; cases hrr
        · simp only [Value.slice.injEq] at h
          exact ⟨a', h.1, hc⟩
      have hc := hca.route hrr
      have htake : l.take (i + 1) = l.take i ++ [r] := by rw [List.take_add_one, hrr]; rfl
      have hlen : (sortGo [] (l.take i)).length ≤ i := by
        have := sortGo_length (l.take i) []
        rw [List.length_take, List.length_nil] at this; omega
      have hgood := (sortGo_find (l.take i) [] Good.nil).1
      have hsp := sortGo_snoc [] (l.take i) r
      rw [← htake] at hsp
      obtain ⟨o, ho⟩ : ∃ o, sortGo [] (l.take i) = o := ⟨_, rfl⟩
      rw [ho] at HO hlen hgood hsp
      have HSP := Lib.hid hsp
      have HLE : Hid (o.length ≤ 60000) := by have := HL.out; show _ ≤ _; omega
      have HG := Lib.hid hgood
      have lp := run_preLoadA hc.pre
      have HC := Lib.hid hc
      have C1 := rmay_any r.pre r.hk wr
      clear hca hc htake ho hrr hlen hgood hsp
      cases hm : mayB r.pre with
      | false =>
        rw [hm] at C1 HSP
        have HC1 := Lib.hid C1
        clear hm C1
        go_wp2_with fail
        refine HC1.out.mono ?_
        rintro e w1 ⟨rfl, h1⟩
        have HB := Lib.hid (HW.out.trans (h1.mono HW.out.size))
        have HO2 := Lib.hid (HO.out.later h1)
        clear h1 lp
        go_wp2
        go_roundw
        case rel => exact ⟨i + 1, by omega, by go_num, by have h := HSP.out; rw [if_neg Bool.false_ne_true] at h; rw [h]; exact HO2.out, HB.out⟩
        case measure => simp [intOf]; omega
      | true =>
        rw [hm] at C1 HSP
        have HC1 := Lib.hid C1
        clear hm C1
        go_wp2_with fail
        refine HC1.out.mono ?_
        rintro e w1 ⟨rfl, h1⟩
        have HB := Lib.hid (HW.out.trans (h1.mono HW.out.size))
        have hop := (HO.out.later h1).rd
        have lr := run_routeLoad (HC.out.later h1)
        have HC2 := Lib.hid (rput_any o r HLE.out _ w1 hop)
        clear h1 lp hop
        go_wp2_with fail
        refine HC2.out.mono ?_
        rintro e w2 ⟨v2, rfl, ho2, h2⟩
        have HB2 := Lib.hid (HB.out.trans (h2.mono HB.out.size))
        have HO2 : Hid (Own w2 w.heap.size v2 (putL o r)) := by rw [putGo_is HG.out] at ho2; exact ho2.base HB.out.size
        clear ho2 h2 lr
        go_wp2
        go_roundw
        case rel => exact ⟨i + 1, by omega, by go_num, by have h := HSP.out; simp only [if_true] at h; rw [h]; exact HO2.out, HB2.out⟩
        case measure => simp [intOf]; omega
    · obtain rfl : i = n := by omega
      go_wp2
      go_ret
      have hO := HO.out
      rw [List.take_of_length_le (by rw [← HN.out]; exact Nat.le_refl _)] at hO
      exact ⟨_, rfl, hO, HW.out⟩
end Go.Proofs.Ytjppingppdmeoaa
