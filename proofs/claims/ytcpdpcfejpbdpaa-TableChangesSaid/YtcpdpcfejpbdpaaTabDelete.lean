/- slices.Delete of one route of a row of the call's own. -/
import Derived.Test.YtcpdpcfejpbdpaaTabMem
import Derived.Shelf.RegionOpenPlain
namespace Go.Proofs.Ytcpdpcfejpbdpaa
open Go.RowKit Go.Sort Go.Shelf
attribute [local go_sem ↓] loadVar_key loadVar_pre loadVar_route storeVar_pre storeVar_route buildSlice_row

/-- What a call hands back that makes another list of one of the caller's own. -/
def MutPost (w : World) (base : Nat) (v : Value) (l : List Rt) (e : Ending) (w' : World) : Prop := ∃ v', e = .returned v' ∧ Own w' base v' l ∧ w.grownBy w' v.ownBlock

theorem fl_erase (l : List Rt) (i : Nat) : fl (l.take i) ++ fl (l.drop (i + 1)) = fl (l.eraseIdx i) := by
  rw [← fl_append, List.eraseIdx_eq_take_drop_succ]

set_option maxHeartbeats 4000000 in
set_option maxRecDepth 100000 in
theorem delete_any (l : List Rt) (v : Value) (base i : Nat) (w : World) (ho : Own w base v l) (hi : i < l.length) (h16 : l.length ≤ 65536) :
    Calls Try.prog 51 #[v, .int .i64 i, .int .i64 ((i + 1 : Nat) : Int)] w (MutPost w base v (l.eraseIdx i)) := by
  rcases ho.at' with ⟨_, rfl⟩ | ⟨g, cap, rest, rfl, hb, hr, hs, hle, hmx⟩
  · exact absurd hi (Nat.not_lt_zero _)
  · obtain ⟨n, hn⟩ : ∃ n, n = l.length := ⟨_, rfl⟩
    rw [← hn] at hi h16 hle hs ⊢
    have hdrop : (fl (l.drop (i + 1))).length = (n - (i + 1)) * 19 := by rw [fl_length, List.length_drop, hn]
    obtain ⟨news, hnews⟩ : ∃ news, news = fl (l.drop (i + 1)) := ⟨_, rfl⟩
    rw [← hnews] at hdrop
    obtain ⟨A, hA, hsrc⟩ : ∃ A : Addr, (if cap = i + 1 then some (⟨g, 0, none⟩ : Addr) else some ⟨g, (i + 1) * 19, none⟩) = some A ∧ Hid (∀ t u, news[t]? = some u → w.drew.cell? (A.add t) = some u) := by
      by_cases h : cap = i + 1
      · refine ⟨⟨g, 0, none⟩, by simp [h], fun t u hu => ?_⟩
        have h0 : news.length = 0 := by rw [hdrop]; omega
        rw [List.length_eq_zero_iff.1 h0] at hu
        simp at hu
      · refine ⟨⟨g, (i + 1) * 19, none⟩, by simp [h], fun t u hu => ?_⟩
        rw [add_here]
        have := hr.cells ((i + 1) * 19 + t) u (by
          rw [hnews, ← fl_drop, List.getElem?_drop] at hu
          rw [List.getElem?_append_left (List.getElem?_eq_some_iff.1 hu).1]; exact hu)
        rw [add_here, Nat.zero_add] at this
        exact this
    have s1 : Hid (news.length = (n - (i + 1)) * 19) := hdrop
    have s2 : Hid (∀ u ∈ news, u.oneCell' = true) := by rw [hnews]; exact fl_ones _
    have hlen : (fl l ++ rest).length = cap * 19 := by rw [List.length_append, fl_length, hs, ← hn]; omega
    have s3 : Hid (∀ t, t < news.length → (w.drew.cell? ⟨g, 0 + i * 19 + t, none⟩).isSome = true ∧ w.drew.frozen? ⟨g, 0 + i * 19 + t, none⟩ = false) := by
      intro t ht
      rw [hdrop] at ht
      refine ⟨?_, frozen_of hr _⟩
      show (w.cell? _).isSome = true
      rw [cell_of hr, List.getElem?_toArray, List.getElem?_eq_getElem (by rw [hlen]; omega)]; rfl
    have hW1 := setCells_row hr.drew (0 + i * 19) news (by rw [hlen, hdrop]; omega) s2.out
    have hcut : (fl l ++ rest).take (0 + i * 19) ++ news ++ (fl l ++ rest).drop (0 + i * 19 + news.length) = fl (l.eraseIdx i) ++ ((fl l).drop ((n - 1) * 19) ++ rest) := by
      rw [hdrop, Nat.zero_add, List.take_append_of_le_length (by rw [fl_length]; omega), show i * 19 + (n - (i + 1)) * 19 = (n - 1) * 19 by omega, List.drop_append_of_le_length (by rw [fl_length]; omega), fl_take, hnews, fl_erase]
    rw [hcut] at hW1
    have hel : (l.eraseIdx i).length = n - 1 := by rw [List.length_eraseIdx_of_lt (by omega), hn]
    obtain ⟨l2, hl2⟩ : ∃ l2, l2 = l.eraseIdx i := ⟨_, rfl⟩
    obtain ⟨r2, hr2⟩ : ∃ r2, r2 = (fl l).drop ((n - 1) * 19) ++ rest := ⟨_, rfl⟩
    have hr2l : r2.length = (cap - (n - 1)) * 19 := by
      rw [hr2, List.length_append, List.length_drop, fl_length, hs, ← hn]; omega
    rw [← hl2] at hel hW1 ⊢
    rw [← hr2] at hW1
    obtain ⟨W1, hW⟩ : ∃ W1, W1 = w.drew.setCells g (0 + i * 19) news := ⟨_, rfl⟩
    rw [← hW] at hW1
    have R1 : Row W1 g (fl l2 ++ r2) := by rw [hW1]; exact hr.drew.set _
    have G1 : w.grownBy W1 (some g) := by rw [hW1]; exact grown_trans (grown_drew (grown_refl w _)) (grown_setRow _ _ _)
    obtain ⟨m, hm⟩ : ∃ m, m = i + (n - (i + 1)) := ⟨_, rfl⟩
    have hm1 : n - 1 = m := by omega
    rw [hm1] at hel hr2l
    obtain ⟨zs, hz1, hz2, hcl⟩ := run_clearR R1 (m * 19) (n - m) (cap - m) (by rw [List.length_append, fl_length, hel, hr2l]; omega)
    have hfin : OwnAt (W1.setRow g ((fl l2 ++ r2).take (m * 19) ++ zs ++ (fl l2 ++ r2).drop (m * 19 + (n - m) * 19)).toArray) base g cap l2 (zs ++ r2.drop 19) := by
      have e : (fl l2 ++ r2).take (m * 19) ++ zs ++ (fl l2 ++ r2).drop (m * 19 + (n - m) * 19) = fl l2 ++ (zs ++ r2.drop 19) := by
        rw [List.take_append_of_le_length (by rw [fl_length, hel]; exact Nat.le_refl _), List.take_of_length_le (by rw [fl_length, hel]; exact Nat.le_refl _), List.append_assoc]
        congr 2
        rw [List.drop_append, List.drop_of_length_le (by rw [fl_length, hel]; omega), fl_length, hel, List.nil_append]
        congr 1; omega
      rw [e]
      exact ⟨hb, R1.set _, by rw [List.length_append, hz1, List.length_drop, hr2l, hel]; omega, by rw [hel]; omega, hmx⟩
    have hfin2 := hfin.own
    rw [hel] at hfin2
    have G2 : w.grownBy (W1.setRow g ((fl l2 ++ r2).take (m * 19) ++ zs ++ (fl l2 ++ r2).drop (m * 19 + (n - m) * 19)).toArray) (some g) := grown_trans G1 (grown_setRow _ _ _)
    obtain ⟨W2, hW2⟩ : ∃ W2, W2 = W1.setRow g ((fl l2 ++ r2).take (m * 19) ++ zs ++ (fl l2 ++ r2).drop (m * 19 + (n - m) * 19)).toArray := ⟨_, rfl⟩
    rw [← hW2] at hcl hfin2 G2
    have hmn : m ≤ n := by omega
    have hmc : ¬ cap = m := by omega
    rw [hm] at hcl hfin2 hmn hmc
    have HF := Lib.hid hfin2
    have HG := Lib.hid G2
    have HW := Lib.hid hW
    have hiI : (i : Int) < n := by omega
    have hnI : (n : Int) ≤ 65536 := by omega
    have hleI : (n : Int) ≤ cap := by omega
    have hic : i ≤ cap := by omega
    have hjc : i + 1 ≤ cap := by omega
    have hij : ((i : Int) == ((i + 1 : Nat) : Int)) = false := by rw [beq_eq_false_iff_ne]; omega
    obtain ⟨i0, e0, e1, e2, e3⟩ := infoR'
    have E0 := Lib.hid e0
    have E2 := Lib.hid e2
    have hp0 : (0 : Int) ≤ (i : Int) + 1 := by omega
    have hp1 : (i : Int) + 1 ≤ n := by omega
    have mixed : Try.prog.follows .mixedOrders = true := by kernel_rfl
    unfold maxLen at hmx
    clear hfin hfin2 G1 G2 hW hW1 hW2 R1 hcut hlen hr hr2 hr2l hl2 hel hnews hdrop hz1 hz2 hm hm1 e0 e1 e2 e3 hn ho hs
    unfold MutPost
    go_enter Try.func51, Try.ntmps51
    go_wp2_with fail
    go_region_law_o (refine step_append_room rfl (.tmp 22) (.tmp 25) 22 rfl 34 i0 19 Try.underlying22 E0.out E2.out g 0 i cap (by simp [Act.eval, Act.put]) A (n - (i + 1)) (cap - (i + 1)) news (by simp [Act.eval, Act.put]) s1.out hsrc.out s2.out (by omega) s3.out ?_; rw [← HW.out])
    go_wp2
    go_ret
    exact ⟨_, rfl, HF.out, HG.out⟩
end Go.Proofs.Ytcpdpcfejpbdpaa
