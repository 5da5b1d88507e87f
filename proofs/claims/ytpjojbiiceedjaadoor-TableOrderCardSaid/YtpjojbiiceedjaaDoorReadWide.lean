/- route.readWide: digits of sixteen, two for each byte. -/
import Derived.Test.YtpjojbiiceedjaaDoorEnv
import Derived.Test.YtpjojbiiceedjaaDoorTextRead
import Derived.Test.YtpjojbiiceedjaaDoorKeyPreEq
import Derived.Test.YtpjojbiiceedjaaDoorRes
import Derived.Test.YtpjojbiiceedjaaDoorReadShort
namespace Go.Proofs.YtpjojbiiceedjaaDoor.Rr
open Go.RowKit Go.Sort
attribute [local go_sem ↓] loadVar_key loadVar_pre storeVar_key storeVar_pre

/-- What is known at the head of a round. -/
structure WideRd (w wr : World) (s : List UInt8) (i : Nat) : Prop where
  below : Below w.heap.size w wr
  size : w.heap.size + 2 ≤ wr.heap.size
  out : wr.heap[w.heap.size]? = some (.cells (kc zkey) 27 (0, 0))
  key : wr.heap[w.heap.size + 1]? = some (.cells (kc (widePart s i)) 27 (0, 0))

theorem widePart_old (s : List UInt8) (i : Nat) : widePart s i (i / 2) < 16 := by
  have h1 := hexN_lt (s.getD (2 * (i / 2)) 0)
  unfold widePart wideHalf
  rw [if_neg (by omega)]
  split <;> omega

theorem widePart_next (s : List UInt8) (i j : Nat) : (if j = i / 2 then 16 * widePart s i (i / 2) + wideHalf s i else widePart s i j) = widePart s (i + 1) j := by
  by_cases e : j = i / 2
  · rw [if_pos e]
    subst e
    unfold widePart
    rcases Nat.mod_two_eq_zero_or_one i with h | h
    · have e2 : 2 * (i / 2) = i := by omega
      rw [e2, if_neg (by omega), if_neg (by omega), if_neg (by omega), if_pos (by omega)]; omega
    · have e2 : 2 * (i / 2) + 1 = i := by omega
      rw [e2, if_neg (by omega), if_pos (by omega), if_pos (by omega)]
  · rw [if_neg e]
    unfold widePart
    by_cases h : 2 * j + 1 < i
    · rw [if_pos h, if_pos (by omega)]
    · rw [if_neg h, if_neg (show ¬ 2 * j < i by omega), if_neg (show ¬ 2 * j + 1 < i + 1 by omega), if_neg (show ¬ 2 * j < i + 1 by omega)]

theorem half_or : ∀ (o y : Fin 16), bits BinOp.or IntKind.u8 ((o.val : Int) * 16) (y.val : Int) = ((16 * o.val + y.val : Nat) : Int) := by decide +kernel

theorem WideRd.set {w wr : World} {s : List UInt8} {i v : Nat} (h : WideRd w wr s i) (hv : v = 16 * widePart s i (i / 2) + wideHalf s i) : WideRd w (wr.setCell ⟨w.heap.size + 1, i / 2, none⟩ (.int .u8 (v : Nat))) s (i + 1) := by
  refine ⟨h.below.setCell (by simp) _, by simpa using h.size, by rw [heap_setCell_other _ _ _ _ (by simp)]; exact h.out, ?_⟩
  rw [heap_setCell_same wr _ _ _ _ _ h.key, kc_set, kc_ext (b := widePart s (i + 1)) fun j _ => by rw [hv]; exact widePart_next s i j]

set_option maxHeartbeats 4000000 in
set_option maxRecDepth 100000 in
theorem wide_any (s : List UInt8) (w : World) (hs : s.length < 1000000) :
    Calls Tryd.prog 60 #[.string (bs s)] w fun e w' => e = .returned (keyV (readWide s)) ∧ Below w.heap.size w w' := by
  have hb0 : Below w.heap.size w (w.alloc (.cells (kc zkey) 27)) := (Below.refl _ _).alloc (Nat.le_refl _) _
  have hz := zkey_lit
  have hsz := bs_size s
  have hsI : (s.length : Int) < 1000000 := by omega
  by_cases h32 : s.length = 32
  · have h32' : ((s.length : Int) != 32) = false := by rw [bne_eq_false_iff_eq]; omega
    have H4 := Lib.hid h32
    have inv : WideRd w ((w.alloc (.cells (kc zkey) 27)).alloc (.cells (kc zkey) 27)) s 0 := by
      refine ⟨hb0.alloc (by simp) _, by simp, by rw [heap_alloc2_old], ?_⟩
      rw [heap_alloc2_new, kc_ext (a := widePart s 0) (b := zkey) fun j _ => by unfold widePart; rw [if_neg (by omega), if_neg (by omega)]; rfl]
    clear h32 hb0
    go_enter Tryd.func60, Tryd.ntmps60
    go_wp2
    generalize (w.alloc (.cells (kc zkey) 27)).alloc (.cells (kc zkey) 27) = W at *
    have h4I : (s.length : Int) = 32 := by rw [H4.out]; rfl
    simp only [h4I]
    clear h32' h4I hz hsI
    go_loopw [13] (fun t wr => ∃ i : Nat, i ≤ 32 ∧ t = .int .i64 i ∧ WideRd w wr s i ∧ upTo i (wideIs s) = true) (fun t _ => 32 - (intOf t).toNat)
    case atStart => exact ⟨0, Nat.zero_le _, rfl, inv, rfl⟩
    case round =>
      clear inv
      obtain ⟨i, hi, rfl, inv, hall⟩ := hrel
      by_cases hlt : i < 32
      · have hlt' : (i : Int) < 32 := by omega
        have hltp : i < s.length := by rw [H4.out]; exact hlt
        obtain ⟨c, hci⟩ : ∃ c, s[i]? = some c := ⟨s[i], List.getElem?_eq_getElem hltp⟩
        have hget : s.getD i 0 = c := by rw [List.getD_eq_getElem?_getD, hci]; rfl
        have hg : ∀ h, (bs s)[i]'h = c := fun h => by
          rw [List.getElem?_eq_getElem hltp] at hci
          show s.toArray[i]'(by simpa using hltp) = c
          simpa using hci
        have hzs : i < (bs s).size := by rw [bs_size]; exact hltp
        have C := index_any sixteen c wr
        obtain ⟨x, hx⟩ : ∃ x, x = hexV c := ⟨_, rfl⟩
        have hxr := hexV_is c
        rw [show Lib.indexByte sixteen c = x from hx.symm] at C
        rw [← hx] at hxr
        have HC := Lib.hid C
        by_cases hneg : x < 0
        · have HR : Hid (readWide s = none) := by
            show _ = _
            unfold readWide
            rw [if_neg (fun h => ?_)]
            have := upTo_iff.1 h.2 i hlt
            unfold wideIs at this
            rw [hget, ← hx] at this
            simp at this
            omega
          have S := run_keyStore (k := zkey) inv.out (kc_size _)
          have m3 := setRow_heap _ _ (kc zkey) (kc zkey) _ _ inv.out
          have hb3 := below_setRow inv.below (Nat.le_refl w.heap.size) (kc zkey)
          have L := run_keyLoad (b := w.heap.size) (off := 0) (k := zkey) (w := wr.setRow w.heap.size (kc zkey)) (fun j v hj => by rw [cell_of_row _ _ _ _ _ _ m3]; simpa using hj)
          have hz := zkey_lit
          clear C hget hall inv hx hxr hci m3
          go_wp2_with fail
          refine HC.out.mono ?_
          rintro e w2 ⟨rfl, rfl⟩
          go_wp2
          exact bodyPost_ret (v := .tuple #[.agg (kc zkey), .bool false]) (results_row_tmp rfl _ _ _ _ rfl rfl L) rfl ⟨by rw [HR.out]; rfl, hb3⟩
        · have his : upTo (i + 1) (wideIs s) = true := upTo_iff.2 fun j hj => by
            by_cases e : j = i
            · subst e
              unfold wideIs
              rw [hget, ← hx]
              simp
              omega
            · exact upTo_iff.1 hall j (by omega)
          have HI := Lib.hid inv
          obtain ⟨y, hy⟩ : ∃ y : Nat, x = y := ⟨x.toNat, by omega⟩
          subst hy
          have hy16 : (y : Int) < 16 := hxr.2.1
          have hyw : y = wideHalf s i := by
            unfold wideHalf hexN
            rw [hget, ← hx, Int.toNat_natCast]
          obtain ⟨o, ho⟩ : ∃ o, o = widePart s i (i / 2) := ⟨_, rfl⟩
          have ho16 : o < 16 := by rw [ho]; exact widePart_old s i
          have hoI : (o : Int) < 16 := by omega
          have c1 : wr.cell? ⟨w.heap.size + 1, i / 2, none⟩ = some (.int .u8 (o : Nat)) := by rw [cell_of_row wr _ _ _ _ _ inv.key, kc_at _ _ (by omega), ho]
          have f1 : wr.frozen? ⟨w.heap.size + 1, i / 2, none⟩ = false := frozen_of_row wr _ _ _ _ inv.key
          have eor : bits BinOp.or IntKind.u8 ((o : Int) * 16) (y : Int) = ((16 * o + y : Nat) : Int) := half_or ⟨o, ho16⟩ ⟨y, by omega⟩
          have inv2 : WideRd w (wr.setCell ⟨w.heap.size + 1, i / 2, none⟩ (.int .u8 (16 * o + y : Nat))) s (i + 1) := inv.set (by rw [ho, hyw])
          rw [← eor] at inv2
          have HI2 := Lib.hid inv2
          clear C hget hall inv hx hxr hci ho hyw inv2 eor
          go_wp2_with fail
          refine HC.out.mono ?_
          rintro e w2 ⟨rfl, rfl⟩
          go_wp2
          go_roundw
          case rel => exact ⟨i + 1, by omega, by go_num, HI2.out, his⟩
          case measure => simp [intOf]; omega
      · obtain rfl : i = 32 := by omega
        have HR : Hid (readWide s = some (wideKey s)) := by show _ = _; unfold readWide; rw [if_pos ⟨H4.out, hall⟩]
        have HK : Hid (kc (wideKey s) = kc (widePart s 32)) := by show _ = _; exact kc_ext fun j hj => by unfold wideKey; rw [if_pos hj]
        have L0 := run_keyLoad (b := w.heap.size + 1) (off := 0) (k := widePart s 32) (w := wr) (fun j v hj => by rw [cell_of_row _ _ _ _ _ _ inv.key]; simpa using hj)
        have S := run_keyStore (k := widePart s 32) inv.out (kc_size _)
        have m3 := setRow_heap _ _ (kc zkey) (kc (widePart s 32)) _ _ inv.out
        have hb3 := below_setRow inv.below (Nat.le_refl w.heap.size) (kc (widePart s 32))
        have L := run_keyLoad (b := w.heap.size) (off := 0) (k := widePart s 32) (w := wr.setRow w.heap.size (kc (widePart s 32))) (fun j v hj => by rw [cell_of_row _ _ _ _ _ _ m3]; simpa using hj)
        clear inv m3 hall
        go_wp2
        exact bodyPost_ret (v := .tuple #[.agg (kc (widePart s 32)), .bool true]) (results_row_tmp rfl _ _ _ _ rfl rfl L) rfl ⟨by rw [HR.out, ← HK.out]; rfl, hb3⟩
  · have h32' : ((s.length : Int) != 32) = true := by rw [bne_iff_ne]; omega
    have out : (w.alloc (.cells (kc zkey) 27)).heap[w.heap.size]? = some (.cells (kc zkey) 27 (0, 0)) := heap_alloc_new _ _
    have S := run_keyStore (k := zkey) out (kc_size _)
    have m3 := setRow_heap _ _ (kc zkey) (kc zkey) _ _ out
    have hb3 := below_setRow hb0 (Nat.le_refl w.heap.size) (kc zkey)
    have L := run_keyLoad (b := w.heap.size) (off := 0) (k := zkey) (w := (w.alloc (.cells (kc zkey) 27)).setRow w.heap.size (kc zkey)) (fun j v hj => by rw [cell_of_row _ _ _ _ _ _ m3]; simpa using hj)
    have HR : Hid (readWide s = none) := by show _ = _; unfold readWide; rw [if_neg (fun h => h32 h.1)]
    clear h32 out hb0 m3
    go_enter Tryd.func60, Tryd.ntmps60
    go_wp2
    exact bodyPost_ret (v := .tuple #[.agg (kc zkey), .bool false]) (results_row_tmp rfl _ _ _ _ rfl rfl L) rfl ⟨by rw [HR.out]; rfl, hb3⟩

end Go.Proofs.YtpjojbiiceedjaaDoor.Rr
