/- table.Get: what it hands back. -/
import Derived.Test.YtcpdpcfejpbdpaaTabPlace
import Derived.Test.YtcpdpcfejpbdpaaTabPure
namespace Go.Proofs.Ytcpdpcfejpbdpaa
open Go.RowKit Go.Sort Go.Shelf
attribute [local go_sem ↓] loadVar_key loadVar_pre loadVar_route storeVar_pre binOp_preEql

theorem place_good {l : List Rt} (h : Good l) (p : Pre) : PlaceAt l p (idxL l p) := ⟨idx_le l p, idx_mono h p⟩

/-- What a prefix leads to, and the error's number. -/
def getL (l : List Rt) (p : Pre) : Nat × Int :=
  if rightB l = true then (if mayB p = true then (if thereB l p (idxL l p) = true then ((l[idxL l p]?.getD zrt).hop, 0) else (0, 6)) else (0, 1)) else (0, 1)

def GetPost (w : World) (x : Nat × Int) (e : Ending) (w' : World) : Prop := e = .returned (.tuple #[.int .u16 (x.1 : Nat), .int .i64 x.2]) ∧ Below w.heap.size w w'

set_option maxHeartbeats 1000000 in
set_option maxRecDepth 100000 in
theorem get_any (l : List Rt) (p : Pre) (hp : Bytes16 p.key) (v : Value) (w : World) (hR : Rd w v l) :
    Calls Try.prog 9 #[v, .agg (pc p)] w (GetPost w (getL l p)) := by
  have hb0 : Below w.heap.size w (w.alloc (.cells (pc p) 26)) := (Below.refl _ _).alloc (Nat.le_refl _) _
  have rp := rowAt_new w (pc p) 26
  have hz0 : (w.alloc (.cells (pc p) 26)).heap.size = w.heap.size + 1 := by simp
  have C1 := right_any l v (w.alloc (.cells (pc p) 26)) (hR.later hb0)
  have T : ∀ w1, Below (w.alloc (.cells (pc p) 26)).heap.size (w.alloc (.cells (pc p) 26)) w1 → (preLoad ⟨w.heap.size, 0, none⟩).run Try.prog w1 = .ok (.agg (pc p)) w1 ∧ Rd w1 v l ∧ Below w.heap.size w w1 := fun w1 h =>
    ⟨run_preLoad (rp.below h (by rw [hz0]; omega)), hR.later (hb0.trans (h.mono (by rw [hz0]; omega))), hb0.trans (h.mono (by rw [hz0]; omega))⟩
  have HT := Lib.hid T
  have HF : Hid (getL l p = getL l p) := rfl
  unfold getL at HF ⊢
  clear T rp hb0 hz0
  obtain ⟨a, cap, hv, hmx⟩ := rd_len hR
  have HV := Lib.hid hv
  clear hmx hR hv
  cases hr : rightB l with
  | false =>
    rw [hr] at C1
    have HC := Lib.hid C1
    clear C1 hr HF
    unfold GetPost
    go_enter Try.func9, Try.ntmps9
    go_wp2_with fail
    refine HC.out.mono ?_
    rintro e w1 ⟨rfl, h1⟩
    obtain ⟨lp, -, hb⟩ := HT.out w1 h1
    go_wp2
    go_ret2
    exact ⟨rfl, hb⟩
  | true =>
    rw [hr] at C1
    have HC := Lib.hid C1
    have C2 := fun w => may_any p hp w
    have HR := Lib.hid hr
    clear C1 hr
    cases hm : mayB p with
    | false =>
      simp only [hm] at C2
      have HD := Lib.hid C2
      clear C2 hm HF
      unfold GetPost
      go_enter Try.func9, Try.ntmps9
      go_wp2_with fail
      refine HC.out.mono ?_
      rintro e w1 ⟨rfl, h1⟩
      obtain ⟨lp, -, hb⟩ := HT.out w1 h1
      go_wp2_with fail
      refine (HD.out _).mono ?_
      rintro e w2 ⟨rfl, h2⟩
      have hb2 := hb.trans (h2.mono hb.size)
      go_wp2
      go_ret2
      exact ⟨rfl, hb2⟩
    | true =>
      simp only [hm] at C2
      have HD := Lib.hid C2
      clear C2 hm HF
      have hg := (right_iff l).1 HR.out
      have hle := hg.1
      have C3 := fun w hR => place_any l p hp (idxL l p) (place_good hg.2 p) (by omega) v w hR
      have hat := idx_le l p
      obtain ⟨x, hx⟩ : ∃ x, x = idxL l p := ⟨_, rfl⟩
      rw [← hx] at C3 hat ⊢
      obtain ⟨n, hn⟩ : ∃ n, n = l.length := ⟨_, rfl⟩
      rw [← hn] at hle hat HV
      have HN := Lib.hid hn
      have HX := Lib.hid hx
      clear hn hx hg
      cases ht : thereB l p x with
      | false =>
        rw [ht] at C3
        have HE := Lib.hid C3
        clear C3 ht
        unfold GetPost
        go_enter Try.func9, Try.ntmps9
        go_wp2_with fail
        refine HC.out.mono ?_
        rintro e w1 ⟨rfl, h1⟩
        obtain ⟨lp, -, hb⟩ := HT.out w1 h1
        go_wp2_with fail
        refine (HD.out _).mono ?_
        rintro e w2 ⟨rfl, h2⟩
        obtain ⟨lp, hr2, hb2⟩ := HT.out w2 (h1.trans (h2.mono h1.size))
        go_wp2_with fail
        refine (HE.out _ hr2).mono ?_
        rintro e w3 ⟨rfl, h3⟩
        have hb3 := hb2.trans (h3.mono hb2.size)
        go_wp2
        go_ret2
        exact ⟨rfl, hb3⟩
      | true =>
        rw [ht] at C3
        have HE := Lib.hid C3
        obtain ⟨r, hrr⟩ : ∃ r, l[x]? = some r := by
          unfold thereB at ht
          cases h : l[x]? with
          | none => rw [h] at ht; cases ht
          | some r => exact ⟨r, rfl⟩
        have hlt : x < n := by rw [HN.out]; exact (List.getElem?_eq_some_iff.1 hrr).1
        have hltI : (x : Int) < n := by omega
        have HRR := Lib.hid hrr
        have hout : ((l[x]?.getD zrt).hop, (0 : Int)) = (r.hop, 0) := by rw [hrr]; rfl
        rw [if_pos rfl, if_pos rfl, if_pos rfl, hout]
        clear C3 ht hrr hout hat
        obtain rfl := HV.out
        clear HV
        unfold GetPost
        go_enter Try.func9, Try.ntmps9
        go_wp2_with fail
        refine HC.out.mono ?_
        rintro e w1 ⟨rfl, h1⟩
        obtain ⟨lp, -, hb⟩ := HT.out w1 h1
        go_wp2_with fail
        refine (HD.out _).mono ?_
        rintro e w2 ⟨rfl, h2⟩
        obtain ⟨lp, hr2, hb2⟩ := HT.out w2 (h1.trans (h2.mono h1.size))
        go_wp2_with fail
        refine (HE.out _ hr2).mono ?_
        rintro e w3 ⟨rfl, h3⟩
        have hb3 := hb2.trans (h3.mono hb2.size)
        obtain ⟨a', rfl, hh⟩ : ∃ a', a = some a' ∧ w3.cell? ⟨(a'.add (x * 19)).block, (a'.add (x * 19)).off + 18, none⟩ = some (.int .u16 (r.hop : Nat)) := by
          rcases hr2.later h3 with ⟨h, hnil⟩ | ⟨a', cap', h, _, _, hc⟩
          · exfalso
            have := HRR.out
            rw [hnil] at this
            cases this
          · simp only [Value.slice.injEq] at h
            exact ⟨a', h.1, (hc.route HRR.out).hop⟩
        go_wp2
        go_ret2
        exact ⟨rfl, hb3⟩
end Go.Proofs.Ytcpdpcfejpbdpaa
