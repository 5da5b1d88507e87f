/- The document's own digit and Split of layer 2. -/
import Derived.Test.YtlokhhochhajmaaDoorRefRead
import Derived.Laws.AppendOwn
import Derived.OwnWalk
namespace Go.Proofs.YtlokhhochhajmaaDoor
open Go.RowKit

theorem hexV_tab : ∀ n : Fin 256, hexV (UInt8.ofNat n.val) = if 48 ≤ n.val ∧ n.val ≤ 57 then (n.val : Int) - 48 else if 97 ≤ n.val ∧ n.val ≤ 102 then (n.val : Int) - 97 + 10 else -1 := by decide +kernel
theorem hexV_of (c : UInt8) : hexV c = if 48 ≤ c.toNat ∧ c.toNat ≤ 57 then (c.toNat : Int) - 48 else if 97 ≤ c.toNat ∧ c.toNat ≤ 102 then (c.toNat : Int) - 97 + 10 else -1 := by
  have := hexV_tab ⟨c.toNat, c.toNat_lt⟩
  simpa using this

set_option maxHeartbeats 1000000 in
set_option maxRecDepth 100000 in
theorem digit_any (c : UInt8) (w : World) :
    Calls Tryd.prog 32 #[.int .u8 c.toNat] w fun e w' => e = .returned (.int .i64 (hexV c)) ∧ w = w' := by
  have hv := hexV_of c
  have hx256 := c.toNat_lt
  obtain ⟨x, hx⟩ : ∃ x, x = c.toNat := ⟨_, rfl⟩
  rw [← hx] at hv hx256 ⊢
  clear hx
  have hxI : (x : Int) < 256 := by omega
  have hx0 : (0 : Int) ≤ x := by omega
  by_cases h1 : 48 ≤ x ∧ x ≤ 57
  · rw [if_pos h1] at hv
    obtain ⟨a, b⟩ := h1
    have a' : (48 : Int) ≤ x := by omega
    have b' : (x : Int) ≤ 57 := by omega
    have HV := Lib.hid hv
    clear hv
    go_enter Tryd.func32, Tryd.ntmps32
    go_wp2
    go_ret
    exact ⟨ret_int' HV.out.symm, rfl⟩
  · rw [if_neg h1] at hv
    by_cases h2 : 97 ≤ x ∧ x ≤ 102
    · rw [if_pos h2] at hv
      obtain ⟨a, b⟩ := h2
      have a' : (97 : Int) ≤ x := by omega
      have b' : (x : Int) ≤ 102 := by omega
      have c' : ¬ (x : Int) ≤ 57 := by omega
      have d' : (48 : Int) ≤ x := by omega
      have HV := Lib.hid hv
      clear hv h1
      go_enter Tryd.func32, Tryd.ntmps32
      go_wp2
      go_ret
      exact ⟨ret_int' HV.out.symm, rfl⟩
    · rw [if_neg h2] at hv
      have HV := Lib.hid hv
      clear hv
      by_cases a : (x : Int) < 48
      · have a2 : ¬ (48 : Int) ≤ x := by omega
        have a3 : ¬ (97 : Int) ≤ x := by omega
        clear h1 h2
        go_enter Tryd.func32, Tryd.ntmps32
        go_wp2
        go_ret
        exact ⟨ret_int' HV.out.symm, rfl⟩
      · have a1 : (48 : Int) ≤ x := by omega
        have a2 : ¬ (x : Int) ≤ 57 := by omega
        by_cases b : (x : Int) < 97
        · have b2 : ¬ (97 : Int) ≤ x := by omega
          clear h1 h2
          go_enter Tryd.func32, Tryd.ntmps32
          go_wp2
          go_ret
          exact ⟨ret_int' HV.out.symm, rfl⟩
        · have b1 : (97 : Int) ≤ x := by omega
          have b2 : ¬ (x : Int) ≤ 102 := by omega
          clear h1 h2
          go_enter Tryd.func32, Tryd.ntmps32
          go_wp2
          go_ret
          exact ⟨ret_int' HV.out.symm, rfl⟩

/-- How far a text is laid apart: what is done, where the piece begins, how far it is read. -/
structure SplitAt (c : UInt8) (l : List UInt8) (done : List (List UInt8)) (b i : Nat) : Prop where
  on : i ≤ l.length → b ≤ i ∧ (∀ j, b ≤ j → j < i → l[j]? ≠ some c) ∧ pieces c l = done ++ pieces c (l.drop b)
  all : i = l.length + 1 → done = pieces c l
  few : done.length ≤ i

theorem splitAt_start (c : UInt8) (l : List UInt8) : SplitAt c l [] 0 0 := ⟨fun _ => ⟨Nat.le_refl _, fun j _ h => absurd h (Nat.not_lt_zero _), rfl⟩, fun h => by omega, Nat.zero_le _⟩

theorem seg_not {c : UInt8} {l : List UInt8} {b i : Nat} (h : ∀ j, b ≤ j → j < i → l[j]? ≠ some c) : c ∉ (l.drop b).take (i - b) := fun hc => by
  obtain ⟨k, hk⟩ := List.mem_iff_getElem?.1 hc
  have hlt : k < i - b := by
    by_cases e : k < i - b
    · exact e
    · rw [List.getElem?_eq_none (by simp; omega)] at hk; cases hk
  rw [List.getElem?_take, if_pos hlt, List.getElem?_drop] at hk
  exact h (b + k) (by omega) (by omega) hk

theorem SplitAt.on_more {c : UInt8} {l : List UInt8} {done : List (List UInt8)} {b i : Nat} (h : SplitAt c l done b i) (hi : i < l.length) (hc : l[i]? ≠ some c) : SplitAt c l done b (i + 1) := by
  obtain ⟨h1, h2, h3⟩ := h.on (by omega)
  exact ⟨fun _ => ⟨by omega, fun j a1 a2 => by
    by_cases e : j = i
    · rw [e]; exact hc
    · exact h2 j a1 (by omega), h3⟩, fun e => by omega, by have := h.few; omega⟩

theorem SplitAt.cut {c : UInt8} {l : List UInt8} {done : List (List UInt8)} {b i : Nat} (h : SplitAt c l done b i) (hi : i < l.length) (hc : l[i]? = some c) : SplitAt c l (done ++ [(l.drop b).take (i - b)]) (i + 1) (i + 1) := by
  obtain ⟨h1, h2, h3⟩ := h.on (by omega)
  have hn := seg_not h2
  have e : l.drop b = (l.drop b).take (i - b) ++ c :: l.drop (i + 1) := by
    have e1 : l.drop b = (l.drop b).take (i - b) ++ (l.drop b).drop (i - b) := (List.take_append_drop _ _).symm
    rw [List.drop_drop, show b + (i - b) = i by omega, List.drop_eq_getElem_cons hi] at e1
    rw [List.getElem?_eq_getElem hi] at hc
    simp only [Option.some.injEq] at hc
    rw [hc] at e1
    exact e1
  refine ⟨fun _ => ⟨Nat.le_refl _, fun j a1 a2 => by omega, ?_⟩, fun e => by omega, by have := h.few; simp; omega⟩
  rw [h3]
  rw [e, pieces_at _ hn]
  rw [← e]
  simp

theorem SplitAt.last {c : UInt8} {l : List UInt8} {done : List (List UInt8)} {b : Nat} (h : SplitAt c l done b l.length) : SplitAt c l (done ++ [(l.drop b).take (l.length - b)]) (l.length + 1) (l.length + 1) := by
  obtain ⟨h1, h2, h3⟩ := h.on (Nat.le_refl _)
  have hn := seg_not h2
  have e : (l.drop b).take (l.length - b) = l.drop b := List.take_of_length_le (by simp)
  refine ⟨fun e => by omega, fun _ => ?_, by have := h.few; simp; omega⟩
  rw [e] at hn ⊢
  rw [h3, pieces_none hn]

/-- What Split hands back. -/
def SplitPost (c : UInt8) (l : List UInt8) (w : World) (e : Ending) (w' : World) : Prop :=
  ∃ g cap, e = .returned (.slice (some ⟨g, 0, none⟩) (pieces c l).length cap) ∧ (∀ i p, (pieces c l)[i]? = some p → w'.cell? ⟨g, i, none⟩ = some (.string (bs p))) ∧ w.heap.size ≤ g ∧ g < w'.heap.size ∧ Below w.heap.size w w'

/-- What is known at the head of a round. -/
structure SplitInv (w wr : World) (c : UInt8) (l : List UInt8) (v : Value) (done : List (List UInt8)) (b i : Nat) : Prop where
  at' : SplitAt c l done b i
  own : wr.ownsRow w.heap.size 9 1 v done.length (done.map fun p => Value.string (bs p))
  below : Below w.heap.size w wr
  size : w.heap.size ≤ wr.heap.size

theorem SplitInv.grown {w wr w2 : World} {c : UInt8} {l : List UInt8} {v v' : Value} {done : List (List UInt8)} {b i b' i' : Nat} {seg : List UInt8} (h : SplitInv w wr c l v done b i) (hat : SplitAt c l (done ++ [seg]) b' i')
    (hown : w2.ownsRow w.heap.size 9 1 v' (done.length + 1) (done.map (fun p => Value.string (bs p)) ++ [.string (bs seg)])) (hg : (wr.alloc (.cells #[.string (bs seg)] 9)).grownBy w2 v.ownBlock) : SplitInv w w2 c l v' (done ++ [seg]) b' i' := by
  have hb := h.below.alloc h.size (.cells #[.string (bs seg)] 9)
  have hz : w.heap.size ≤ (wr.alloc (.cells #[.string (bs seg)] 9)).heap.size := by have := h.size; simp; omega
  have hb2 := hb.grown hg hz (fun k hk => (h.own.lt k hk).1)
  exact ⟨hat, by simpa using hown, hb2, hb2.size⟩

theorem SplitInv.post {w wr : World} {c : UInt8} {l : List UInt8} {v : Value} {done : List (List UInt8)} {b : Nat} (h : SplitInv w wr c l v done b (l.length + 1)) : SplitPost c l w (.returned v) wr := by
  have e := h.at'.all rfl
  have hne : done ≠ [] := by rw [e]; exact pieces_ne c l
  rcases h.own.2 with ⟨_, h0⟩ | ⟨g, cap, cur, hv, _, hg, _⟩
  · exact absurd (List.length_eq_zero_iff.1 h0) hne
  · refine ⟨g, cap, by rw [hv, e], fun i p hp => ?_, (h.own.lt g (by rw [hv]; rfl)).1, ?_, h.below⟩
    · have := h.own.cells (g := g) (by rw [hv]; rfl) i (.string (bs p)) (by rw [e]; simp [hp])
      have ha : (⟨g, 0, none⟩ : Addr).add i = ⟨g, i, none⟩ := by unfold Addr.add; split <;> simp_all
      rwa [ha] at this
    · rcases Nat.lt_or_ge g wr.heap.size with h' | h'
      · exact h'
      · rw [Array.getElem?_eq_none h'] at hg; cases hg

set_option maxHeartbeats 4000000 in
set_option maxRecDepth 100000 in
theorem rsplit_any (c : UInt8) (l : List UInt8) (w : World) (hl : l.length ≤ 60) :
    Calls Tryd.prog 29 #[.string (bs l), .int .u8 c.toNat] w (SplitPost c l w) := by
  obtain ⟨L, hL⟩ : ∃ L, L = l.length := ⟨_, rfl⟩
  have hsz : (bs l).size = L := by rw [bs_size, hL]
  have hlI : (L : Int) ≤ 60 := by omega
  have infoS : (Tryd.prog.info? 9).map (fun i => (i.zero, i.size, i.bytes)) = some (some (.string ByteArray.empty), 1, 16) := by kernel_rfl
  obtain ⟨i0, hi0, hz0, hz1, hz2⟩ := info_parts infoS
  have H0 := Lib.hid hi0
  have H1 := Lib.hid hz0
  have H2 := Lib.hid hz1
  have H3 := Lib.hid hz2
  have HL := Lib.hid hL
  have hc256 : (c.toNat : Int) < 256 := by have := c.toNat_lt; omega
  clear hi0 hz0 hz1 hz2 infoS hL
  go_enter Tryd.func29, Tryd.ntmps29
  go_wp2
  go_loopw [5, 6, 7] (fun v b t wr => ∃ (i b' : Nat) (done : List (List UInt8)), i ≤ L + 1 ∧ t = .int .i64 i ∧ b = .int .i64 b' ∧ SplitInv w wr c l v done b' i) (fun _ _ t _ => L + 1 - (intOf t).toNat)
  case atStart => exact ⟨0, 0, [], Nat.zero_le _, rfl, rfl, splitAt_start c l, World.ownsRow_nil _ _ _ _, Below.refl _ _, Nat.le_refl _⟩
  case round =>
    obtain ⟨i, b, done, hi, rfl, rfl, inv⟩ := hrel
    by_cases hle : i ≤ L
    · have hleI : (i : Int) ≤ L := by omega
      have hbi : b ≤ i := (inv.at'.on (by rw [← HL.out]; exact hle)).1
      have hbI : (b : Int) ≤ i := by omega
      have hbL : b ≤ L := by omega
      obtain ⟨seg, hseg⟩ : ∃ seg, seg = (l.drop b).take (i - b) := ⟨_, rfl⟩
      have hx : (bs l).extract b i = bs seg := by
        refine WideShapes.bytes_inj ?_
        rw [Lib.extract_data, bs_list, bs_list, hseg]
      have hfew := inv.at'.few
      have hfew60 : done.length ≤ 61 := by omega
      have HS := Lib.hid hseg
      have HF := Lib.hid hfew60
      have HI := Lib.hid inv
      clear hseg hfew hfew60 inv
      by_cases hend : i = L
      · have hendI : ((i : Int) == (L : Int)) = true := by rw [beq_iff_eq]; omega
        have HAT : Hid (SplitAt c l (done ++ [seg]) (i + 1) (i + 1)) := by
          show SplitAt _ _ _ _ _
          have := HI.out.at'
          rw [HS.out, hend, HL.out]
          rw [hend, HL.out] at this
          exact this.last
        clear hend
        have hown := HI.out.own
        have hsz0 := HI.out.size
        go_wp2_with (at_builtin; refine wpList_append_own _ rfl _ _ 64 rfl w.heap.size 9 i0 (.string .empty) 1 16 Tryd.underlying64 H0.out H1.out H2.out H3.out rfl (by decide) _ _ _ rfl (hown.alloc _) ⟨wr.heap.size, 0, none⟩ 1 1 [.string (bs seg)] rfl rfl ?c1 ?c2 ?c3 ?c4 ?c5 ?_)
        case c1 =>
          intro j u hj
          match j, hj with
          | 0, hj => simp at hj; subst hj; simp [Addr.add]
          | (j + 1), hj => simp at hj
        case c2 => intro u hu; simp at hu; subst hu; rfl
        case c3 => have := HF.out; simp only [maxLen]; omega
        case c4 => have := HF.out; omega
        case c5 => simp; omega
        intro v' w2 hown' hgrow _
        have HG := Lib.hid (HI.out.grown HAT.out hown' hgrow)
        clear hown' hgrow hown hsz0
        go_wp2
        go_roundw
        case rel => exact ⟨i + 1, i + 1, done ++ [seg], by omega, by go_num, by go_num, HG.out⟩
        case measure => simp [intOf]; omega
      · have hendI : ((i : Int) == (L : Int)) = false := by rw [beq_eq_false_iff_ne]; omega
        have hlt : i < L := by omega
        have hltI : (i : Int) < L := by omega
        obtain ⟨d, hd⟩ : ∃ d, l[i]? = some d := ⟨l[i]'(by rw [← HL.out]; exact hlt), List.getElem?_eq_getElem _⟩
        have hg : ∀ h, (bs l)[i]'h = d := fun h => by
          have hi2 : i < l.length := by rw [← HL.out]; exact hlt
          rw [List.getElem?_eq_getElem hi2] at hd
          simp only [Option.some.injEq] at hd
          show l.toArray[i]'(by simpa using hi2) = d
          simpa using hd
        have hzi : i < (bs l).size := by rw [hsz]; exact hlt
        by_cases hcut : d = c
        · have heq : ((d.toNat : Int) == (c.toNat : Int)) = true := by rw [beq_iff_eq, hcut]
          have HAT : Hid (SplitAt c l (done ++ [seg]) (i + 1) (i + 1)) := by
            show SplitAt _ _ _ _ _
            have := HI.out.at'.cut (by rw [← HL.out]; exact hlt) (by rw [hd, hcut])
            rwa [← HS.out] at this
          have hown := HI.out.own
          have hsz0 := HI.out.size
          clear hd hcut hend hlt
          go_wp2_with (at_builtin; refine wpList_append_own _ rfl _ _ 64 rfl w.heap.size 9 i0 (.string .empty) 1 16 Tryd.underlying64 H0.out H1.out H2.out H3.out rfl (by decide) _ _ _ rfl (hown.alloc _) ⟨wr.heap.size, 0, none⟩ 1 1 [.string (bs seg)] rfl rfl ?c1 ?c2 ?c3 ?c4 ?c5 ?_)
          case c1 =>
            intro j u hj
            match j, hj with
            | 0, hj => simp at hj; subst hj; simp [Addr.add]
            | (j + 1), hj => simp at hj
          case c2 => intro u hu; simp at hu; subst hu; rfl
          case c3 => have := HF.out; simp only [maxLen]; omega
          case c4 => have := HF.out; omega
          case c5 => simp; omega
          intro v' w2 hown' hgrow _
          have HG := Lib.hid (HI.out.grown HAT.out hown' hgrow)
          clear hown' hgrow hown hsz0
          go_wp2
          go_roundw
          case rel => exact ⟨i + 1, i + 1, done ++ [seg], by omega, by go_num, by go_num, HG.out⟩
          case measure => simp [intOf]; omega
        · have heq : ((d.toNat : Int) == (c.toNat : Int)) = false := by
            rw [beq_eq_false_iff_ne]
            exact fun e => hcut (UInt8.toNat_inj.1 (by omega))
          have HN : Hid (SplitInv w wr c l u5 done b (i + 1)) := ⟨HI.out.at'.on_more (by rw [← HL.out]; exact hlt) (by rw [hd]; exact fun e => hcut (by simpa using e)), HI.out.own, HI.out.below, HI.out.size⟩
          clear hd hcut hend hlt
          go_wp2
          go_roundw
          case rel => exact ⟨i + 1, b, done, by omega, by go_num, rfl, HN.out⟩
          case measure => simp [intOf]; omega
    · have hgtI : ¬ (i : Int) ≤ L := by omega
      have hi1 : i = L + 1 := by omega
      have HN : Hid (SplitInv w wr c l u5 done b (l.length + 1)) := by
        show SplitInv _ _ _ _ _ _ _ _
        rw [hi1, HL.out] at inv
        exact inv
      clear inv hi1 hle
      go_wp2
      go_ret
      exact HN.out.post

end Go.Proofs.YtlokhhochhajmaaDoor
