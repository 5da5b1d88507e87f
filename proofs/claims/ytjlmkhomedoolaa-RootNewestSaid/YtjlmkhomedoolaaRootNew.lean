/- root.Newest: what it hands back. -/
import Derived.Test.YtjlmkhomedoolaaRootRead
namespace Go.Proofs.Ytjlmkhomedoolaa.Root
open Go.RowKit Go.Sort Go.Shelf Go.Proofs.Ytjlmkhomedoolaa Go.Proofs.Ytjlmkhomedoolaa.Page
attribute [local go_sem ↓] slice_bytes cut_bytes loadVar_ro storeVar_ro loadVar_page storeVar_page

def NewPost (ls : List (List UInt8)) (w : World) (e : Ending) (w' : World) : Prop :=
  ∃ x, e = .returned (.tuple #[.int .i64 ((newL ls).pos : Int), roV (newL ls).root x, .int .i64 (newL ls).err]) ∧ OwnN w' w.heap.size x (newL ls).root.nums ∧ Below w.heap.size w w'
/-- How far it has come. -/
def NewI (s : Nw) (w : World) (B R base : Nat) (W : World) : Prop :=
  ∃ x, Bx 25 W R (roC s.root x) ∧ OwnN W base x s.root.nums ∧ Bx 25 W B zr ∧ Below w.heap.size w W ∧ base ≤ W.heap.size
theorem newN_next {ls : List (List UInt8)} {k : Nat} {b : List UInt8} (h : ls[k]? = some b) : newN ls (k + 1) = stepN (newN ls k) k b := by
  show (match ls[k]? with | some b => stepN (newN ls k) k b | none => newN ls k) = _
  rw [h]

set_option maxHeartbeats 4000000 in
set_option maxRecDepth 100000 in
theorem newest_any (ls : List (List UInt8)) (v : Value) (w : World) (hR : RdL w v ls) : Calls Try.prog 10 #[v] w (NewPost ls w) := by
  obtain ⟨W, hW⟩ : ∃ W, W = w.alloc (.cells zr 25) := ⟨_, rfl⟩
  have hb : Below w.heap.size w W := by rw [hW]; exact below1 _ _
  have hx : Bx 25 W w.heap.size zr := by rw [hW]; exact Bx.new _ w _
  have HX := Lib.hid (And.intro hx (And.intro hb hx.lt))
  have HC1 := Lib.hid (lack_any ls v W (hR.later hb))
  have HR := Lib.hid hR
  obtain ⟨a, cap, e1, h1, h2⟩ := hR.len
  obtain ⟨n, hn⟩ : ∃ n, ls.length = n := ⟨_, rfl⟩
  have HN := Lib.hid hn
  rw [hn] at e1 h1
  have hm : n ≤ 9223372036854775807 := by unfold maxLen at h2; omega
  subst e1
  unfold zr at hW
  clear hR hb hx hn h1 h2
  go_enter Try.func10, Try.ntmps10
  go_upto_region 1 with fail
  rw [← hW]
  clear hW
  go_wp2_with fail
  (with_reducible refine HC1.out.mono ?_)
  rintro e w1 ⟨rfl, hb1⟩
  have st6 := ro_new w1 zeroR (v := .slice none 0 0) rfl
  have hb2 : Below w1.heap.size w1 (w1.alloc (.cells (roC zeroR (.slice none 0 0)) 25)) := below1 _ _
  have hrx := Bx.new 25 w1 (roC zeroR (.slice none 0 0))
  obtain ⟨W2, hW2⟩ : ∃ W2, w1.alloc (.cells (roC zeroR (.slice none 0 0)) 25) = W2 := ⟨_, rfl⟩
  rw [hW2] at st6 hb2 hrx
  obtain ⟨R, hRR⟩ : ∃ R, w1.heap.size = R := ⟨_, rfl⟩
  rw [hRR] at st6 hrx hb2
  have B2 : Below W.heap.size W W2 := hb1.trans (hb2.mono (by rw [← hRR]; exact hb1.size))
  have HSZ : Hid (w.heap.size < R ∧ R < W2.heap.size ∧ w.heap.size ≤ W2.heap.size) := by
    have h3 := HX.out.2.2
    have h4 := hb1.size
    have h5 := hrx.lt
    exact ⟨by omega, h5, by omega⟩
  have HI0 : Hid (NewI (newN ls 0) w w.heap.size R W2.heap.size W2) := ⟨.slice none 0 0, hrx, OwnN.nil _ _, HX.out.1.later B2, HX.out.2.1.trans (B2.mono HX.out.2.1.size), Nat.le_refl _⟩
  have HL0 : Hid (newN ls 0 = ⟨0, zeroR, lackE ls⟩) := rfl
  rw [← zr_is] at st6
  unfold zr at st6
  clear hb2 hrx hW2 B2 hb1
  go_upto_region 3 with fail
  clear st6 hRR
  go_loopw [5, 7, 8, 9, 10, 11, 17] (fun t5 t7 _ _ _ _ i wr => ∃ k : Nat, k ≤ n ∧ i = .int .i64 k ∧ t5 = .int .i64 ((newN ls k).pos : Int) ∧ t7 = .int .i64 (newN ls k).err ∧ Hid (NewI (newN ls k) w w.heap.size R W2.heap.size wr)) (fun _ _ _ _ _ _ i _ => n - (intOf i).toNat)
  case atStart => exact ⟨0, Nat.zero_le _, rfl, by rw [HL0.out]; rfl, by rw [HL0.out], HI0⟩
  case round =>
    obtain ⟨k, hk, rfl, rfl, rfl, HI⟩ := hrel
    by_cases hlt : k < n
    · have hltI : (k : Int) < n := by omega
      obtain ⟨b1, o1, q1, e1, hc1⟩ := HR.out.form (by rw [HN.out]; omega)
      rw [HN.out] at e1
      cases e1
      obtain ⟨b, hx⟩ : ∃ x, ls[k]? = some x := ⟨_, List.getElem?_eq_getElem (by rw [HN.out]; exact hlt)⟩
      obtain ⟨u, hu, hru⟩ := hc1 k b hx
      obtain ⟨x0, i1, i2, i3, i4, i5⟩ := HI.out
      have c1 := keep_cell hu i4
      have HC := Lib.hid (readR_any b u wr (hru.later i4))
      unfold ReadRPost at HC
      have HNX := Lib.hid (newN_next hx)
      obtain ⟨s, hs⟩ : ∃ s, newN ls k = s := ⟨_, rfl⟩
      rw [hs] at i1 i2 HNX ⊢
      have HST : Hid (stepN s k b = if (readR b).2 = 0 ∧ s.root.gen ≤ (readR b).1.gen then ⟨k, (readR b).1, 0⟩ else s) := rfl
      obtain ⟨r, hr⟩ : ∃ r, (readR b).1 = r := ⟨_, rfl⟩
      obtain ⟨er, her⟩ : ∃ er, (readR b).2 = er := ⟨_, rfl⟩
      rw [hr, her] at HC HST
      have HII := Lib.hid (And.intro i1 (And.intro i2 (And.intro i3 (And.intro i4 i5))))
      have hone0 : x0.oneCell' = true := RdN.one i2.rd
      clear hx hc1 hu hru i1 i2 i3 i4 i5 hs hr her HI
      go_wp2_with fail
      (with_reducible refine HC.out.mono ?_)
      rintro e w3 ⟨xv, rfl, ho3, hb3⟩
      have hone := RdN.one ho3.rd
      have st10 := ro_new w3 r (v := xv) hone
      have hr0 : Below w3.heap.size w3 (w3.alloc (.cells (roC r xv) 25)) := below1 _ _
      have hrx := Bx.new 25 w3 (roC r xv)
      obtain ⟨W4, hW4⟩ : ∃ W4, w3.alloc (.cells (roC r xv) 25) = W4 := ⟨_, rfl⟩
      rw [hW4] at st10 hr0 hrx
      obtain ⟨R2, hR2⟩ : ∃ R2, w3.heap.size = R2 := ⟨_, rfl⟩
      have B4 : Below wr.heap.size wr W4 := hb3.trans (hr0.mono hb3.size)
      rw [hR2] at st10 hrx
      have hi := HII.out
      have j1 := hi.1.later B4
      have j2 := hi.2.1.later B4
      have j3 := hi.2.2.1.later B4
      have j4 := hi.2.2.2.1.trans (B4.mono hi.2.2.2.1.size)
      have j5 : W2.heap.size ≤ W4.heap.size := Nat.le_trans hi.2.2.2.2 B4.size
      have ho4 := (ho3.later hr0).mono hi.2.2.2.2
      have c10 : W4.cell? ⟨R2, 0, none⟩ = some (.int .u64 (r.gen : Int)) := hrx.cell 0
      have c6 : W4.cell? ⟨R, 0, none⟩ = some (.int .u64 (s.root.gen : Int)) := j1.cell 0
      have HK : Hid (NewI s w w.heap.size R W2.heap.size W4) := ⟨x0, j1, j2, j3, j4, j5⟩
      unfold zr roC at st10
      unfold roV
      by_cases he : er = 0
      · subst he
        by_cases hg : s.root.gen ≤ r.gen
        · have hgI : (s.root.gen : Int) ≤ (r.gen : Int) := by omega
          have HNX2 : Hid (newN ls (k + 1) = ⟨k, r, 0⟩) := by show _ = _; rw [HNX.out, HST.out, if_pos ⟨rfl, hg⟩]
          have ld10 := (hrx.later ((Below.refl _ W4).drew)).ld rfl
          have st6 := (j1.later ((Below.refl _ W4).drew)).st rfl r hone
          have HK2 : Hid (NewI ⟨k, r, 0⟩ w w.heap.size R W2.heap.size (W4.drew.setRow R (roC r xv))) := by
            have hz := HSZ.out
            have d := (Below.refl W4.heap.size W4).drew
            refine ⟨xv, (j1.later d).row _, own_rowN (ho4.later d) _ hz.2.1, (j3.later d).other (by omega) _, below_row j4.drew (by show w.heap.size ≤ W4.heap.size; omega) (by omega) _, ?_⟩
            rw [row_size]; exact j5
          unfold roC at ld10 st6 HK2
          clear hone hr0 hW4 B4 hrx hi j1 j2 j3 j4 j5 ho4 ho3 hb3 hone0 hg
          go_wp2
          go_region
          go_wp2
          go_roundw
          case rel => exact ⟨k + 1, hlt, by go_num, by rw [HNX2.out], by rw [HNX2.out], by rw [HNX2.out]; exact HK2⟩
          case measure => simp [intOf]; omega
        · have hgI : ¬ (s.root.gen : Int) ≤ (r.gen : Int) := by omega
          have hgB : decide ((s.root.gen : Int) ≤ (r.gen : Int)) = false := decide_eq_false hgI
          have hgN : decide (s.root.gen ≤ r.gen) = false := decide_eq_false hg
          have HNX2 : Hid (newN ls (k + 1) = s) := by show _ = _; rw [HNX.out, HST.out, if_neg (fun h => hg h.2)]
          clear hone hr0 hW4 B4 hrx hi j1 j2 j3 j4 j5 ho4 ho3 hb3 hone0 hg hgI
          go_wp2
          go_roundw
          case rel => exact ⟨k + 1, hlt, by go_num, by rw [HNX2.out], by rw [HNX2.out], by rw [HNX2.out]; exact HK⟩
          case measure => simp [intOf]; omega
      · have e2 : (er == 0) = false := by simp [he]
        have HNX2 : Hid (newN ls (k + 1) = s) := by show _ = _; rw [HNX.out, HST.out, if_neg (fun h => he h.1)]
        clear hone hr0 hW4 B4 hrx hi j1 j2 j3 j4 j5 ho4 ho3 hb3 hone0 he
        go_wp2
        go_roundw
        case rel => exact ⟨k + 1, hlt, by go_num, by rw [HNX2.out], by rw [HNX2.out], by rw [HNX2.out]; exact HK⟩
        case measure => simp [intOf]; omega
    · obtain rfl : k = n := by omega
      obtain ⟨x0, i1, i2, i3, i4, i5⟩ := HI.out
      have HNL : Hid (newL ls = newN ls k) := by show _ = _; unfold newL; rw [HN.out]
      obtain ⟨s, hs⟩ : ∃ s, newN ls k = s := ⟨_, rfl⟩
      rw [hs] at i1 i2 HNL ⊢
      have d := (Below.refl wr.heap.size wr).drew
      have hone : x0.oneCell' = true := RdN.one i2.rd
      have ld6 := (i1.later d).ld rfl
      have st3 := (i3.later d).st rfl s.root hone
      have ld3 := ((i3.later d).row (roC s.root x0)).ld rfl
      have hz := HSZ.out
      have FIN : Hid (NewPost ls w (.returned (.tuple #[.int .i64 (s.pos : Int), .agg (roC s.root x0), .int .i64 s.err])) (wr.drew.setRow w.heap.size (roC s.root x0))) := by
        unfold NewPost
        rw [HNL.out]
        exact ⟨x0, rfl, (own_rowN (i2.later d) _ (by omega)).mono (by omega), below_row i4.drew i4.size (Nat.le_refl _) _⟩
      unfold roC at ld6 st3
      clear i1 i2 i3 i4 i5 d hone hz hs HI
      go_wp2
      go_region
      go_wp2
      exact bodyPost_ret (v := .tuple #[.int .i64 (s.pos : Int), .agg (roC s.root x0), .int .i64 s.err]) (results_mid rfl _ _ _ _ rfl rfl rfl ld3) rfl FIN.out
end Go.Proofs.Ytjlmkhomedoolaa.Root
