/- page.Put: what it hands back. -/
import Derived.Test.YtjlmkhomedoolaaPageConcat
namespace Go.Proofs.Ytjlmkhomedoolaa.Page
open Go.RowKit Go.Sort
attribute [local go_sem ↓] slice_bytes

def PutPost (p : Pg) (n : Int) (w : World) (e : Ending) (w' : World) : Prop := ∃ v', e = .returned (.tuple #[v', .int .i64 (putE p n)]) ∧ OwnB w' w.heap.size v' (putR p n) ∧ Below w.heap.size w w'

set_option maxHeartbeats 1000000 in
theorem put_no (p : Pg) (v : Value) (n : Int) (w : World) (hR : RdB w v p.body) (h : mayB p n = false) : Calls Try.prog 12 #[pgV p v, .int .i64 n] w (PutPost p n w) := by
  have HB : Hid (Below w.heap.size w (w.alloc (.cells (pgC p v) 45))) := (Below.refl _ _).alloc (Nat.le_refl _) _
  have HM0 := may_any p v n (w.alloc (.cells (pgC p v) 45)) (hR.later HB.out)
  rw [h] at HM0
  have HM := Lib.hid HM0
  clear HM0
  have HE : Hid (putE p n = 1) := by show _ = _; unfold putE; rw [h]; rfl
  have HL : Hid (putR p n = []) := by show _ = _; unfold putR; rw [h]; rfl
  unfold PutPost
  rw [HE.out, HL.out]
  clear hR h HE HL
  unfold pgV pgC at *
  go_enter Try.func12, Try.ntmps12
  go_wp2_with fail
  refine HM.out.mono ?_
  rintro e w1 ⟨rfl, hb⟩
  have FIN := Lib.hid (HB.out.trans (hb.mono HB.out.size))
  clear hb
  go_wp2
  go_ret2
  exact ⟨_, rfl, OwnB.nil _ _, FIN.out⟩

/-- A new row of bytes, marked or not. -/
theorem rd_new (w : World) (l : List UInt8) (fr : Nat × Nat) (hl : l.length ≤ maxLen) : RdB (w.alloc (.cells (cellsB l).toArray 5 fr)) (.slice (some ⟨w.heap.size, 0, none⟩) l.length l.length) l :=
  ⟨_, _, rfl, Nat.le_refl _, hl, (fun h => by cases h), fun ad ha j u hu => by
    cases ha
    rw [add_here, Nat.zero_add, World.cell?_alloc_mark, List.getElem?_toArray]
    exact hu⟩
theorem byte_int {k : Int} (h0 : 0 ≤ k) (h1 : k ≤ 255) : byV (UInt8.ofNat k.toNat) = .int .u8 k := by
  unfold byV
  rw [UInt8.toNat_ofNat']
  congr 1
  omega
/-- A small row of slices, written. -/
def five {α : Type} (a b c d e : α) (i : Nat) : α := match i with | 0 => a | 1 => b | 2 => c | 3 => d | _ => e
set_option maxHeartbeats 4000000 in
set_option maxRecDepth 100000 in
theorem put_yes (p : Pg) (v : Value) (N : Nat) (w : World) (hR : RdB w v p.body) (h : mayB p N = true) : Calls Try.prog 12 #[pgV p v, .int .i64 (N : Int)] w (PutPost p N w) := by
  have HB : Hid (Below w.heap.size w (w.alloc (.cells (pgC p v) 45))) := (Below.refl _ _).alloc (Nat.le_refl _) _
  have HM0 := may_any p v N (w.alloc (.cells (pgC p v) 45)) (hR.later HB.out)
  rw [h] at HM0
  have HM := Lib.hid HM0
  clear HM0
  have HE : Hid (putE p N = 0) := by show _ = _; unfold putE; rw [h]; rfl
  have HL : Hid (putR p N = headL p N ++ sealB (headL p N)) := by show _ = _; unfold putR; rw [h, Int.toNat_natCast]; rfl
  unfold PutPost
  rw [HE.out, HL.out]
  have hlen := head_length h
  obtain ⟨⟨h1, h2⟩, h3, ⟨h4, h5⟩, h6, h7⟩ := may_iff.1 h
  have HC : Hid (∀ W, Below (w.alloc (.cells (pgC p v) 45)).heap.size (w.alloc (.cells (pgC p v) 45)) W → (W.cell? ⟨w.heap.size, 0, none⟩ = some (.int .i64 p.kind) ∧ W.cell? ⟨w.heap.size, 1, none⟩ = some (.int .i64 p.id) ∧
    W.cell? ⟨w.heap.size, 2, none⟩ = some (.int .u64 (p.gen : Int)) ∧ W.cell? ⟨w.heap.size, 3, none⟩ = some v) ∧ RdB W v p.body ∧ Below w.heap.size w W) := fun W hW => by
    obtain ⟨c0, c1, c2, c3⟩ := box_page w p v
    exact ⟨⟨cell_keep c0 hW, cell_keep c1 hW, cell_keep c2 hW, cell_keep c3 hW⟩, (hR.later HB.out).later hW, HB.out.trans (hW.mono HB.out.size)⟩
  obtain ⟨W0, hW0⟩ : ∃ W, W = w.alloc (.cells (pgC p v) 45) := ⟨_, rfl⟩
  rw [← hW0] at HM HB HC
  have HW0 := Lib.hid hW0
  have hk0 : 0 ≤ p.kind := by omega
  have hk1 : p.kind ≤ 255 := by omega
  have HHEAD : Hid (headL p N = [UInt8.ofNat p.kind.toNat, UInt8.ofNat p.id.toNat] ++ (putB p.gen 6 ++ (putB p.body.length 2 ++ (p.body ++ List.replicate (N - 14 - p.body.length) 0)))) := rfl
  obtain ⟨H, hH⟩ : ∃ H, headL p N = H := ⟨_, rfl⟩
  rw [hH] at hlen HHEAD ⊢
  have HLEN := Lib.hid hlen
  have HPG : Hid (∀ W, Calls Try.prog 22 #[.int .u64 (p.gen : Int), .int .i64 6] W fun e w' => ∃ v, e = .returned v ∧ OwnB w' W.heap.size v (putB p.gen 6) ∧ Below W.heap.size W w') := fun W => put_any p.gen 6 W
  have HPL : Hid (∀ W, Calls Try.prog 22 #[.int .u64 (p.body.length : Int), .int .i64 2] W fun e w' => ∃ v, e = .returned v ∧ OwnB w' W.heap.size v (putB p.body.length 2) ∧ Below W.heap.size W w') := fun W => put_any p.body.length 2 W
  obtain ⟨a, cap, hv, -⟩ := hR.len
  obtain ⟨m, hm⟩ : ∃ m, p.body.length = m := ⟨_, rfl⟩
  rw [hm] at hv h7 HPL HHEAD
  obtain ⟨z, hz⟩ : ∃ z, N - 14 - m = z := ⟨_, rfl⟩
  rw [hz] at HHEAD
  have hzI : (N : Int) - 4 - 10 - (m : Int) = (z : Int) := by omega
  have hz9 : z ≤ 1000 := by omega
  have HZ : Hid (∀ W, _) := fun W => make_zeros W z (by omega)
  have HMX := Lib.hid (And.intro hm (And.intro hz (And.intro h1 (And.intro h2 h7))))
  have HX := Lib.hid (And.intro h3 (And.intro h4 h5))
  subst hv
  unfold pgV pgC at *
  clear hR h hW0 hlen hm hz h3 h6
  go_enter Try.func12, Try.ntmps12
  go_upto_region 1 with fail
  rw [← HW0.out]
  obtain ⟨⟨c0, c1, c2, c3⟩, -⟩ := HC.out W0 (Below.refl _ _)
  go_wp2_with fail
  refine HM.out.mono ?_
  rintro e w1 ⟨rfl, hb⟩
  have B1 := Lib.hid hb
  obtain ⟨⟨-, -, c2, -⟩, -⟩ := HC.out w1 hb
  clear hb c0 c1 c3
  go_wp2_with fail
  refine (HPG.out w1).mono ?_
  rintro e w2 ⟨v6, rfl, ho, hb⟩
  have B2 := Lib.hid (B1.out.trans (hb.mono B1.out.size))
  have O2 := Lib.hid ho
  obtain ⟨⟨-, -, -, c3⟩, -⟩ := HC.out w2 B2.out
  obtain ⟨a6, cap6, hv6, -⟩ := ho.rd.len
  clear hb ho c2
  go_wp2_with fail
  refine (HPL.out w2).mono ?_
  rintro e w3 ⟨v7, rfl, ho, hb⟩
  have B3 := Lib.hid (B2.out.trans (hb.mono B2.out.size))
  have O3 := Lib.hid (And.intro (O2.out.later hb) ho)
  obtain ⟨a7, cap7, hv7, -⟩ := ho.rd.len
  obtain ⟨w4, hm4, ho, hb⟩ := HZ.out w3
  obtain ⟨⟨-, -, -, c3'⟩, -⟩ := HC.out w3 B3.out
  obtain ⟨⟨d0, d1, d2, d3⟩, -⟩ := HC.out w4 (B3.out.trans (hb.mono B3.out.size))
  have B4 := Lib.hid (B3.out.trans (hb.mono B3.out.size))
  have O4 := Lib.hid (And.intro (O3.out.1.later hb) (And.intro (O3.out.2.later hb) ho))
  have hb5 : Below w4.heap.size w4 (w4.alloc (.cells #[.int .u8 p.kind, .int .u8 p.id] 5)) := (Below.refl _ _).alloc (Nat.le_refl _) _
  have B5 := Lib.hid (B4.out.trans (hb5.mono B4.out.size))
  have R5 : Hid (RdB (w4.alloc (.cells #[.int .u8 p.kind, .int .u8 p.id] 5)) (.slice (some ⟨w4.heap.size, 0, none⟩) 2 2) [UInt8.ofNat p.kind.toNat, UInt8.ofNat p.id.toNat]) := by
    have := rd_new w4 [UInt8.ofNat p.kind.toNat, UInt8.ofNat p.id.toNat] (0, 0) (by show 2 ≤ maxLen; decide)
    have e : cellsB [UInt8.ofNat p.kind.toNat, UInt8.ofNat p.id.toNat] = [.int .u8 p.kind, .int .u8 p.id] := by
      show [byV _, byV _] = _
      rw [byte_int hk0 hk1, byte_int h4 (by omega)]
    rw [e] at this
    exact this
  obtain ⟨⟨-, -, -, d3'⟩, r5, -⟩ := HC.out _ B5.out
  have R5B := Lib.hid r5
  subst hv6 hv7
  obtain ⟨W5, hW5⟩ : ∃ W, W = w4.alloc (.cells #[.int .u8 p.kind, .int .u8 p.id] 5) := ⟨_, rfl⟩
  have HW5 := Lib.hid hW5
  rw [← hW5] at hb5 B5 R5 R5B
  have hs5 : W5.heap.size = w4.heap.size + 1 := by rw [hW5]; simp
  have O5 := Lib.hid (And.intro (O4.out.1.later hb5) (And.intro (O4.out.2.1.later hb5) (O4.out.2.2.later hb5)))
  have hb6 : Below W5.heap.size W5 (W5.alloc (.cells #[.slice (some ⟨w4.heap.size, 0, none⟩) 2 2, .slice a6 (putB p.gen 6).length cap6, .slice a7 (putB m 2).length cap7, .slice a m cap, .slice (some ⟨w3.heap.size, 0, none⟩) z z] 29)) := (Below.refl _ _).alloc (Nat.le_refl _) _
  have B6 := Lib.hid (B5.out.trans (hb6.mono B5.out.size))
  have HCC : Hid (Calls Try.prog 24 #[.slice (some ⟨w4.heap.size + 1, 0, none⟩) 5 5] (W5.alloc (.cells #[.slice (some ⟨w4.heap.size, 0, none⟩) 2 2, .slice a6 (putB p.gen 6).length cap6, .slice a7 (putB m 2).length cap7, .slice a m cap, .slice (some ⟨w3.heap.size, 0, none⟩) z z] 29))
      fun e w' => ∃ v, e = .returned v ∧ OwnB w' w.heap.size v H ∧ Below W0.heap.size W0 w') := by
    have hcat : cat (five [UInt8.ofNat p.kind.toNat, UInt8.ofNat p.id.toNat] (putB p.gen 6) (putB m 2) p.body (List.replicate z 0)) 5 = H := by
      rw [HHEAD.out]
      simp [cat, five]
    have := concat_any W5.heap.size 5 (five (.slice (some ⟨w4.heap.size, 0, none⟩) 2 2) (.slice a6 (putB p.gen 6).length cap6) (.slice a7 (putB m 2).length cap7) (.slice a m cap) (.slice (some ⟨w3.heap.size, 0, none⟩) z z))
      (five [UInt8.ofNat p.kind.toNat, UInt8.ofNat p.id.toNat] (putB p.gen 6) (putB m 2) p.body (List.replicate z 0)) (W5.alloc (.cells #[.slice (some ⟨w4.heap.size, 0, none⟩) 2 2, .slice a6 (putB p.gen 6).length cap6, .slice a7 (putB m 2).length cap7, .slice a m cap, .slice (some ⟨w3.heap.size, 0, none⟩) z z] 29))
      (fun i hi => by
        have hi5 : i = 0 ∨ i = 1 ∨ i = 2 ∨ i = 3 ∨ i = 4 := by omega
        rcases hi5 with rfl | rfl | rfl | rfl | rfl <;> refine ⟨?_, by rw [World.cell?_alloc_at _ _ _ _ rfl]; rfl⟩
        · exact R5.out.later hb6
        · exact O5.out.1.rd.later hb6
        · exact O5.out.2.1.rd.later hb6
        · exact R5B.out.later hb6
        · exact O5.out.2.2.rd.later hb6) (by decide) (by rw [hcat, HLEN.out]; have := HMX.out; omega)
    rw [hcat] at this
    rw [hs5] at this
    refine this.mono ?_
    rintro e w7 ⟨v, rfl, h1, h2⟩
    exact ⟨v, rfl, h1.mono (Nat.le_trans HB.out.size B6.out.size), B6.out.trans (h2.mono B6.out.size)⟩
  have HSE : Hid (∀ W u, RdB W u H → Calls Try.prog 23 #[u] W fun e w' => ∃ v', e = .returned v' ∧ OwnB w' W.heap.size v' (H ++ sealB H) ∧ Below W.heap.size W w') := fun W u hu => sealed_any H u W hu (by rw [HLEN.out]; have := HMX.out; omega)
  clear hb ho c3 hb5 hb6 r5 hs5
  rw [hW5] at HCC
  clear hW5
  go_wp2_with fail
  refine HCC.out.mono ?_
  rintro e w7 ⟨v7', rfl, ho, hb⟩
  have O7 := Lib.hid (And.intro ho hb)
  clear ho hb
  go_wp2_with fail
  refine (HSE.out _ _ O7.out.1.rd).mono ?_
  rintro e w8 ⟨v8, rfl, ho, hb⟩
  have FIN := Lib.hid (And.intro (ho.mono (Nat.le_trans HB.out.size O7.out.2.size)) (HB.out.trans ((O7.out.2.trans (hb.mono O7.out.2.size)).mono HB.out.size)))
  clear ho hb
  go_wp2
  go_ret2
  exact ⟨_, rfl, FIN.out⟩
theorem put_any' (p : Pg) (v : Value) (n : Int) (w : World) (hR : RdB w v p.body) : Calls Try.prog 12 #[pgV p v, .int .i64 n] w (PutPost p n w) := by
  cases h : mayB p n with
  | false => exact put_no p v n w hR h
  | true =>
    obtain ⟨N, rfl⟩ : ∃ N : Nat, n = N := ⟨n.toNat, by have := (may_iff.1 h).1; omega⟩
    exact put_yes p v N w hR h
end Go.Proofs.Ytjlmkhomedoolaa.Page
