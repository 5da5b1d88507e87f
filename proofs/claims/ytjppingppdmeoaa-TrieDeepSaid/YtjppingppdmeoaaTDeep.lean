/- The statement TrieDeep, walked: every call of it hands back true. -/
import Derived.Test.YtjppingppdmeoaaTrieAwake
import Derived.Test.YtjppingppdmeoaaTDeepP
namespace Go.Proofs.Ytjppingppdmeoaa.trieDeep
open Go.RowKit Go.Sort Go.Shelf
attribute [local go_sem ↓] loadVar_key loadVar_pre loadVar_route storeVar_pre storeVar_route loadVar_trie storeVar_trie

theorem slice_of {w : World} {base : Nat} {v : Value} {ns : List Nd} (h : OwnN w base v ns) : ∃ a cap, v = .slice a ns.length cap := by
  rcases h.2 with ⟨h1, h2⟩ | ⟨g, cap, cur, h1, -⟩
  · exact ⟨none, 0, by rw [h1, h2]⟩
  · exact ⟨_, cap, h1⟩
theorem steps_few {l : List Rt} (h : Good l) (bits : Int) : ∀ r ∈ l, r.pre.bits = bits → stepsR r ≤ 32 := fun r hr _ => by
  obtain ⟨m1, m2, m3, -⟩ := (mayB_iff r.pre r.hk).1 (h.may r hr)
  unfold stepsR lastN
  omega

set_option maxHeartbeats 2000000 in
set_option maxRecDepth 100000 in
theorem walk_bad (l : List Rt) (bits : Int) (v : Value) (w : World) (hR : Rd w v l) (hl : l.length ≤ 60) (hr : rightB l = true) (er : Int) (he : (er != 0) = true) (hb : buildL l bits = (0, [], er)) :
    Calls Try.prog 8 #[v, .int .i64 bits] w fun e w' => e = .returned (.bool true) ∧ Below w.heap.size w w' := by
  have H1 := Lib.hid (awake4_any w)
  have H2 : Hid (∀ W, Rd W v l → Calls Try.prog 15 #[v] W fun e w' => e = .returned (.bool true) ∧ Below W.heap.size W w') := fun W h => by
    have := right_any l v W h
    rw [hr] at this; exact this
  have H3 : Hid (∀ W, Rd W v l → Calls Try.prog 25 #[v, .int .i64 bits] W (BuildPost W (0, [], er))) := fun W h => by
    have := build_any l bits v W h
    rw [hb] at this; exact this
  unfold BuildPost at H3
  have HR := Lib.hid hR
  obtain ⟨a, cap, hv, -⟩ := rd_len hR
  obtain ⟨n, hn⟩ : ∃ n, n = l.length := ⟨_, rfl⟩
  rw [← hn] at hv hl
  have hnI : (n : Int) ≤ 60 := by omega
  subst hv
  clear hR hr hb hn hl
  go_enter Try.func8, Try.ntmps8
  go_wp2_with fail
  refine H1.out.mono ?_
  rintro e1 w1 ⟨rfl, h1⟩
  have B1 := Lib.hid h1
  clear h1
  go_wp2_with fail
  refine (H2.out _ (HR.out.later B1.out)).mono ?_
  rintro e2 w2 ⟨rfl, h2⟩
  have B2 := Lib.hid (B1.out.trans (h2.mono B1.out.size))
  clear h2
  go_wp2_with fail
  refine (H3.out _ (HR.out.later B2.out)).mono ?_
  rintro e3 w3 ⟨v3, rfl, ho, h3⟩
  obtain ⟨a3, c3, hv3⟩ := slice_of ho
  have hv4 : v3 = .slice a3 0 c3 := hv3
  subst hv4
  have st := run_trieStore_new 0 (.slice a3 0 c3) rfl w3
  have hbx := Go.heap_alloc_new w3 (.cells (tc 0 (.slice a3 0 c3)) 52)
  have hc : (w3.alloc (.cells (tc 0 (.slice a3 0 c3)) 52)).cell? ⟨w3.heap.size, 1, none⟩ = some (.slice a3 0 c3) := by rw [cell_of hbx]; rfl
  have hal : Below w3.heap.size w3 (w3.alloc (.cells (tc 0 (.slice a3 0 c3)) 52)) := (Below.refl _ _).alloc (Nat.le_refl _) _
  have hb3 := B2.out.trans (h3.mono B2.out.size)
  have FIN := Lib.hid (hb3.trans (hal.mono hb3.size))
  clear ho h3 hv3 hbx hal hb3
  go_wp2
  go_ret
  exact ⟨rfl, FIN.out⟩

set_option maxHeartbeats 2000000 in
set_option maxRecDepth 100000 in
theorem walk_good (l : List Rt) (bits : Int) (v : Value) (w : World) (hR : Rd w v l) (hl : l.length ≤ 60) (hr : rightB l = true) (hk : mayB (keysP bits) = true) (hf : (treeL l bits).ws.length ≤ 512) :
    Calls Try.prog 8 #[v, .int .i64 bits] w fun e w' => e = .returned (.bool true) ∧ Below w.heap.size w w' := by
  have hg := ((right_iff l).1 hr).2
  have H1 := Lib.hid (awake4_any w)
  have H2 : Hid (∀ W, Rd W v l → Calls Try.prog 15 #[v] W fun e w' => e = .returned (.bool true) ∧ Below W.heap.size W w') := fun W h => by
    have := right_any l v W h
    rw [hr] at this; exact this
  have hb : buildL l bits = (bits, (treeL l bits).nodes, 0) := by unfold buildL; rw [if_pos ⟨hr, hk⟩, if_pos hf]
  have H3 : Hid (∀ W, Rd W v l → Calls Try.prog 25 #[v, .int .i64 bits] W (BuildPost W (bits, (treeL l bits).nodes, 0))) := fun W h => by
    have := build_any l bits v W h
    rw [hb] at this; exact this
  unfold BuildPost at H3
  have hS := stands_of hr hk hf
  obtain ⟨p1, p2, p3⟩ := tree_deep l bits
  have hN : (treeL l bits).nodes.length = (treeL l bits).ws.length := Tr.nodes_length _
  have hpos := hS.ok.pos
  have hdf := deepA_few bits
  have haf := allA_few bits
  have hsf := steps_few hg bits
  obtain ⟨T, hT⟩ : ∃ T, treeL l bits = T := ⟨_, rfl⟩
  rw [hT] at hf H3 hS p1 p2 p3 hN hpos
  have H4 : Hid (∀ W u base, OwnN W base u T.nodes → Calls Try.prog 32 #[.agg (tc bits u)] W fun e w' => e = .returned (.int .i64 (deepA bits 1 l : Nat)) ∧ Below W.heap.size W w') := fun W u base h => by
    have := deep_any T bits hS u W (h.rd (by rw [hN]; exact hpos))
    rw [p1] at this; exact this
  have HR := Lib.hid hR
  obtain ⟨a, cap, hv, -⟩ := rd_len hR
  obtain ⟨n, hn⟩ : ∃ n, n = l.length := ⟨_, rfl⟩
  rw [← hn] at hv hl
  have hnI : (n : Int) ≤ 60 := by omega
  have HLN := Lib.hid hn
  have HLL : Hid (n ≤ 60) := hl
  have HGD := Lib.hid hg
  have HDF : Hid (∀ i, deepA bits 1 (l.take i) ≤ 32 ∧ allA bits 1 (l.take i) ≤ 2000) := fun i => by
    have h1 := hdf (l.take i) 32 (fun r hr => hsf r (List.mem_of_mem_take hr)) 1 (by omega)
    have h2 := haf (l.take i) 32 (fun r hr => hsf r (List.mem_of_mem_take hr)) 1
    have h3 : (l.take i).length ≤ 60 := by rw [List.length_take]; omega
    exact ⟨h1, by omega⟩
  obtain ⟨N, hNN⟩ : ∃ N, T.ws.length = N := ⟨_, rfl⟩
  rw [hNN] at hf p2 p3 hN hpos
  have HP2 := Lib.hid p2
  have HP3 := Lib.hid p3
  have HN := Lib.hid hN
  have HPS := Lib.hid hpos
  have hNI : (N : Int) ≤ 512 := by omega
  subst hv
  clear hR hr hb hn hl hS hdf haf hsf hT hf p1 p2 p3 hN hpos hNN hk hg
  go_enter Try.func8, Try.ntmps8
  go_wp2_with fail
  refine H1.out.mono ?_
  rintro e1 w1 ⟨rfl, h1⟩
  have B1 := Lib.hid h1
  clear h1
  go_wp2_with fail
  refine (H2.out _ (HR.out.later B1.out)).mono ?_
  rintro e2 w2 ⟨rfl, h2⟩
  have B2 := Lib.hid (B1.out.trans (h2.mono B1.out.size))
  clear h2
  go_wp2_with fail
  refine (H3.out _ (HR.out.later B2.out)).mono ?_
  rintro e3 w3 ⟨v3, rfl, ho, h3⟩
  obtain ⟨g, c3, hv3, -, -⟩ := ho.form (by rw [HN.out]; exact HPS.out)
  rw [HN.out] at hv3
  subst hv3
  have st := run_trieStore_new bits (.slice (some ⟨g, 0, none⟩) N c3) rfl w3
  have hbx := Go.heap_alloc_new w3 (.cells (tc bits (.slice (some ⟨g, 0, none⟩) N c3)) 52)
  have hal : Below w3.heap.size w3 (w3.alloc (.cells (tc bits (.slice (some ⟨g, 0, none⟩) N c3)) 52)) := (Below.refl _ _).alloc (Nat.le_refl _) _
  obtain ⟨w4, hw4⟩ : ∃ w4, w3.alloc (.cells (tc bits (.slice (some ⟨g, 0, none⟩) N c3)) 52) = w4 := ⟨_, rfl⟩
  have ho4 := ho.later hal
  obtain ⟨b, hb⟩ : ∃ b, w3.heap.size = b := ⟨_, rfl⟩
  have hb3 := B2.out.trans (h3.mono B2.out.size)
  have hb4 := hb3.trans (hal.mono hb3.size)
  rw [hw4] at hbx ho4 st hb4
  rw [hb] at hbx st
  have HB4 := Lib.hid hb4
  have HO4 := Lib.hid ho4
  have HBX := Lib.hid hbx
  clear ho h3 hal hb3 hb4 ho4 hbx
  go_wp2
  clear st hw4 hb
  go_loopw [7, 8, 9, 10] (fun d a' t9 _ wr => ∃ i : Nat, i ≤ n ∧ t9 = .int .i64 i ∧ d = .int .i64 (deepA bits 1 (l.take i) : Nat) ∧ a' = .int .i64 (allA bits 1 (l.take i) : Nat) ∧ wr = w4) (fun _ _ t9 _ _ => n - (intOf t9).toNat)
  case atStart => exact ⟨0, Nat.zero_le _, rfl, rfl, rfl, rfl⟩
  case round =>
    obtain ⟨i, hi, rfl, rfl, rfl, rfl⟩ := hrel
    by_cases hlt : i < n
    · have hltI : (i : Int) < n := by omega
      have hi0 : (0 : Int) ≤ i := by omega
      obtain ⟨r, hrr⟩ : ∃ r, l[i]? = some r := ⟨l[i]'(by rw [← HLN.out]; exact hlt), List.getElem?_eq_getElem _⟩
      obtain ⟨a', rfl, hca⟩ : ∃ a', a = some a' ∧ CellsAt wr a' (fl l) := by
        rcases HR.out.later HB4.out with ⟨h, hnil⟩ | ⟨a', cap', h, _, _, hc⟩
        · exfalso; rw [hnil] at hrr; cases hrr
        · simp only [Value.slice.injEq] at h
          exact ⟨a', h.1, hc⟩
      have hc := hca.route hrr
      have htake : l.take (i + 1) = l.take i ++ [r] := by rw [List.take_add_one, hrr]; rfl
      have HS1 : Hid (deepA bits 1 (l.take (i + 1)) = if r.pre.bits = bits then max (deepA bits 1 (l.take i)) (stepsR r) else deepA bits 1 (l.take i)) := by show _ = _; rw [htake, deepA_snoc]
      have HS2 : Hid (allA bits 1 (l.take (i + 1)) = if r.pre.bits = bits then allA bits 1 (l.take i) + (stepsR r - 1) else allA bits 1 (l.take i)) := by show _ = _; rw [htake, allA_snoc]
      obtain ⟨hd32, ha2⟩ := HDF.out i
      obtain ⟨m1, m2, m3, -⟩ := (mayB_iff r.pre r.hk).1 (HGD.out.may r (List.mem_of_getElem? hrr))
      obtain ⟨d, hd⟩ : ∃ d, deepA bits 1 (l.take i) = d := ⟨_, rfl⟩
      obtain ⟨al, hal⟩ : ∃ al, allA bits 1 (l.take i) = al := ⟨_, rfl⟩
      rw [hd] at hd32 HS1 ⊢
      rw [hal] at ha2 HS2 ⊢
      have k1 : wr.cell? (a'.add (i * 19)) = some (.int .i64 r.pre.bits) := by
        have := hc 0 _ (by rw [show (rl r)[0]? = some (.int .i64 r.pre.bits) from by have := rc_pre r 0 (by omega); rw [pc_bits] at this; simpa [rc] using this])
        rw [show (a'.add (i * 19)).add 0 = a'.add (i * 19) from by unfold Addr.add; exact if_pos rfl] at this
        exact this
      obtain ⟨L, hL⟩ : ∃ L : Nat, r.pre.len = L := ⟨r.pre.len.toNat, by omega⟩
      have k2 : wr.cell? ⟨(a'.add (i * 19)).block, (a'.add (i * 19)).off + 1, none⟩ = some (.int .i64 (L : Nat)) := by
        rw [← hL]
        have := hc 1 _ (by rw [show (rl r)[1]? = some (.int .i64 r.pre.len) from by have := rc_pre r 1 (by omega); rw [pc_len] at this; simpa [rc] using this])
        exact this
      have hL128 : L ≤ 128 := by omega
      have hLI : (L : Int) ≤ 128 := by omega
      have hL0 : (0 : Int) ≤ L := by omega
      obtain ⟨s, hs⟩ : ∃ s, stepsR r = s := ⟨_, rfl⟩
      have hs2 : s = (L - 1) / 4 + 1 := by rw [← hs]; unfold stepsR lastN; rw [hL]; simp
      rw [hs] at HS1 HS2
      obtain ⟨Q, hQ⟩ : ∃ Q, Q = (L + 3) / 4 := ⟨_, rfl⟩
      have hdI : (d : Int) ≤ 32 := by omega
      have haI : (al : Int) ≤ 2000 := by omega
      have hd0 : (0 : Int) ≤ d := by omega
      have ha0 : (0 : Int) ≤ al := by omega
      have hs33 : s ≤ 33 := by omega
      have hsI : (s : Int) ≤ 33 := by omega
      have hs1 : (1 : Int) ≤ s := by omega
      have hm2 : max (d : Int) (s : Int) = ((max d s : Nat) : Int) := by omega
      have hsub : (s : Int) - 1 = ((s - 1 : Nat) : Int) := by omega
      have hQs : max (Q : Int) 1 = (s : Int) := by omega
      have hwq : wrap64 (Q : Int) = (Q : Int) := by clear hm2 hQs hsub; unfold wrap64; omega
      have hquo : Int.tdiv ((L : Int) + 3) 4 = (Q : Nat) := by rw [hQ]; rfl
      clear hc hca hrr htake m1 m2 m3 hL hs hs2 hQ hd hal
      by_cases hbt : r.pre.bits = bits
      · have hq1 : (r.pre.bits == bits) = true := by rw [beq_iff_eq]; exact hbt
        have HE1 := Lib.hid HS1.out
        have e1 : Hid (deepA bits 1 (l.take (i + 1)) = max d s) := by show _ = _; rw [HS1.out, if_pos hbt]
        have e2 : Hid (allA bits 1 (l.take (i + 1)) = al + (s - 1)) := by show _ = _; rw [HS2.out, if_pos hbt]
        clear hbt
        go_wp2
        go_roundw
        case rel => exact ⟨i + 1, by omega, by go_num, by rw [e1.out], by rw [e2.out]; rfl, by first | trivial | rfl⟩
        case measure => simp [intOf]; omega
      · have hq1 : (r.pre.bits == bits) = false := by rw [beq_eq_false_iff_ne]; exact hbt
        have e1 : Hid (deepA bits 1 (l.take (i + 1)) = d) := by show _ = _; rw [HS1.out, if_neg hbt]
        have e2 : Hid (allA bits 1 (l.take (i + 1)) = al) := by show _ = _; rw [HS2.out, if_neg hbt]
        clear hbt
        go_wp2
        go_roundw
        case rel => exact ⟨i + 1, by omega, by go_num, by rw [e1.out], by rw [e2.out], by first | trivial | rfl⟩
        case measure => simp [intOf]; omega
    · obtain rfl : i = n := by omega
      have hall : l.take i = l := List.take_of_length_le (by rw [← HLN.out]; exact Nat.le_refl _)
      rw [hall]
      clear hall
      obtain ⟨d, hd⟩ : ∃ d, deepA bits 1 l = d := ⟨_, rfl⟩
      obtain ⟨al, hal⟩ : ∃ al, allA bits 1 l = al := ⟨_, rfl⟩
      rw [hd] at HP3 H4 ⊢
      rw [hal] at HP2 ⊢
      have hle : (N : Int) ≤ al := by have := HP2.out; omega
      have hge : (d : Int) ≤ N := by have := HP3.out; omega
      have lt := run_trieLoad HBX.out
      have HC4 := Lib.hid (H4.out wr _ _ HO4.out)
      clear hd hal
      go_wp2_with fail
      refine HC4.out.mono ?_
      rintro e5 w5 ⟨rfl, h5⟩
      have hc5 : w5.cell? ⟨b, 1, none⟩ = some (.slice (some ⟨g, 0, none⟩) N c3) := by
        rw [cell_of ((h5.block _ (Array.getElem?_eq_some_iff.1 HBX.out).1).trans HBX.out)]; rfl
      have FIN := Lib.hid (HB4.out.trans (h5.mono HB4.out.size))
      clear lt h5
      go_wp2
      go_ret
      exact ⟨rfl, FIN.out⟩

set_option maxHeartbeats 1000000 in
set_option maxRecDepth 100000 in
theorem walk_no (l : List Rt) (n : Nat) (bits : Int) (a : Option Addr) (cap : Nat) (w : World) (hR : Rd w (.slice a n cap) l) (hn : n ≤ maxLen) (hno : ¬ n ≤ 60 ∨ rightB l = false) :
    Calls Try.prog 8 #[.slice a n cap, .int .i64 bits] w fun e w' => e = .returned (.bool true) ∧ Below w.heap.size w w' := by
  have H1 := Lib.hid (awake4_any w)
  have HR := Lib.hid hR
  unfold maxLen at hn
  by_cases h1 : n ≤ 60
  · have h1I : (n : Int) ≤ 60 := by omega
    have hr : rightB l = false := hno.resolve_left (fun h => h h1)
    have H2 : Hid (∀ W, Rd W (.slice a n cap) l → Calls Try.prog 15 #[.slice a n cap] W fun e w' => e = .returned (.bool false) ∧ Below W.heap.size W w') := fun W h => by
      have := right_any l _ W h
      rw [hr] at this; exact this
    clear hno hr h1 hn hR
    go_enter Try.func8, Try.ntmps8
    go_wp2_with fail
    refine H1.out.mono ?_
    rintro e1 w1 ⟨rfl, h1⟩
    have HW1 := Lib.hid h1
    clear h1
    go_wp2_with fail
    refine (H2.out _ (HR.out.later HW1.out)).mono ?_
    rintro e1 w2 ⟨rfl, h2⟩
    have HW2 : Hid (Below w.heap.size w w2) := HW1.out.trans (h2.mono HW1.out.size)
    clear h2
    go_wp2
    go_ret
    exact ⟨rfl, HW2.out⟩
  · have h1I : (60 : Int) < n := by omega
    clear hno h1 hn hR
    go_enter Try.func8, Try.ntmps8
    go_wp2_with fail
    refine H1.out.mono ?_
    rintro e1 w1 ⟨rfl, h1⟩
    have HW1 := Lib.hid h1
    clear h1
    go_wp2
    go_ret
    exact ⟨rfl, HW1.out⟩

theorem walkAll (l : List Rt) (bits : Int) (v : Value) (w : World) (hR : Rd w v l) :
    Calls Try.prog 8 #[v, .int .i64 bits] w fun e w' => e = .returned (.bool true) ∧ Below w.heap.size w w' := by
  by_cases h : l.length ≤ 60 ∧ rightB l = true
  · obtain ⟨h1, h2⟩ := h
    cases hk : mayB (keysP bits) with
    | false => exact walk_bad l bits v w hR h1 h2 1 rfl (by unfold buildL; rw [if_neg (by rw [hk]; simp)])
    | true =>
      by_cases hf : (treeL l bits).ws.length ≤ 512
      · exact walk_good l bits v w hR h1 h2 hk hf
      · exact walk_bad l bits v w hR h1 h2 5 rfl (by unfold buildL; rw [if_pos ⟨h2, hk⟩, if_neg hf])
  · obtain ⟨a, cap, hv, h1⟩ := rd_len hR
    have hno : ¬ l.length ≤ 60 ∨ rightB l = false := by
      by_cases g : l.length ≤ 60
      · exact .inr (by cases h2 : rightB l with
          | false => rfl
          | true => exact absurd ⟨g, h2⟩ h)
      · exact .inl g
    rw [hv] at hR
    rw [hv]
    exact walk_no l _ bits a cap w hR h1 hno
end Go.Proofs.Ytjppingppdmeoaa.trieDeep
