/- slices.Clone, bytes.Clone of faults, blocks, pages, bytes: rows of the call's own that read the same. -/
import Derived.Test.YtilgppijmkcomaaChipRight
import Derived.Lib.SliceRun
import Derived.Great.BuildSlice
namespace Go.Proofs.Ytilgppijmkcomaa.Chip
open Go.RowKit Go.Sort Go.Shelf

/-- What a call hands back that makes a row. -/
def RowPost (E : TypeId) (size : Nat) (w : World) (n : Nat) (cs : List Value) (e : Ending) (w' : World) : Prop := ∃ v', e = .returned v' ∧ w'.ownsRow w.heap.size E size v' n cs ∧ Below w.heap.size w w'
def Ones (cs : List Value) : Prop := ∀ u ∈ cs, u.oneCell' = true
theorem flAll_ones (fs : List Flt) : Ones (flAll fs) := fun u hu => by
  obtain ⟨f, -, h⟩ := List.mem_flatMap.1 hu
  simp only [flC, List.mem_cons, List.not_mem_nil, or_false] at h
  rcases h with rfl | rfl | rfl | rfl <;> rfl
theorem bkAll_ones : ∀ (xs : List Value) (bs : List Blk), Ones xs → Ones (bkAll xs bs)
  | x :: xs, b :: bs, h, u, hu => by
    rcases List.mem_append.1 hu with h1 | h1
    · simp only [bkC, List.mem_cons, List.not_mem_nil, or_false] at h1
      rcases h1 with rfl | rfl | rfl | rfl
      · exact h u List.mem_cons_self
      all_goals rfl
    · exact bkAll_ones xs bs (fun v hv => h v (List.mem_cons_of_mem _ hv)) u h1
  | [], _, _, u, hu => by simp [bkAll] at hu
  | _ :: _, [], _, u, hu => by simp [bkAll] at hu
theorem f2_ones {R : Value → List UInt8 → Prop} {us : List Value} {ps : List (List UInt8)} (h : F2 R us ps) (hR : ∀ v l, R v l → v.oneCell' = true) : Ones us := fun u hu => by
  obtain ⟨i, hi⟩ := List.mem_iff_getElem?.1 hu
  obtain ⟨b, -, h2⟩ := f2_right h hi
  exact hR _ _ h2
theorem f2_ones' {R : Value → Blk → Prop} {us : List Value} {ps : List Blk} (h : F2 R us ps) (hR : ∀ v l, R v l → v.oneCell' = true) : Ones us := fun u hu => by
  obtain ⟨i, hi⟩ := List.mem_iff_getElem?.1 hu
  obtain ⟨b, -, h2⟩ := f2_right h hi
  exact hR _ _ h2
theorem rdB_one {w : World} {v : Value} {l : List UInt8} (h : RdB w v l) : v.oneCell' = true := by
  obtain ⟨a, cap, rfl, -⟩ := h; rfl
theorem rdRow_one {w : World} {v : Value} {n : Nat} {cs : List Value} (h : RdRow w v n cs) : v.oneCell' = true := by
  obtain ⟨a, cap, rfl, -⟩ := h; rfl
theorem rdP_one {w : World} {v : Value} {ps : List (List UInt8)} (h : RdP w v ps) : v.oneCell' = true := by
  obtain ⟨us, -, h⟩ := h; exact rdRow_one h

theorem infoF : (Try.prog.info? 56).map (fun i => (i.zero, i.size, i.bytes)) = some (some (.agg #[.int .i64 0, .bool false, .bool false, .int .u8 0]), 4, 16) := by kernel_rfl
set_option maxHeartbeats 1000000 in
set_option maxRecDepth 100000 in
theorem cloneF_any (n : Nat) (cs : List Value) (hcs : cs.length = n * 4) (h1 : Ones cs) (h16 : n ≤ 65536) (v : Value) (w : World) (hR : RdRow w v n cs) :
    Calls Try.prog 19 #[v] w (RowPost 56 4 w n cs) := by
  obtain ⟨a, cap, rfl, hlc, hcm, hnil, hc⟩ := hR
  cases a with
  | none =>
    have hz := hnil rfl
    subst hz
    obtain rfl : n = 0 := by omega
    obtain rfl : cs = [] := List.length_eq_zero_iff.1 (by omega)
    have E := fun w => Lib.run_eql_slice_nil (P := Try.prog) w 22 56 none 0 0 0 0 Try.underlying22
    unfold RowPost
    clear hnil hc hlc hcm hcs
    go_enter Try.func19, Try.ntmps19
    go_wp2
    go_ret
    exact ⟨_, rfl, World.ownsRow_nil _ _ _ _, Below.refl _ _⟩
  | some a =>
    obtain ⟨i0, hi0, hz0, hz1, hz2⟩ := info_parts infoF
    have H0 := Lib.hid hi0
    have H1 := Lib.hid hz0
    have H2 := Lib.hid hz1
    have H3 := Lib.hid hz2
    have HL := Lib.hid hcs
    have hown : (w.alloc (.cells #[] 56)).ownsRow w.heap.size 56 4 (.slice (some ⟨w.heap.size, 0, none⟩) 0 0) 0 [] := by
      have := World.ownsRow_made (e := 56) (size := 4) w #[] 0 (Nat.le_refl _) (Nat.zero_le _) rfl
      exact this
    have hc' : ∀ (j : Nat) u, cs[j]? = some u → (w.alloc (.cells #[] 56)).cell? (a.add j) = some u := fun j u hu => keep_cell (hc a rfl j u hu) ((Below.refl _ _).alloc (Nat.le_refl _) _)
    have HC := Lib.hid hc'
    have HO := Lib.hid h1
    have E := fun w => Lib.run_eql_slice_nil (P := Try.prog) w 22 56 (some a) n cap 0 0 Try.underlying22
    clear hi0 hz0 hz1 hz2 hc hc' hnil hcs h1
    unfold RowPost
    go_enter Try.func19, Try.ntmps19
    go_wp2_with (at_builtin; refine wpList_append_own _ rfl _ _ 22 rfl w.heap.size 56 i0 (.agg #[.int .i64 0, .bool false, .bool false, .int .u8 0]) 4 16 Try.underlying22 H0.out H1.out H2.out H3.out rfl (by decide) _ 0 [] rfl hown a n cap cs rfl HL.out HC.out HO.out (by simp only [maxLen]; omega) (by omega) (by simp) ?_)
    intro v' w' hown' hg _
    have hb := ((Below.refl w.heap.size w).alloc (Nat.le_refl _) (.cells #[] 56)).grown hg (by simp) (fun k hk => by simp [Value.ownBlock] at hk; omega)
    go_wp2
    go_ret
    exact ⟨_, rfl, by simpa using hown', hb⟩

theorem infoK : (Try.prog.info? 40).map (fun i => (i.zero, i.size, i.bytes)) = some (some (.agg #[.slice none 0 0, .int .i64 0, .int .i64 0, .bool false]), 4, 48) := by kernel_rfl
set_option maxHeartbeats 1000000 in
set_option maxRecDepth 100000 in
theorem cloneK_any (n : Nat) (cs : List Value) (hcs : cs.length = n * 4) (h1 : Ones cs) (h16 : n ≤ 65536) (v : Value) (w : World) (hR : RdRow w v n cs) :
    Calls Try.prog 31 #[v] w (RowPost 40 4 w n cs) := by
  obtain ⟨a, cap, rfl, hlc, hcm, hnil, hc⟩ := hR
  cases a with
  | none =>
    have hz := hnil rfl
    subst hz
    obtain rfl : n = 0 := by omega
    obtain rfl : cs = [] := List.length_eq_zero_iff.1 (by omega)
    have E := fun w => Lib.run_eql_slice_nil (P := Try.prog) w 25 40 none 0 0 0 0 Try.underlying25
    unfold RowPost
    clear hnil hc hlc hcm hcs
    go_enter Try.func31, Try.ntmps31
    go_wp2
    go_ret
    exact ⟨_, rfl, World.ownsRow_nil _ _ _ _, Below.refl _ _⟩
  | some a =>
    obtain ⟨i0, hi0, hz0, hz1, hz2⟩ := info_parts infoK
    have H0 := Lib.hid hi0
    have H1 := Lib.hid hz0
    have H2 := Lib.hid hz1
    have H3 := Lib.hid hz2
    have HL := Lib.hid hcs
    have hown : (w.alloc (.cells #[] 40)).ownsRow w.heap.size 40 4 (.slice (some ⟨w.heap.size, 0, none⟩) 0 0) 0 [] := by
      have := World.ownsRow_made (e := 40) (size := 4) w #[] 0 (Nat.le_refl _) (Nat.zero_le _) rfl
      exact this
    have hc' : ∀ (j : Nat) u, cs[j]? = some u → (w.alloc (.cells #[] 40)).cell? (a.add j) = some u := fun j u hu => keep_cell (hc a rfl j u hu) ((Below.refl _ _).alloc (Nat.le_refl _) _)
    have HC := Lib.hid hc'
    have HO := Lib.hid h1
    have E := fun w => Lib.run_eql_slice_nil (P := Try.prog) w 25 40 (some a) n cap 0 0 Try.underlying25
    clear hi0 hz0 hz1 hz2 hc hc' hnil hcs h1
    unfold RowPost
    go_enter Try.func31, Try.ntmps31
    go_wp2_with (at_builtin; refine wpList_append_own _ rfl _ _ 25 rfl w.heap.size 40 i0 (.agg #[.slice none 0 0, .int .i64 0, .int .i64 0, .bool false]) 4 48 Try.underlying25 H0.out H1.out H2.out H3.out rfl (by decide) _ 0 [] rfl hown a n cap cs rfl HL.out HC.out HO.out (by simp only [maxLen]; omega) (by omega) (by simp) ?_)
    intro v' w' hown' hg _
    have hb := ((Below.refl w.heap.size w).alloc (Nat.le_refl _) (.cells #[] 40)).grown hg (by simp) (fun k hk => by simp [Value.ownBlock] at hk; omega)
    go_wp2
    go_ret
    exact ⟨_, rfl, by simpa using hown', hb⟩

theorem infoU : (Try.prog.info? 42).map (fun i => (i.zero, i.size, i.bytes)) = some (some (.slice none 0 0), 1, 24) := by kernel_rfl
set_option maxHeartbeats 1000000 in
set_option maxRecDepth 100000 in
theorem cloneU_any (n : Nat) (cs : List Value) (hcs : cs.length = n * 1) (h1 : Ones cs) (h16 : n ≤ 65536) (v : Value) (w : World) (hR : RdRow w v n cs) :
    Calls Try.prog 32 #[v] w (RowPost 42 1 w n cs) := by
  obtain ⟨a, cap, rfl, hlc, hcm, hnil, hc⟩ := hR
  cases a with
  | none =>
    have hz := hnil rfl
    subst hz
    obtain rfl : n = 0 := by omega
    obtain rfl : cs = [] := List.length_eq_zero_iff.1 (by omega)
    have E := fun w => Lib.run_eql_slice_nil (P := Try.prog) w 38 42 none 0 0 0 0 Try.underlying38
    unfold RowPost
    clear hnil hc hlc hcm hcs
    go_enter Try.func32, Try.ntmps32
    go_wp2
    go_ret
    exact ⟨_, rfl, World.ownsRow_nil _ _ _ _, Below.refl _ _⟩
  | some a =>
    obtain ⟨i0, hi0, hz0, hz1, hz2⟩ := info_parts infoU
    have H0 := Lib.hid hi0
    have H1 := Lib.hid hz0
    have H2 := Lib.hid hz1
    have H3 := Lib.hid hz2
    have HL := Lib.hid hcs
    have hown : (w.alloc (.cells #[] 42)).ownsRow w.heap.size 42 1 (.slice (some ⟨w.heap.size, 0, none⟩) 0 0) 0 [] := by
      have := World.ownsRow_made (e := 42) (size := 1) w #[] 0 (Nat.le_refl _) (Nat.zero_le _) rfl
      exact this
    have hc' : ∀ (j : Nat) u, cs[j]? = some u → (w.alloc (.cells #[] 42)).cell? (a.add j) = some u := fun j u hu => keep_cell (hc a rfl j u hu) ((Below.refl _ _).alloc (Nat.le_refl _) _)
    have HC := Lib.hid hc'
    have HO := Lib.hid h1
    have E := fun w => Lib.run_eql_slice_nil (P := Try.prog) w 38 42 (some a) n cap 0 0 Try.underlying38
    clear hi0 hz0 hz1 hz2 hc hc' hnil hcs h1
    unfold RowPost
    go_enter Try.func32, Try.ntmps32
    go_wp2_with (at_builtin; refine wpList_append_own _ rfl _ _ 38 rfl w.heap.size 42 i0 (.slice none 0 0) 1 24 Try.underlying38 H0.out H1.out H2.out H3.out rfl (by decide) _ 0 [] rfl hown a n cap cs rfl HL.out HC.out HO.out (by simp only [maxLen]; omega) (by omega) (by simp) ?_)
    intro v' w' hown' hg _
    have hb := ((Below.refl w.heap.size w).alloc (Nat.le_refl _) (.cells #[] 42)).grown hg (by simp) (fun k hk => by simp [Value.ownBlock] at hk; omega)
    go_wp2
    go_ret
    exact ⟨_, rfl, by simpa using hown', hb⟩

theorem infoY : (Try.prog.info? 5).map (fun i => (i.zero, i.size, i.bytes)) = some (some (.int .u8 0), 1, 1) := by kernel_rfl
set_option maxHeartbeats 1000000 in
set_option maxRecDepth 100000 in
theorem cloneY_any (n : Nat) (cs : List Value) (hcs : cs.length = n * 1) (h1 : Ones cs) (h16 : n ≤ 65536) (v : Value) (w : World) (hR : RdRow w v n cs) :
    Calls Try.prog 24 #[v] w (RowPost 5 1 w n cs) := by
  obtain ⟨a, cap, rfl, hlc, hcm, hnil, hc⟩ := hR
  cases a with
  | none =>
    have hz := hnil rfl
    subst hz
    obtain rfl : n = 0 := by omega
    obtain rfl : cs = [] := List.length_eq_zero_iff.1 (by omega)
    have E := fun w => Lib.run_eql_slice_nil (P := Try.prog) w 42 5 none 0 0 0 0 Try.underlying42
    unfold RowPost
    clear hnil hc hlc hcm hcs
    go_enter Try.func24, Try.ntmps24
    go_wp2
    go_ret
    exact ⟨_, rfl, World.ownsRow_nil _ _ _ _, Below.refl _ _⟩
  | some a =>
    obtain ⟨i0, hi0, hz0, hz1, hz2⟩ := info_parts infoY
    have H0 := Lib.hid hi0
    have H1 := Lib.hid hz0
    have H2 := Lib.hid hz1
    have H3 := Lib.hid hz2
    have HL := Lib.hid hcs
    have hown : (w.alloc (.cells #[] 5)).ownsRow w.heap.size 5 1 (.slice (some ⟨w.heap.size, 0, none⟩) 0 0) 0 [] := by
      have := World.ownsRow_made (e := 5) (size := 1) w #[] 0 (Nat.le_refl _) (Nat.zero_le _) rfl
      exact this
    have hc' : ∀ (j : Nat) u, cs[j]? = some u → (w.alloc (.cells #[] 5)).cell? (a.add j) = some u := fun j u hu => keep_cell (hc a rfl j u hu) ((Below.refl _ _).alloc (Nat.le_refl _) _)
    have HC := Lib.hid hc'
    have HO := Lib.hid h1
    have E := fun w => Lib.run_eql_slice_nil (P := Try.prog) w 42 5 (some a) n cap 0 0 Try.underlying42
    clear hi0 hz0 hz1 hz2 hc hc' hnil hcs h1
    unfold RowPost
    go_enter Try.func24, Try.ntmps24
    go_wp2_with (at_builtin; refine wpList_append_own _ rfl _ _ 42 rfl w.heap.size 5 i0 (.int .u8 0) 1 1 Try.underlying42 H0.out H1.out H2.out H3.out rfl (by decide) _ 0 [] rfl hown a n cap cs rfl HL.out HC.out HO.out (by simp only [maxLen]; omega) (by omega) (by simp) ?_)
    intro v' w' hown' hg _
    have hb := ((Below.refl w.heap.size w).alloc (Nat.le_refl _) (.cells #[] 5)).grown hg (by simp) (fun k hk => by simp [Value.ownBlock] at hk; omega)
    go_wp2
    go_ret
    exact ⟨_, rfl, by simpa using hown', hb⟩
end Go.Proofs.Ytilgppijmkcomaa.Chip
