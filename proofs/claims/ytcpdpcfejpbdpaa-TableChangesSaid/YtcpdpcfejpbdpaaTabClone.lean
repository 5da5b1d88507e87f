/- slices.Clone of routes: a row of the call's own that reads the same. -/
import Derived.Test.YtcpdpcfejpbdpaaTabRt
import Derived.Lib.SliceRun
import Derived.Great.BuildSlice
namespace Go.Proofs.Ytcpdpcfejpbdpaa
open Go.RowKit Go.Sort Go.Shelf
attribute [local go_sem ↓] loadVar_key loadVar_pre loadVar_route storeVar_pre

theorem infoR : (Try.prog.info? 34).map (fun i => (i.zero, i.size, i.bytes)) = some (some (.agg (rc zrt)), 19, 40) := by kernel_rfl
theorem infoR' : ∃ i, Try.prog.info? 34 = some i ∧ i.zero = some (.agg (rc zrt)) ∧ i.size = 19 ∧ i.bytes = 40 := by
  obtain ⟨i, h0, h1, h2, h3⟩ := info_parts infoR
  exact ⟨i, h0, h1, h2, h3⟩

theorem Own.later {w w' : World} {base : Nat} {v : Value} {l : List Rt} (h : Own w base v l) (hb : Below w.heap.size w w') : Own w' base v l :=
  World.ownsRow.kept (row := none) h ⟨hb.os, hb.tape, hb.output, hb.size, fun k hk _ => hb.block k hk⟩ (by cases hv : v.ownBlock <;> simp)

/-- A slice of one route, behind a name, so that the walk meets it by a fact. -/
def rowBuild (parts : Array (Nat × Value)) : Sem Value := Instr.buildSlice 22 1 parts
theorem buildSlice_row (parts : Array (Nat × Value)) : Instr.buildSlice 22 1 parts = rowBuild parts := rfl
theorem run_rowBuild (r : Rt) (w : World) : (rowBuild #[(0, .agg (rc r))]).run Try.prog w = .ok (.slice (some ⟨w.heap.size, 0, none⟩) 1 1) (w.alloc (.cells (rc r) 34)) := by
  obtain ⟨i, h0, h1, h2, h3⟩ := infoR'
  exact run_buildSlice w 22 34 1 _ (rc r) i _ Try.underlying22 h0 h1 (by rw [h2]; decide) (by rw [h2]; decide) (by rw [h2]; kernel_rfl)

/-- What a call hands back that makes a list of routes. -/
def ListPost (w : World) (l : List Rt) (e : Ending) (w' : World) : Prop := ∃ v', e = .returned v' ∧ Own w' w.heap.size v' l ∧ Below w.heap.size w w'

theorem own_made0 (w : World) : Own (w.alloc (.cells #[] 34)) w.heap.size (.slice (some ⟨w.heap.size, 0, none⟩) 0 0) [] := by
  have := World.ownsRow_made (e := 34) (size := 19) w #[] 0 (Nat.le_refl _) (Nat.zero_le _) rfl
  exact this

set_option maxHeartbeats 1000000 in
set_option maxRecDepth 100000 in
theorem clone_any (l : List Rt) (h16 : l.length ≤ 65536) (v : Value) (w : World) (hR : Rd w v l) :
    Calls Try.prog 29 #[v] w (ListPost w l) := by
  rcases hR with ⟨rfl, rfl⟩ | ⟨a, cap, rfl, hlc, hcm, hc⟩
  · have E := fun w => Lib.run_eql_slice_nil (P := Try.prog) w 22 34 none 0 0 0 0 Try.underlying22
    unfold ListPost
    go_enter Try.func29, Try.ntmps29
    go_wp2
    go_ret
    exact ⟨_, rfl, own_nil _ _, Below.refl _ _⟩
  · obtain ⟨i0, hi0, hz0, hz1, hz2⟩ := infoR'
    have H0 := Lib.hid hi0
    have H1 := Lib.hid hz0
    have H2 := Lib.hid hz1
    have H3 := Lib.hid hz2
    have hown := own_made0 w
    have hc' : CellsAt (w.alloc (.cells #[] 34)) a (fl l) := hc.later ((Below.refl _ _).alloc (Nat.le_refl _) _)
    have HC := Lib.hid hc'
    obtain ⟨n, hn⟩ : ∃ n, n = l.length := ⟨_, rfl⟩
    rw [← hn] at h16 hlc ⊢
    have HN := Lib.hid hn
    have E := fun w => Lib.run_eql_slice_nil (P := Try.prog) w 22 34 (some a) n cap 0 0 Try.underlying22
    clear hi0 hz0 hz1 hz2 hc hc' hn
    unfold ListPost
    go_enter Try.func29, Try.ntmps29
    go_wp2_with (at_builtin; refine wpList_append_own _ rfl _ _ 22 rfl w.heap.size 34 i0 (.agg (rc zrt)) 19 40 Try.underlying22 H0.out H1.out H2.out H3.out (rc_size _) (by decide) _ 0 [] rfl hown a n cap (fl l) rfl (by rw [fl_length, HN.out]) HC.out (fl_ones l) (by simp only [maxLen]; omega) (by omega) (by simp) ?_)
    intro v' w' hown' hg _
    have hb := ((Below.refl w.heap.size w).alloc (Nat.le_refl _) (.cells #[] 34)).grown hg (by simp) (fun k hk => by simp [Value.ownBlock] at hk; omega)
    go_wp2
    go_ret
    exact ⟨_, rfl, by unfold Own; rw [← HN.out]; simpa using hown', hb⟩
end Go.Proofs.Ytcpdpcfejpbdpaa
