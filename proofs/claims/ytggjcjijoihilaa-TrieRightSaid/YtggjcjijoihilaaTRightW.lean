/- The document's ways in memory: a row of them of the call's own, and whether two are the same. -/
import Derived.Test.YtggjcjijoihilaaTRightM
import Derived.Test.YtggjcjijoihilaaRefCut
import Derived.Test.YtggjcjijoihilaaRefBit
import Derived.Test.YtggjcjijoihilaaRefLists
import Derived.Test.YtggjcjijoihilaaTrieSame
import Derived.BigRegion
namespace Go.Proofs.Ytggjcjijoihilaa
open Go.RowKit Go.Sort Go.Shelf

def wl (v : List Nat) : List Value := .int .i64 (v.length : Int) :: kl (keyOf v)
def wc (v : List Nat) : Array Value := (wl v).toArray
theorem wl_length (v : List Nat) : (wl v).length = 17 := by simp [wl, kl]
theorem wc_size (v : List Nat) : (wc v).size = 17 := by simp [wc, wl_length]
theorem wl_one (v : List Nat) : ∀ x ∈ wl v, x.oneCell' = true := fun x hx => by
  rcases List.mem_cons.1 hx with rfl | h
  · rfl
  · exact kl_one _ x h
theorem wc_one (v : List Nat) : (wc v).all (·.oneCell') = true := by
  rw [Array.all_eq_true_iff_forall_mem]; intro x hx; exact wl_one v x (by simpa [wc] using hx)
def fw (vs : List (List Nat)) : List Value := vs.flatMap wl
theorem fw_cons (v : List Nat) (vs : List (List Nat)) : fw (v :: vs) = wl v ++ fw vs := by simp [fw]
theorem fw_append (a b : List (List Nat)) : fw (a ++ b) = fw a ++ fw b := by simp [fw]
theorem fw_one (v : List Nat) : fw [v] = wl v := by simp [fw]
theorem fw_at {vs : List (List Nat)} {i : Nat} {v : List Nat} (h : vs[i]? = some v) {j : Nat} (hj : j < 17) : (fw vs)[i * 17 + j]? = (wl v)[j]? := by
  induction vs generalizing i with
  | nil => simp at h
  | cons m vs ih =>
    rw [fw_cons]
    cases i with
    | zero =>
      simp at h; subst h
      rw [Nat.zero_mul, Nat.zero_add, List.getElem?_append_left (by rw [wl_length]; exact hj)]
    | succ i =>
      simp at h
      rw [List.getElem?_append_right (by rw [wl_length]; omega), wl_length, show (i + 1) * 17 + j - 17 = i * 17 + j by omega]
      exact ih h
def OwnW (w : World) (base : Nat) (v : Value) (vs : List (List Nat)) : Prop := w.ownsRow base 98 17 v vs.length (fw vs)
theorem OwnW.later {w w' : World} {base : Nat} {v : Value} {vs : List (List Nat)} (h : OwnW w base v vs) (hb : Below w.heap.size w w') : OwnW w' base v vs :=
  World.ownsRow.kept (row := none) h ⟨hb.os, hb.tape, hb.output, hb.size, fun k hk _ => hb.block k hk⟩ (by cases hv : v.ownBlock <;> simp)
theorem OwnW.form {w : World} {base : Nat} {v : Value} {vs : List (List Nat)} (h : OwnW w base v vs) (hn : 0 < vs.length) : ∃ g cap, v = .slice (some ⟨g, 0, none⟩) vs.length cap ∧ base ≤ g ∧ g < w.heap.size := by
  rcases h.2 with ⟨-, h0⟩ | ⟨g, cap, cur, h1, h2, h3, -⟩
  · omega
  · exact ⟨g, cap, h1, h2, (Array.getElem?_eq_some_iff.1 h3).1⟩
theorem OwnW.base {w : World} {b b' : Nat} {v : Value} {l : List (List Nat)} (h : OwnW w b v l) (hb : b' ≤ b) : OwnW w b' v l :=
  ⟨h.1, h.2.imp id (fun ⟨g, c, cur, h1, h2, h3⟩ => ⟨g, c, cur, h1, Nat.le_trans hb h2, h3⟩)⟩
theorem OwnW.cells {w : World} {base g n cap : Nat} {vs : List (List Nat)} (h : OwnW w base (.slice (some ⟨g, 0, none⟩) n cap) vs) (hn : n = vs.length) : CellsAt w ⟨g, 0, none⟩ (fw vs) := fun j u hu => by
  subst hn
  have hadd : (⟨g, 0, none⟩ : Addr).add j = ⟨g, j, none⟩ := by unfold Addr.add; split <;> simp_all
  have hlt : j < (fw vs).length := (List.getElem?_eq_some_iff.1 hu).1
  have hlen : (fw vs).length = vs.length * 17 := by
    clear h hu hlt
    induction vs with
    | nil => rfl
    | cons v vs ih => rw [fw_cons, List.length_append, wl_length, ih, List.length_cons]; omega
  rw [hadd, World.ownsRow.cellAt h j (by omega)]
  exact hu
theorem CellsAt.way {w : World} {a : Addr} {vs : List (List Nat)} (h : CellsAt w a (fw vs)) {i : Nat} {v : List Nat} (hv : vs[i]? = some v) : CellsAt w (a.add (i * 17)) (wl v) :=
  h.part fun j u hu => by
    have hj : j < 17 := by rw [← wl_length v]; exact (List.getElem?_eq_some_iff.1 hu).1
    rw [fw_at hv hj]; exact hu
def wayLoad (a : Addr) : Sem Value := loadVar 98 a
theorem loadVar_way (a : Addr) : loadVar 98 a = wayLoad a := rfl
def wayStore (a : Addr) (v : Value) : Sem Unit := storeVar 98 a v
theorem storeVar_way (a : Addr) (v : Value) : storeVar 98 a v = wayStore a v := rfl
def wayBuild (parts : Array (Nat × Value)) : Sem Value := Instr.build 98 parts
theorem build_way (parts : Array (Nat × Value)) : Instr.build 98 parts = wayBuild parts := rfl
def waysBuild (n : Nat) (parts : Array (Nat × Value)) : Sem Value := Instr.buildSlice 95 n parts
theorem buildSlice_ways (n : Nat) (parts : Array (Nat × Value)) : Instr.buildSlice 95 n parts = waysBuild n parts := rfl
theorem infoWay : (Try.prog.info? 98).map (fun i => (i.zero, i.size, i.bytes)) = some (some (.agg (wc [])), 17, 24) := by kernel_rfl
theorem infoWay' : ∃ i, Try.prog.info? 98 = some i ∧ i.zero = some (.agg (wc [])) ∧ i.size = 17 ∧ i.bytes = 24 := by
  obtain ⟨i, h0, h1, h2, h3⟩ := info_parts infoWay
  exact ⟨i, h0, h1, h2, h3⟩
theorem infoWay1 : (Try.prog.info? 98).map (·.size) = some 17 := by kernel_rfl
theorem run_wayLoad {w : World} {a : Addr} {v : List Nat} (h : CellsAt w a (wl v)) : (wayLoad a).run Try.prog w = .ok (.agg (wc v)) w :=
  run_load_at Try.underlying98 rfl (by rw [wl_length]; exact infoWay1) h
theorem run_wayBuild0 (w : World) : (wayBuild #[]).run Try.prog w = .ok (.agg (wc [])) w := by kernel_rfl
theorem run_wayBuildI (s : Int) (k : Nat → Nat) (w : World) : (wayBuild #[(0, .int .i64 s), (1, .agg (kc k))]).run Try.prog w = .ok (.agg (.int .i64 s :: kl k).toArray) w := by kernel_rfl
theorem run_wayBuild {s : Nat} {k : Nat → Nat} {v : List Nat} (hs : s = v.length) (hk : ∀ i, i < 16 → k i = keyOf v i) (w : World) : (wayBuild #[(0, .int .i64 (s : Nat)), (1, .agg (kc k))]).run Try.prog w = .ok (.agg (wc v)) w := by
  rw [kc_ext hk, run_wayBuildI, hs]; rfl
theorem run_waysBuild (v : List Nat) (w : World) : (waysBuild 1 #[(0, .agg (wc v))]).run Try.prog w = .ok (.slice (some ⟨w.heap.size, 0, none⟩) 1 1) (w.alloc (.cells (wc v) 98)) := by
  obtain ⟨i, h0, h1, h2, h3⟩ := infoWay'
  exact run_buildSlice w 95 98 1 _ (wc v) i _ Try.underlying95 h0 h1 (by rw [h2]; decide) (by rw [h2]; decide) (by rw [h2]; kernel_rfl)
theorem newWay (W : World) (v : List Nat) : CellsAt (W.alloc (.cells (wc v) 98)) ⟨W.heap.size, 0, none⟩ (wl v) := fun j u hu => by
  have hadd : (⟨W.heap.size, 0, none⟩ : Addr).add j = ⟨W.heap.size, j, none⟩ := by unfold Addr.add; split <;> simp_all
  rw [hadd, World.cell?_alloc_at _ _ _ _ rfl]; simpa [wc] using hu
theorem run_wayStore_new (v : List Nat) (W : World) (Z : Array Value) (hZ : Z.size = 17) : (wayStore ⟨W.heap.size, 0, none⟩ (.agg (wc v))).run Try.prog (W.alloc (.cells Z 98)) = .ok () (W.alloc (.cells (wc v) 98)) := by
  have h := run_storeVar_row (P := Try.prog) (W.alloc (.cells Z 98)) W.heap.size 98 98 Z (wc v) (Go.heap_alloc_new W _) (by rw [wc_size]; exact infoWay1) (by rw [hZ, wc_size]) (wc_one v)
  rw [World.setRow_alloc_new] at h
  exact h
theorem wc_key (v : List Nat) : (wc v).extract 1 17 = kc (keyOf v) := by
  apply Array.ext_getElem?
  intro i
  rw [Array.getElem?_extract]
  by_cases h : i < 16
  · rw [if_pos (by rw [wc_size]; omega), kc_at _ i h]
    show (wc v)[1 + i]? = _
    unfold wc wl
    rw [List.getElem?_toArray, Nat.add_comm, List.getElem?_cons_succ, kl_at _ i h]
  · rw [if_neg (by rw [wc_size]; omega), Array.getElem?_eq_none (by rw [kc_size]; omega)]
def wayEql (x y : Value) : Sem Value := binOp .eql 98 x y
theorem binOp_wayEql (x y : Value) : binOp .eql 98 x y = wayEql x y := rfl
theorem run_wayEql {u v : List Nat} (hu : Low u) (hv : Low v) (h32 : u.length ≤ 32) (w : World) : (wayEql (.agg (wc u)) (.agg (wc v))).run Try.prog w = .ok (.bool (decide (u = v))) w := by
  rw [← way_eq hu hv h32]
  unfold wayEql
  have h0 : (wc u)[0]? = some (.int .i64 (u.length : Int)) := rfl
  have h1 : (wc v)[0]? = some (.int .i64 (v.length : Int)) := rfl
  have h4 := wc_key u
  have h5 := wc_key v
  have hk := fun d => run_eqKey d (keyOf u) (keyOf v) w
  have hs : Try.prog.stoodInHeld 98 = false := by kernel_rfl
  have hf : Try.prog.underlying 98 = some (.struct (Try.prog.fieldsOf 98)) := by unfold Program.fieldsOf; rw [Try.underlying98]
  rw [run_eql_struct, run_equalIn_struct w 9999 98 _ _ hf hs]
  have hk := hk 9997
  unfold Program.fieldsOf
  rw [Try.underlying98]
  simp [Op.eqFields, part, isAgg, run_underlying Try.underlying3, run_underlying Try.underlying24, h0, h1, Sem.run_bind, run_equalIn_int w 9998 3 .i64 .i64 _ _ Try.underlying3, h4, h5, hk]
  by_cases e1 : u.length = v.length
  · rw [e1]; cases keyEq (keyOf u) (keyOf v) <;> simp
  · have e2 : ((u.length : Int) == (v.length : Int)) = false := by rw [beq_eq_false_iff_ne]; omega
    rw [e2]
    simp
    intro h; omega
end Go.Proofs.Ytggjcjijoihilaa
