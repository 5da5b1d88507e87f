/- table.Best: of all routes that cover a whole key the last one. -/
import Derived.Test.YtggjcjijoihilaaTabBack
import Derived.Test.YtggjcjijoihilaaTabPlace
import Derived.Test.YtggjcjijoihilaaKeyMay
namespace Go.Proofs.Ytggjcjijoihilaa
open Go.RowKit Go.Sort Go.Shelf
attribute [local go_sem ↓] loadVar_key loadVar_pre loadVar_route storeVar_pre storeVar_route

/-- Composites of whole structs, behind names, so that the walk meets them by a fact. -/
def preBuild (parts : Array (Nat × Value)) : Sem Value := Instr.build 26 parts
theorem build_pre (parts : Array (Nat × Value)) : Instr.build 26 parts = preBuild parts := rfl
theorem run_preBuild (b l : Int) (c : Nat → Nat) (w : World) : (preBuild #[(0, .int .i64 b), (1, .int .i64 l), (2, .agg (kc c))]).run Try.prog w = .ok (.agg (pc ⟨b, l, c⟩)) w := by kernel_rfl
def routeBuild (parts : Array (Nat × Value)) : Sem Value := Instr.build 34 parts
theorem build_route (parts : Array (Nat × Value)) : Instr.build 34 parts = routeBuild parts := rfl
theorem run_routeBuild0 (w : World) : (routeBuild #[]).run Try.prog w = .ok (.agg (rc zrt)) w := by kernel_rfl
attribute [local go_sem ↓] build_pre build_route

def wholeP (k : Nat → Nat) (bits : Int) : Pre := ⟨bits, bits, k⟩
def bestL (l : List Rt) (k : Nat → Nat) (bits : Int) : Rt × Int :=
  if rightB l = true then (if mayB (wholeP k bits) = true then (match l.reverse.find? (fun r => coversB r.pre (wholeP k bits)) with
    | some r => (r, 0)
    | none => (zrt, 6)) else (zrt, 1)) else (zrt, 1)

/-- What the call has laid: the key, the answer, the error's number, the whole key as a prefix. -/
structure BestBox (W : World) (s : Nat) (k : Nat → Nat) (bits : Int) (x : Rt) (e : Int) : Prop where
  b4 : W.heap[s]? = some (.cells (kc k) 24 (0, 0))
  b6 : W.heap[s + 1]? = some (.cells (rc x) 34 (0, 0))
  b7 : W.heap[s + 2]? = some (.cells #[.int .i64 e] 30 (0, 0))
  b8 : W.heap[s + 3]? = some (.cells (pc (wholeP k bits)) 26 (0, 0))

theorem BestBox.later {W W' : World} {s : Nat} {k : Nat → Nat} {bits : Int} {x : Rt} {e : Int} (h : BestBox W s k bits x e) (hb : Below (s + 4) W W') : BestBox W' s k bits x e :=
  ⟨by rw [hb.block _ (by omega)]; exact h.b4, by rw [hb.block _ (by omega)]; exact h.b6, by rw [hb.block _ (by omega)]; exact h.b7, by rw [hb.block _ (by omega)]; exact h.b8⟩

/-- An answer stored: the route, then the error's number. -/
theorem BestBox.set {W : World} {s : Nat} {k : Nat → Nat} {bits : Int} {x : Rt} {e : Int} (h : BestBox W s k bits x e) (r : Rt) (c : Int) :
    (routeStore ⟨s + 1, 0, none⟩ (.agg (rc r))).run Try.prog W = .ok () (W.setRow (s + 1) (rc r)) ∧ (W.setRow (s + 1) (rc r)).cell? ⟨s + 1 + 1, 0, none⟩ = some (.int .i64 e) ∧ (W.setRow (s + 1) (rc r)).frozen? ⟨s + 1 + 1, 0, none⟩ = false ∧
    BestBox ((W.setRow (s + 1) (rc r)).setCell ⟨s + 1 + 1, 0, none⟩ (.int .i64 c)) s k bits r c ∧ Below s W ((W.setRow (s + 1) (rc r)).setCell ⟨s + 1 + 1, 0, none⟩ (.int .i64 c)) := by
  have h7 : (W.setRow (s + 1) (rc r)).heap[s + 2]? = some (.cells #[.int .i64 e] 30 (0, 0)) := by rw [setRow_other _ _ _ _ (by omega)]; exact h.b7
  have e1 : (W.setRow (s + 1) (rc r)).setCell ⟨s + 2, 0, none⟩ (.int .i64 c) = (W.setRow (s + 1) (rc r)).setRow (s + 2) #[.int .i64 c] := by
    rw [setCell_eq_setRow _ (s + 2) 0 #[.int .i64 e] _ _ _ h7]; rfl
  refine ⟨run_storeVar_row (P := Try.prog) W (s + 1) 34 34 (rc x) (rc r) h.b6 (by rw [rc_size]; exact infoRoute) (by rw [rc_size, rc_size]) (by
    rw [Array.all_eq_true_iff_forall_mem]; intro v hv; exact rl_one r v (by simpa [rc] using hv)), by rw [cell_of h7]; rfl, frozen_of h7 0, ?_, ?_⟩
  · rw [e1]
    refine ⟨?_, ?_, setRow_heap _ _ _ _ _ _ h7, ?_⟩
    · rw [setRow_other _ _ _ _ (by omega), setRow_other _ _ _ _ (by omega)]; exact h.b4
    · rw [setRow_other _ _ _ _ (by omega)]; exact setRow_heap _ _ _ _ _ _ h.b6
    · rw [setRow_other _ _ _ _ (by omega), setRow_other _ _ _ _ (by omega)]; exact h.b8
  · rw [e1]
    exact below_setRow (below_setRow (Below.refl _ _) (by omega) _) (by omega) _

theorem BestBox.out {W : World} {s : Nat} {k : Nat → Nat} {bits : Int} {x : Rt} {e : Int} (h : BestBox W s k bits x e) : (routeLoad ⟨s + 1, 0, none⟩).run Try.prog W = .ok (.agg (rc x)) W ∧ W.cell? ⟨s + 1 + 1, 0, none⟩ = some (.int .i64 e) ∧
    (preLoad ⟨s + 1 + 1 + 1, 0, none⟩).run Try.prog W = .ok (.agg (pc (wholeP k bits))) W :=
  ⟨run_routeLoad (fun j u hu => by
    have hadd : (⟨s + 1, 0, none⟩ : Addr).add j = ⟨s + 1, j, none⟩ := by unfold Addr.add; split <;> simp_all
    rw [hadd, cell_of h.b6]; simpa [rc] using hu), by rw [cell_of h.b7]; rfl, run_preLoad (rowAt_of h.b8)⟩

theorem rc_zrt : rc zrt = #[.int .i64 0, .int .i64 0, .int .u8 0, .int .u8 0, .int .u8 0, .int .u8 0, .int .u8 0, .int .u8 0, .int .u8 0, .int .u8 0, .int .u8 0, .int .u8 0, .int .u8 0, .int .u8 0, .int .u8 0, .int .u8 0, .int .u8 0, .int .u8 0, .int .u16 0] := by rfl
def laidBest (w : World) (k : Nat → Nat) (bits : Int) : World := (((w.alloc (.cells (kc k) 24)).alloc (.cells #[.int .i64 0, .int .i64 0, .int .u8 0, .int .u8 0, .int .u8 0, .int .u8 0, .int .u8 0, .int .u8 0, .int .u8 0, .int .u8 0, .int .u8 0, .int .u8 0, .int .u8 0, .int .u8 0, .int .u8 0, .int .u8 0, .int .u8 0, .int .u8 0, .int .u16 0] 34)).alloc (.cells #[.int .i64 0] 30)).alloc (.cells (pc (wholeP k bits)) 26)

theorem bestBox_laid (w : World) (k : Nat → Nat) (bits : Int) : BestBox (laidBest w k bits) w.heap.size k bits zrt 0 ∧ Below w.heap.size w (laidBest w k bits) ∧ (laidBest w k bits).heap.size = w.heap.size + 4 := by
  unfold laidBest
  rw [← rc_zrt]
  have h1 := fun (W : World) (o : Obj) => Go.heap_alloc_new W o
  refine ⟨⟨?_, ?_, ?_, ?_⟩, ((((Below.refl _ _).alloc (Nat.le_refl _) _).alloc (by simp) _).alloc (by simp; omega) _).alloc (by simp; omega) _, by simp⟩
  · rw [Go.heap_alloc_old _ _ (by simp only [World.size_alloc]; omega), Go.heap_alloc_old _ _ (by simp only [World.size_alloc]; omega), Go.heap_alloc_old _ _ (by simp only [World.size_alloc]; omega)]; exact h1 _ _
  · rw [Go.heap_alloc_old _ _ (by simp only [World.size_alloc]; omega), Go.heap_alloc_old _ _ (by simp only [World.size_alloc]; omega)]
    have := h1 (w.alloc (.cells (kc k) 24)) (.cells (rc zrt) 34); simpa using this
  · rw [Go.heap_alloc_old _ _ (by simp only [World.size_alloc]; omega)]
    have := h1 ((w.alloc (.cells (kc k) 24)).alloc (.cells (rc zrt) 34)) (.cells #[.int .i64 0] 30); simpa using this
  · have := h1 (((w.alloc (.cells (kc k) 24)).alloc (.cells (rc zrt) 34)).alloc (.cells #[.int .i64 0] 30)) (.cells (pc (wholeP k bits)) 26); simpa using this

theorem run_preStore_laid (p : Pre) (w : World) (o1 o2 o3 : Obj) (Z : Array Value) (hZ : Z.size = 18) : (preStore ⟨w.heap.size + 1 + 1 + 1, 0, none⟩ (.agg (pc p))).run Try.prog ((((w.alloc o1).alloc o2).alloc o3).alloc (.cells Z 26)) = .ok () ((((w.alloc o1).alloc o2).alloc o3).alloc (.cells (pc p) 26)) := by
  have e : w.heap.size + 1 + 1 + 1 = (((w.alloc o1).alloc o2).alloc o3).heap.size := by simp
  have h := run_preStore (p := p) (Go.heap_alloc_new (((w.alloc o1).alloc o2).alloc o3) (.cells Z 26)) hZ
  rw [World.setRow_alloc_new, ← e] at h
  exact h

/-- A whole prefix stored into a block laid for it. -/
theorem run_preStore_new (p : Pre) (W : World) (Z : Array Value) (hZ : Z.size = 18) : (preStore ⟨W.heap.size, 0, none⟩ (.agg (pc p))).run Try.prog (W.alloc (.cells Z 26)) = .ok () (W.alloc (.cells (pc p) 26)) := by
  have h := run_preStore (p := p) (Go.heap_alloc_new W (.cells Z 26)) hZ
  rw [World.setRow_alloc_new] at h
  exact h

def BestPost (w : World) (x : Rt × Int) (e : Ending) (w' : World) : Prop := e = .returned (.tuple #[.agg (rc x.1), .int .i64 x.2]) ∧ Below w.heap.size w w'

theorem best_out {W : World} {s : Nat} {k : Nat → Nat} {bits : Int} {x : Rt} {e : Int} (h : BestBox W s k bits x e) (tmps : Array Value) (h6 : tmps.getD 6 undef = .pointer (some ⟨s + 1, 0, none⟩)) (h7 : tmps.getD 7 undef = .pointer (some ⟨s + 1 + 1, 0, none⟩)) :
    (results Try.f11 tmps).run Try.prog W = .ok (.tuple #[.agg (rc x), .int .i64 e]) W := by
  obtain ⟨o1, o2, -⟩ := h.out
  have e1 : (loadVar 34 ⟨s + 1, 0, none⟩).run Try.prog W = .ok (.agg (rc x)) W := o1
  have e2 : (loadVar 30 ⟨s + 1 + 1, 0, none⟩).run Try.prog W = .ok (.int .i64 e) W := by simp [go_sem, o2]
  clear o1 o2
  unfold results
  rw [show Try.f11.results = #[ResultVar.cell 6 34, ResultVar.cell 7 30] from rfl]
  simp only [Array.getD_eq_getD_getElem?] at h6 h7
  simp [h6, h7, asAddr, e1, e2]

set_option maxHeartbeats 2000000 in
set_option maxRecDepth 100000 in
theorem best_bad (l : List Rt) (k : Nat → Nat) (hk : Bytes16 k) (bits : Int) (v : Value) (w : World) (hR : Rd w v l) (hno : rightB l = false ∨ mayB (wholeP k bits) = false) :
    Calls Try.prog 11 #[v, .agg (kc k), .int .i64 bits] w (BestPost w (zrt, 1)) := by
  obtain ⟨hbox, hb0, hz0⟩ := bestBox_laid w k bits
  have lk := fun (o1 o2 : Obj) => run_keyLoad (w := ((w.alloc (.cells (kc k) 24)).alloc o1).alloc o2) (((rowAt_new w (kc k) 24).below (B := w.heap.size + 1) (((Below.refl _ _).alloc (by simp) o1).alloc (by simp) o2) (by omega)))
  have bd := run_preBuild bits bits k
  have st := run_preStore_laid (wholeP k bits) w
  have rb := run_routeBuild0
  have C1 := right_any l v (laidBest w k bits) (hR.later hb0)
  have C2 := fun W => may_any (wholeP k bits) hk W
  have T : ∀ w1, Below (laidBest w k bits).heap.size (laidBest w k bits) w1 → BestBox w1 w.heap.size k bits zrt 0 ∧ Below w.heap.size w w1 := fun w1 h => ⟨hbox.later (by rw [hz0] at h; exact h), hb0.trans (h.mono (by rw [hz0]; omega))⟩
  have HT := Lib.hid T
  unfold BestPost
  clear T hbox hb0 hz0
  cases hr : rightB l with
  | false =>
    rw [hr] at C1
    have HC := Lib.hid C1
    unfold laidBest at HC HT
    unfold wholeP at HC HT st
    clear C1 C2 hr hno hR
    go_enter Try.func11, Try.ntmps11
    go_wp2_with fail
    refine HC.out.mono ?_
    rintro e w1 ⟨rfl, h1⟩
    obtain ⟨hbx, hb1⟩ := HT.out w1 h1
    obtain ⟨s1, s2, s3, s4, s5⟩ := hbx.set zrt 1
    have HX := Lib.hid s4
    have HB := Lib.hid (hb1.trans s5)
    clear h1 hbx hb1 s4 s5
    go_wp2
    refine bodyPost_ret (v := .tuple #[.agg (rc zrt), .int .i64 1]) (best_out HX.out _ rfl rfl) rfl ⟨rfl, HB.out⟩
  | true =>
    rw [hr] at C1
    have hm : mayB (wholeP k bits) = false := hno.resolve_left (by rw [hr]; decide)
    simp only [hm] at C2
    have HC := Lib.hid C1
    have HD := Lib.hid C2
    unfold laidBest at HC HT
    unfold wholeP at HC HT HD st
    clear C1 C2 hr hno hR hm
    go_enter Try.func11, Try.ntmps11
    go_wp2_with fail
    refine HC.out.mono ?_
    rintro e w1 ⟨rfl, h1⟩
    obtain ⟨hbx, hb1⟩ := HT.out w1 h1
    obtain ⟨-, -, o3⟩ := hbx.out
    unfold wholeP at o3
    go_wp2_with fail
    refine (HD.out _).mono ?_
    rintro e w2 ⟨rfl, h2⟩
    obtain ⟨hbx, hb1⟩ := HT.out w2 (h1.trans (h2.mono h1.size))
    obtain ⟨s1, s2, s3, s4, s5⟩ := hbx.set zrt 1
    have HX := Lib.hid s4
    have HB := Lib.hid (hb1.trans s5)
    clear h1 h2 hbx hb1 s4 s5
    go_wp2
    refine bodyPost_ret (v := .tuple #[.agg (rc zrt), .int .i64 1]) (best_out HX.out _ rfl rfl) rfl ⟨rfl, HB.out⟩

theorem BestBox.kept {W W' : World} {s : Nat} {k : Nat → Nat} {bits : Int} {x : Rt} {e : Int} {row : Option Nat} (h : BestBox W s k bits x e) (hg : W.grownBy W' row) (hr : ∀ r, row = some r → ∃ o : Obj, W.heap[r]? = some o ∧ o.isCells = false) : BestBox W' s k bits x e :=
  ⟨(grownBy_keeps_cells hg hr h.b4 rfl).trans h.b4, (grownBy_keeps_cells hg hr h.b6 rfl).trans h.b6, (grownBy_keeps_cells hg hr h.b7 rfl).trans h.b7, (grownBy_keeps_cells hg hr h.b8 rfl).trans h.b8⟩

theorem BestBox.lt {W : World} {s : Nat} {k : Nat → Nat} {bits : Int} {x : Rt} {e : Int} (h : BestBox W s k bits x e) : s + 4 ≤ W.heap.size := by
  have := (Array.getElem?_eq_some_iff.1 h.b8).1; omega

theorem keepsFrom_below {B : Nat} {W W' : World} (h : Below W.heap.size W W') : KeepsFrom B W W' :=
  ⟨h.size, fun k _ _ hk _ => (h.block k (Array.getElem?_eq_some_iff.1 hk).1).trans hk⟩

/-- An answer stored turns two blocks, below all that the loop lays. -/
theorem BestBox.keeps {W : World} {s B : Nat} {k : Nat → Nat} {bits : Int} {x : Rt} {e : Int} (h : BestBox W s k bits x e) (hB : s + 4 ≤ B) (r : Rt) (c : Int) :
    KeepsFrom B W ((W.setRow (s + 1) (rc r)).setCell ⟨s + 1 + 1, 0, none⟩ (.int .i64 c)) := by
  have h7 : (W.setRow (s + 1) (rc r)).heap[s + 2]? = some (.cells #[.int .i64 e] 30 (0, 0)) := by rw [setRow_other _ _ _ _ (by omega)]; exact h.b7
  have e1 : (W.setRow (s + 1) (rc r)).setCell ⟨s + 2, 0, none⟩ (.int .i64 c) = (W.setRow (s + 1) (rc r)).setRow (s + 2) #[.int .i64 c] := by
    rw [setCell_eq_setRow _ (s + 2) 0 #[.int .i64 e] _ _ _ h7]; rfl
  show KeepsFrom B W ((W.setRow (s + 1) (rc r)).setCell ⟨s + 2, 0, none⟩ (.int .i64 c))
  rw [e1]
  exact ⟨by simp [World.setRow], fun j o hj ho _ => by rw [setRow_other _ _ _ _ (by omega), setRow_other _ _ _ _ (by omega)]; exact ho⟩

/-- Of the routes that came, the last one is the first that fits. -/
theorem find_hit {l : List Rt} {q : Rt → Bool} {ys : List (Nat × Rt)} {x : Nat × Rt} (h : (ys ++ [x]).map (·.2) <+: l) (hn : ∀ y ∈ ys, q y.2 = false) (hx : q x.2 = true) : l.find? q = some x.2 := by
  obtain ⟨rest, rfl⟩ := h
  rw [List.map_append, List.append_assoc, List.find?_append]
  have : (ys.map (·.2)).find? q = none := by
    rw [List.find?_eq_none]; intro z hz; obtain ⟨y, hy, rfl⟩ := List.mem_map.1 hz; simp [hn y hy]
  rw [this]; simp [hx]
theorem find_miss {l : List Rt} {q : Rt → Bool} {ys : List (Nat × Rt)} (h : ys.map (·.2) = l) (hn : ∀ y ∈ ys, q y.2 = false) : l.find? q = none := by
  rw [← h, List.find?_eq_none]; intro z hz; obtain ⟨y, hy, rfl⟩ := List.mem_map.1 hz; simp [hn y hy]

def hitL (l : List Rt) (k : Nat → Nat) (bits : Int) : Rt × Int := match l.reverse.find? (fun r => coversB r.pre (wholeP k bits)) with
    | some r => (r, 0)
    | none => (zrt, 6)

attribute [local go_sem] Oper.semAt_some

/-- A block that holds a route. -/
def RBox (W : World) (b : Nat) (r : Rt) : Prop := W.heap[b]? = some (.cells (rc r) 34 (0, 0))
theorem RBox.cells {W : World} {b : Nat} {r : Rt} (h : RBox W b r) : CellsAt W ⟨b, 0, none⟩ (rl r) := fun j u hu => by
  have hadd : (⟨b, 0, none⟩ : Addr).add j = ⟨b, j, none⟩ := by unfold Addr.add; split <;> simp_all
  rw [hadd, cell_of (show W.heap[b]? = _ from h)]; simpa [rc] using hu

set_option maxHeartbeats 4000000 in
set_option maxRecDepth 100000 in
theorem best_good (l : List Rt) (k : Nat → Nat) (hk : Bytes16 k) (bits : Int) (v : Value) (w : World) (hR : Rd w v l) (hr : rightB l = true) (hm : mayB (wholeP k bits) = true) :
    Calls Try.prog 11 #[v, .agg (kc k), .int .i64 bits] w (BestPost w (hitL l k bits)) := by
  obtain ⟨hbox, hb0, hz0⟩ := bestBox_laid w k bits
  have lk := fun (o1 o2 : Obj) => run_keyLoad (w := ((w.alloc (.cells (kc k) 24)).alloc o1).alloc o2) (((rowAt_new w (kc k) 24).below (B := w.heap.size + 1) (((Below.refl _ _).alloc (by simp) o1).alloc (by simp) o2) (by omega)))
  have bd := run_preBuild bits bits k
  have st := run_preStore_laid (wholeP k bits) w
  have rb := run_routeBuild0
  have C1 := right_any l v (laidBest w k bits) (hR.later hb0)
  have C2 := fun W => may_any (wholeP k bits) hk W
  have T : ∀ w1, Below (laidBest w k bits).heap.size (laidBest w k bits) w1 → BestBox w1 w.heap.size k bits zrt 0 ∧ Below w.heap.size w w1 := fun w1 h => ⟨hbox.later (by rw [hz0] at h; exact h), hb0.trans (h.mono (by rw [hz0]; omega))⟩
  have HT := Lib.hid T
  obtain ⟨a, cap, hv, hmx⟩ := rd_len hR
  have HR := Lib.hid hR
  have hl := ((right_iff l).1 hr).1
  have HL : Hid (l.length ≤ 65536) := by show l.length ≤ 65536; omega
  have HK := Lib.hid hk
  rw [hr] at C1
  simp only [hm] at C2
  have HC := Lib.hid C1
  have HD := Lib.hid C2
  obtain ⟨m, hmm⟩ : ∃ m, m = l.length := ⟨_, rfl⟩
  rw [← hmm] at hv
  have HM := Lib.hid hmm
  subst hv
  unfold BestPost
  unfold laidBest at HC HT
  unfold wholeP at HC HT HD st
  clear T hbox hb0 hz0 C1 C2 hr hm hR hmx hl hmm hk
  refine (callsIn_wide (n := 8)).1 ?_
  refine callsIn_of_wp_marks Try.func11 rfl trivial ?_ rfl
  simp only [Try.ntmps11, List.size_toArray, List.length_cons, List.length_nil, Nat.reduceAdd, Nat.reduceSub, Array.replicate_succ, Array.replicate_zero, List.push_toArray, List.append_toArray, List.nil_append, List.cons_append]
  gi_wp2_with fail
  refine ⟨trivial, (callsIn_wide.2 HC.out).mono ?_⟩
  rintro e w1 ⟨rfl, h1⟩
  obtain ⟨hbx, hb1⟩ := HT.out w1 h1
  obtain ⟨-, -, o3⟩ := hbx.out
  unfold wholeP at o3
  gi_wp2_with fail
  refine ⟨trivial, (callsIn_wide.2 (HD.out _)).mono ?_⟩
  rintro e w2 ⟨rfl, h2⟩
  obtain ⟨hbx2, hb2⟩ := HT.out w2 (h1.trans (h2.mono h1.size))
  have HB2 := Lib.hid hbx2
  have HW2 := Lib.hid hb2
  clear hbx2 hb2 o3 h1 h2 hbx hb1
  gi_wp2_with fail
  refine ⟨trivial, (back_any _ _ _ _ _).mono ?_⟩
  rintro e w3 ⟨rfl, rfl⟩
  gi_wp2_with fail
  obtain ⟨W0, hW0⟩ : ∃ W0, w2.alloc (.cells #[.slice a m cap] 22) = W0 := ⟨_, rfl⟩
  have hs0 : W0.heap.size = w2.heap.size + 1 := by rw [← hW0]; simp
  have hB0 : Below w2.heap.size w2 W0 := by rw [← hW0]; exact (Below.refl _ _).alloc (Nat.le_refl _) _
  have hBs : W0.cell? ⟨w2.heap.size, 0, none⟩ = some (.slice a m cap) := by rw [← hW0]; exact (Boxed.new w2 _ _).cell
  have hsz : w.heap.size + 4 ≤ w2.heap.size := HB2.out.lt
  have HX0 : Hid (BestBox W0 w.heap.size k bits zrt 0) := HB2.out.later (hB0.mono hsz)
  have HW0 : Hid (Below w.heap.size w W0) := HW2.out.trans (hB0.mono (by omega))
  rw [hW0]
  refine wpIn_rangeFunc_ownH rfl (by omega) (gf := 67) (lb := #[.pointer (some ⟨w2.heap.size, 0, none⟩)]) rfl trivial (enters_of Try.func67 (by kernel_rfl) rfl)
    (back_stops 7 (by omega) w2.heap.size W0.heap.size l (.slice a m cap) HL.out W0 (by omega) (Nat.le_refl _) hBs (fun W' h => HR.out.later (HW0.out.trans (h.mono (by omega))))) belowK_t (belowK_b (Nat.le_refl _)) (Below.refl _ _) (fun _ => rfl)
    (fun pre W => ((∀ y ∈ pre, coversB y.2.pre (wholeP k bits) = false) ∧ BestBox W w.heap.size k bits zrt 0) ∧ Below W0.heap.size W0 W)
    (fun c pre W => (∃ ys x, c = .ret ∧ pre = ys ++ [x] ∧ (∀ y ∈ ys, coversB y.2.pre (wholeP k bits) = false) ∧ coversB x.2.pre (wholeP k bits) = true ∧ BestBox W w.heap.size k bits x.2 0) ∧ Below w.heap.size w W)
    (OwnFrom.and (Go.Own.from (fun s A B row hs hg hr => ⟨hs.1, hs.2.kept hg hr⟩) _) (ownFrom_below (Nat.le_refl _) (Nat.le_refl _)))
    (fun c => OwnFrom.and (Go.Own.from (fun s A B row hs hg hr => by obtain ⟨ys, x, g1, g2, g3, g4, g5⟩ := hs; exact ⟨ys, x, g1, g2, g3, g4, g5.kept hg hr⟩) _) (ownFrom_below (Nat.le_refl _) (by omega)))
    ⟨⟨fun y hy => (by cases hy), HX0.out⟩, Below.refl _ _⟩
    (fun x a' W => ∃ Bx, RBox W Bx x.2 ∧ a' = { tmps := #[.slice a m cap, .agg (kc k), .int .i64 bits, undef, .pointer (some ⟨w.heap.size, 0, none⟩), undef, .pointer (some ⟨w.heap.size + 1, 0, none⟩), .pointer (some ⟨w.heap.size + 1 + 1, 0, none⟩), .pointer (some ⟨w.heap.size + 1 + 1 + 1, 0, none⟩), undef, .pointer (some ⟨Bx, 0, none⟩), .int .i64 bits, .int .i64 bits, .agg (kc k), .agg (pc ⟨bits, bits, k⟩), .slice a m cap, .bool true, .bool false, .bool false, .agg (pc ⟨bits, bits, k⟩), .bool true, .bool false, .bool false, undef, .slice a m cap, .func (.func 67) #[] #[.pointer (some ⟨w2.heap.size, 0, none⟩)], .int .i64 x.1, .agg (rc x.2), undef, undef, undef, undef, undef, undef], defers := [] })
    (fun x a' _ X Y row hs hg hr => by obtain ⟨Bx, h2, h3⟩ := hs; exact ⟨Bx, (grownBy_keeps_cells hg (fun r e => (hr r e).2) h2 rfl).trans h2, h3⟩)
    ?assign ?body ?done ?stop
  case assign =>
    rintro l1 pre x W K ⟨⟨hn, hbx⟩, hb⟩ hK
    have hst := run_routeStore_new x.2 W
    have HN := Lib.hid hn
    have HX := Lib.hid hbx
    have HB := Lib.hid hb
    clear hn hbx hb st bd lk rb
    unfold encB
    gi_wp2
    exact hK _ _ ((KeepsOthers.alloc _ _).from _) ((Below.refl _ W).alloc HB.out.size _) ⟨⟨HN.out, HX.out.later ((Below.refl _ W).alloc HX.out.lt _)⟩, HB.out.trans ((Below.refl _ W).alloc HB.out.size _)⟩ ⟨W.heap.size, Go.heap_alloc_new W _, rfl⟩
  case body =>
    rintro l1 pre x a' W hl1 - ⟨⟨hn, hbx⟩, hb⟩ ⟨Bx, hX, rfl⟩ -
    have HN := Lib.hid hn
    have HX := Lib.hid hbx
    have HB := Lib.hid hb
    have HR2 := Lib.hid hX
    have lr := run_preLoadA hX.cells.pre
    obtain ⟨-, -, o3⟩ := hbx.out
    unfold wholeP at o3
    have HCV := Lib.hid (covers_any x.2.pre (wholeP k bits) x.2.hk HK.out W)
    unfold wholeP at HCV
    clear hn hbx hb hX lk bd st rb
    cases hcv : coversB x.2.pre (wholeP k bits) with
    | false =>
      unfold wholeP at hcv
      rw [hcv] at HCV
      have HV := Lib.hid hcv
      clear hcv
      gi_wp2_with fail
      refine ⟨trivial, (CallsIn.inRound l1 (callsIn_wide.2 HCV.out)).mono ?_⟩
      rintro e w4 ⟨rfl, h4⟩
      have H4 := Lib.hid h4
      clear h4
      gi_wp2
      have h5 : Below W0.heap.size W w4 := H4.out.mono HB.out.size
      exact ⟨keepsFrom_below H4.out, h5, ⟨fun y hy => (List.mem_append.1 hy).elim (HN.out y) (fun e => by rw [List.mem_singleton.1 e]; exact HV.out), HX.out.later (H4.out.mono HX.out.lt)⟩, HB.out.trans h5⟩
    | true =>
      unfold wholeP at hcv
      rw [hcv] at HCV
      have HV := Lib.hid hcv
      clear hcv
      gi_wp2_with fail
      refine ⟨trivial, (CallsIn.inRound l1 (callsIn_wide.2 HCV.out)).mono ?_⟩
      rintro e w4 ⟨rfl, h4⟩
      have hX4 : RBox w4 Bx x.2 := (h4.block _ (Array.getElem?_eq_some_iff.1 HR2.out).1).trans HR2.out
      have l4 := run_routeLoad hX4.cells
      have hb4 := HX.out.later (h4.mono HX.out.lt)
      obtain ⟨s1, s2, s3, s4, s5⟩ := hb4.set x.2 0
      have HK5 := Lib.hid (hb4.keeps (B := W0.heap.size) (by omega) x.2 0)
      have HX4 := Lib.hid s4
      have HB4 := Lib.hid s5
      have H4 := Lib.hid h4
      clear h4 hb4 hX4 s4 s5
      gi_wp2
      exact ⟨(keepsFrom_below H4.out).trans HK5.out, ⟨pre, x, rfl, rfl, HN.out, HV.out, HX4.out⟩, (HW0.out.trans ((HB.out.trans (H4.out.mono HB.out.size)).mono (by omega))).trans HB4.out⟩
  case done =>
    rintro D xs W hD hall ⟨⟨hn, hbx⟩, hb⟩ hK
    obtain ⟨s1, s2, s3, s4, s5⟩ := hbx.set zrt 6
    have hE : hitL l k bits = (zrt, 6) := by unfold hitL; rw [find_miss hall hn]
    have HE := Lib.hid hE
    have HX4 := Lib.hid s4
    have HB4 := Lib.hid ((HW0.out.trans (hb.mono (by omega))).trans s5)
    have HD2 := Lib.hid hD
    have hK' := (hbx.keeps (B := W0.heap.size) (by omega) zrt 6).same D _ hD hK rfl
    have HK' := Lib.hid hK'
    clear hE hn hbx hb s4 s5 hK hK' hD hall
    gi_wp2
    have hX5 := HX4.out.kept (grownBy_putObj' _ D (.deferred none)) (fun r e => by cases e; exact ⟨_, HK'.out, rfl⟩)
    refine ⟨by simp, .inl ⟨_, _, rfl, run_takeDeferred HK'.out, ?_⟩⟩
    exact ⟨_, best_out hX5 _ rfl rfl, by rw [HE.out], HB4.out.trans (belowK_b (w := w) (Nat.le_refl _) _ D _ _ (by have := HD2.out; omega) HK'.out rfl rfl)⟩
  case stop =>
    rintro D c pre W hD hpart ⟨⟨ys, x, rfl, rfl, hn, hx, hbx⟩, hb⟩ hK
    have HE : Hid (hitL l k bits = (x.2, 0)) := by show _ = _; unfold hitL; rw [find_hit hpart hn hx]
    have HX4 := Lib.hid hbx
    have HB4 := Lib.hid hb
    have HD2 := Lib.hid hD
    have HK' := Lib.hid hK
    clear hn hbx hb hK hD hpart hx
    gi_wp2
    have hX5 := HX4.out.kept (grownBy_putObj' _ D (.deferred none)) (fun r e => by cases e; exact ⟨_, HK'.out, rfl⟩)
    refine ⟨by simp, .inl ⟨_, _, rfl, run_takeDeferred HK'.out, ?_⟩⟩
    exact ⟨_, best_out hX5 _ rfl rfl, by rw [HE.out], HB4.out.trans (belowK_b (w := w) (Nat.le_refl _) _ D _ _ (by have := HD2.out; omega) HK'.out rfl rfl)⟩

theorem best_any (l : List Rt) (k : Nat → Nat) (hk : Bytes16 k) (bits : Int) (v : Value) (w : World) (hR : Rd w v l) :
    Calls Try.prog 11 #[v, .agg (kc k), .int .i64 bits] w (BestPost w (bestL l k bits)) := by
  cases hr : rightB l with
  | false =>
    have h := best_bad l k hk bits v w hR (.inl hr)
    have e : bestL l k bits = (zrt, 1) := by unfold bestL; rw [hr]; rfl
    rw [e]; exact h
  | true =>
    cases hm : mayB (wholeP k bits) with
    | false =>
      have h := best_bad l k hk bits v w hR (.inr hm)
      have e : bestL l k bits = (zrt, 1) := by unfold bestL; rw [hr, hm]; rfl
      rw [e]; exact h
    | true =>
      have h := best_good l k hk bits v w hR hr hm
      have e : bestL l k bits = hitL l k bits := by unfold bestL; rw [hr, hm]; rfl
      rw [e]; exact h
end Go.Proofs.Ytggjcjijoihilaa
