/- Routes, and lists of them, as values: their cells, a load of one, a store of one. slices.IndexFunc, ContainsFunc over routes, whatever the function keeps: what they hand back. table.Right, by slices.ContainsFunc and the closure that misplaced makes: what each hands back. table.Right: what it hands back. -/
import Derived.Test.YtggjcjijoihilaaKeyPreEq
import Derived.Test.YtggjcjijoihilaaKeyMay
import Derived.Laws.AppendOwn
import Derived.Laws.CopyOwn
import Derived.OwnWalk
import Derived.LoopTactic
import Derived.Shelf.Abstract
namespace Go.Proofs.Ytggjcjijoihilaa
open Go.RowKit Go.Sort

/-- A route: its prefix, where it leads; the bytes behind its key are nothing. -/
structure Rt where
  pre : Pre
  hop : Nat
  hk : Bytes16 pre.key
  hz : ∀ i, 16 ≤ i → pre.key i = 0
  hh : hop < 65536

def zpre : Pre := ⟨0, 0, zkey⟩
theorem zkey_bytes : Bytes16 zkey := fun _ => Nat.zero_lt_succ _
def zrt : Rt := ⟨zpre, 0, zkey_bytes, fun _ _ => rfl, by decide⟩
instance : Inhabited Rt := ⟨zrt⟩

def rl (r : Rt) : List Value := (pc r.pre).toList ++ [.int .u16 (r.hop : Nat)]
def rc (r : Rt) : Array Value := (rl r).toArray
def fl (l : List Rt) : List Value := l.flatMap rl

theorem rl_length (r : Rt) : (rl r).length = 19 := by simp [rl, pc_size]
theorem rc_size (r : Rt) : (rc r).size = 19 := by simp [rc, rl_length]
theorem fl_nil : fl [] = [] := rfl
theorem fl_cons (r : Rt) (l : List Rt) : fl (r :: l) = rl r ++ fl l := by simp [fl]
theorem fl_append (a b : List Rt) : fl (a ++ b) = fl a ++ fl b := by simp [fl]
theorem fl_one (r : Rt) : fl [r] = rl r := by simp [fl]
theorem fl_length (l : List Rt) : (fl l).length = l.length * 19 := by
  induction l with
  | nil => rfl
  | cons r l ih => rw [fl_cons, List.length_append, rl_length, ih, List.length_cons]; omega
theorem fl_at {l : List Rt} {i : Nat} {r : Rt} (h : l[i]? = some r) {j : Nat} (hj : j < 19) : (fl l)[i * 19 + j]? = (rl r)[j]? := by
  induction l generalizing i with
  | nil => simp at h
  | cons s l ih =>
    rw [fl_cons]
    cases i with
    | zero =>
      simp at h; subst h
      rw [Nat.zero_mul, Nat.zero_add, List.getElem?_append_left (by rw [rl_length]; exact hj)]
    | succ i =>
      simp at h
      rw [List.getElem?_append_right (by rw [rl_length]; omega), rl_length, show (i + 1) * 19 + j - 19 = i * 19 + j by omega]
      exact ih h
theorem fl_take (l : List Rt) (n : Nat) : (fl l).take (n * 19) = fl (l.take n) := by
  induction l generalizing n with
  | nil => simp [fl]
  | cons s l ih =>
    cases n with
    | zero => simp [fl]
    | succ n =>
      rw [List.take_succ_cons, fl_cons, fl_cons, List.take_append, rl_length, List.take_of_length_le (by rw [rl_length]; omega), show (n + 1) * 19 - 19 = n * 19 by omega, ih]
theorem fl_drop (l : List Rt) (n : Nat) : (fl l).drop (n * 19) = fl (l.drop n) := by
  induction l generalizing n with
  | nil => simp [fl]
  | cons s l ih =>
    cases n with
    | zero => simp [fl]
    | succ n =>
      rw [List.drop_succ_cons, fl_cons, List.drop_append, rl_length, List.drop_of_length_le (by rw [rl_length]; omega), show (n + 1) * 19 - 19 = n * 19 by omega, ih, List.nil_append]
theorem pc_ones (p : Pre) : ∀ v ∈ (pc p).toList, v.oneCell' = true := fun v hv => by
  simp only [pc, List.mem_cons] at hv
  rcases hv with rfl | rfl | hv
  · rfl
  · rfl
  · exact kl_one _ v hv
theorem rl_one (r : Rt) : ∀ v ∈ rl r, v.oneCell' = true := fun v hv => by
  rcases List.mem_append.1 hv with h | h
  · exact pc_ones _ v h
  · simp at h; subst h; rfl
theorem fl_ones (l : List Rt) : ∀ v ∈ fl l, v.oneCell' = true := fun v hv => by
  obtain ⟨r, _, h⟩ := List.mem_flatMap.1 hv
  exact rl_one r v h

theorem rc_pre (r : Rt) (i : Nat) (h : i < 18) : (rc r)[i]? = (pc r.pre)[i]? := by
  simp only [rc, rl, List.getElem?_toArray]
  rw [List.getElem?_append_left (by simp [pc_size]; exact h), Array.getElem?_toList]
theorem rc_hop (r : Rt) : (rc r)[18]? = some (.int .u16 (r.hop : Nat)) := by
  simp only [rc, rl, List.getElem?_toArray]
  rw [List.getElem?_append_right (by simp [pc_size])]; simp [pc_size]

/-- Cells that lie in memory from an address on. -/
def CellsAt (w : World) (a : Addr) (cs : List Value) : Prop := ∀ j u, cs[j]? = some u → w.cell? (a.add j) = some u

theorem add_add (a : Addr) (i j : Nat) : (a.add i).add j = a.add (i + j) := by
  unfold Addr.add
  by_cases h : i = 0
  · subst h; simp
  · by_cases h2 : j = 0
    · subst h2; simp
    · simp [h, h2, Nat.add_assoc]
theorem add_zero' (a : Addr) : a.add 0 = a := by simp [Addr.add]

theorem CellsAt.part {w : World} {a : Addr} {cs : List Value} (h : CellsAt w a cs) {o : Nat} {ds : List Value} (hd : ∀ j u, ds[j]? = some u → cs[o + j]? = some u) : CellsAt w (a.add o) ds := fun j u hu => by
  rw [add_add]; exact h _ _ (hd j u hu)
theorem CellsAt.route {w : World} {a : Addr} {l : List Rt} (h : CellsAt w a (fl l)) {i : Nat} {r : Rt} (hr : l[i]? = some r) : CellsAt w (a.add (i * 19)) (rl r) :=
  h.part fun j u hu => by
    have hj : j < 19 := by rw [← rl_length r]; exact (List.getElem?_eq_some_iff.1 hu).1
    rw [fl_at hr hj]; exact hu
theorem CellsAt.pre {w : World} {a : Addr} {r : Rt} (h : CellsAt w a (rl r)) : CellsAt w a (pc r.pre).toList := fun j u hu => h j u (by
  have hj := (List.getElem?_eq_some_iff.1 hu).1
  unfold rl; rw [List.getElem?_append_left hj]; exact hu)
theorem CellsAt.hop {w : World} {a : Addr} {r : Rt} (h : CellsAt w a (rl r)) : w.cell? (a.add 18) = some (.int .u16 (r.hop : Nat)) := h 18 _ (by
  have := rc_hop r; simpa [rc] using this)
theorem CellsAt.lt {w : World} {a : Addr} {cs : List Value} (h : CellsAt w a cs) (hc : cs ≠ []) : a.block < w.heap.size := by
  cases cs with
  | nil => exact absurd rfl hc
  | cons v cs =>
    have := h 0 v rfl
    rw [add_zero'] at this
    exact World.block_lt_of_cell? w a this
theorem add_block (a : Addr) (n : Nat) : (a.add n).block = a.block := by unfold Addr.add; split <;> rfl
theorem CellsAt.below {w w' : World} {a : Addr} {cs : List Value} {B : Nat} (h : CellsAt w a cs) (hb : Below B w w') (hB : a.block < B) : CellsAt w' a cs := fun j u hu => by
  rw [hb.cell (p := a.add j) (by rw [add_block]; exact hB)]; exact h j u hu
theorem CellsAt.later {w w' : World} {a : Addr} {cs : List Value} (h : CellsAt w a cs) (hb : Below w.heap.size w w') : CellsAt w' a cs := fun j u hu => by
  have h1 := h j u hu
  rw [hb.cell (p := a.add j) (World.block_lt_of_cell? w _ h1)]; exact h1
theorem CellsAt.rowAt {w : World} {b off : Nat} {cs : Array Value} (h : CellsAt w ⟨b, off, none⟩ cs.toList) : RowAt w b off cs := fun j v hv => by
  have := h j v (by simpa using hv)
  have hadd : (⟨b, off, none⟩ : Addr).add j = ⟨b, off + j, none⟩ := by unfold Addr.add; split <;> simp_all
  rwa [hadd] at this

/-- All cells of an array or a struct, loaded, wherever they lie. -/
theorem run_load_at {P : Program} {w : World} {T : TypeId} {a : Addr} {cs : List Value} {d : TypeDesc} (hu : P.underlying T = some d) (hd : (match d with | .struct _ | .array _ _ => true | _ => false) = true)
    (hi : (P.info? T).map (·.size) = some cs.length) (h : CellsAt w a cs) : (loadVar T a).run P w = .ok (.agg cs.toArray) w := by
  have hl : (loadCells a cs.length).run P w = .ok cs.toArray w := run_loadCells_list (P := P) w a cs h
  cases hq : P.info? T with
  | none => simp [hq] at hi
  | some i =>
    have hs : i.size = cs.length := by simpa [hq] using hi
    have hagg : (isAgg T).run P w = .ok true w := by
      unfold isAgg
      rw [Sem.run_bind, run_underlying hu w]
      cases d <;> simp_all
    simp [loadVar, Sem.run_bind, hagg, sizeOf, typeInfo, hq, hs, hl]

def routeLoad (a : Addr) : Sem Value := loadVar 34 a
theorem loadVar_route (a : Addr) : loadVar 34 a = routeLoad a := rfl
def routeStore (a : Addr) (v : Value) : Sem Unit := storeVar 34 a v
theorem storeVar_route (a : Addr) (v : Value) : storeVar 34 a v = routeStore a v := rfl
theorem infoRoute : (Try.prog.info? 34).map (·.size) = some 19 := by kernel_rfl

theorem run_routeLoad {w : World} {a : Addr} {r : Rt} (h : CellsAt w a (rl r)) : (routeLoad a).run Try.prog w = .ok (.agg (rc r)) w :=
  run_load_at Try.underlying34 rfl (by rw [rl_length]; exact infoRoute) h
theorem run_preLoadA {w : World} {a : Addr} {p : Pre} (h : CellsAt w a (pc p).toList) : (preLoad a).run Try.prog w = .ok (.agg (pc p)) w := by
  have := run_load_at Try.underlying26 rfl (by rw [Array.length_toList, pc_size]; exact infoPre) h
  rw [Array.toArray_toList] at this
  exact this

/-- A list of routes, as a slice of it reads in a world. -/
def Rd (w : World) (v : Value) (l : List Rt) : Prop :=
  (v = .slice none 0 0 ∧ l = []) ∨ ∃ a cap, v = .slice (some a) l.length cap ∧ l.length ≤ cap ∧ cap ≤ maxLen ∧ CellsAt w a (fl l)

theorem Rd.later {w w' : World} {v : Value} {l : List Rt} (h : Rd w v l) (hb : Below w.heap.size w w') : Rd w' v l := by
  rcases h with h | ⟨a, cap, h1, h2, h3, h4⟩
  · exact .inl h
  · exact .inr ⟨a, cap, h1, h2, h3, h4.later hb⟩

/-- A list of routes that lies in a row of the call's own. -/
def Own (w : World) (base : Nat) (v : Value) (l : List Rt) : Prop := w.ownsRow base 34 19 v l.length (fl l)

theorem own_nil (w : World) (base : Nat) : Own w base (.slice none 0 0) [] := World.ownsRow_nil _ _ _ _

theorem Own.rd {w : World} {base : Nat} {v : Value} {l : List Rt} (h : Own w base v l) : Rd w v l := by
  obtain ⟨hx, h⟩ := id h
  rcases h with ⟨h1, h2⟩ | ⟨g, cap, cur, h1, h2, h3, h4, h5, h6, h7⟩
  · exact .inl ⟨h1, List.length_eq_zero_iff.1 h2⟩
  · exact .inr ⟨⟨g, 0, none⟩, cap, h1, h4, h5, fun j u hu => World.ownsRow.cells h (g := g) (by rw [h1]; rfl) j u hu⟩
end Go.Proofs.Ytggjcjijoihilaa
namespace Go.Proofs.Ytggjcjijoihilaa
open Go.RowKit Go.Sort Go.Shelf
attribute [local go_sem ↓] loadVar_key loadVar_pre loadVar_route

/-- Where a search of the first one ends: all ahead were 'no'. -/
structure FirstAt (Pr : Nat → Bool) (n i : Nat) : Prop where
  le : i ≤ n
  no : ∀ j, j < i → Pr j = false

def IndexPost (Pr : Nat → Bool) (n : Nat) (I : Nat → World → Prop) (e : Ending) (w' : World) : Prop :=
  (e = .returned (.int .i64 (-1)) ∧ FirstAt Pr n n ∧ I n w') ∨ ∃ i : Nat, i < n ∧ e = .returned (.int .i64 i) ∧ FirstAt Pr n i ∧ Pr i = true ∧ I (i + 1) w'

set_option maxHeartbeats 1000000 in
set_option maxRecDepth 100000 in
theorem index_any (l : List Rt) (v : Value) (g : Nat) (cb : Array Value) (Pr : Nat → Bool) (I : Nat → World → Prop) (w : World)
    (hR : ∀ i W, I i W → Rd W v l) (eg : ∀ args w, (callFunc g args).run Try.prog w = .ok (.enter g args) w)
    (hC : ∀ i r W, l[i]? = some r → I i W → Calls Try.prog g (#[.agg (rc r)] ++ cb) W fun e w' => e = .returned (.bool (Pr i)) ∧ I (i + 1) w') (h0 : I 0 w) :
    Calls Try.prog 71 #[v, .func (.func g) #[] cb] w (IndexPost Pr l.length I) := by
  have HR := Lib.hid hR
  have HC := Lib.hid hC
  have H0 := Lib.hid h0
  rcases hR 0 w h0 with ⟨rfl, rfl⟩ | ⟨a, cap, rfl, hlc, hcm, -⟩
  · clear hR hC h0
    go_enter Try.func71, Try.ntmps71
    go_wp2
    go_loopw [5, 8] (fun _ t wr => t = .int .i64 0 ∧ Hid (I 0 wr)) (fun _ _ _ => 0)
    case atStart => exact ⟨rfl, H0⟩
    case round =>
      obtain ⟨rfl, HI⟩ := hrel
      go_wp2
      go_ret
      exact .inl ⟨rfl, ⟨Nat.le_refl _, fun j hj => absurd hj (Nat.not_lt_zero _)⟩, HI.out⟩
  · obtain ⟨n, hn⟩ : ∃ n, n = l.length := ⟨_, rfl⟩
    unfold maxLen at hcm
    have hn63 : (n : Int) ≤ 9223372036854775807 := by omega
    rw [← hn] at HR ⊢
    have HN := Lib.hid hn
    clear hR hC h0 hn hlc hcm
    go_enter Try.func71, Try.ntmps71
    go_wp2
    go_loopw [5, 8] (fun _ t wr => ∃ i : Nat, i ≤ n ∧ t = .int .i64 i ∧ Hid (FirstAt Pr n i) ∧ Hid (I i wr)) (fun _ t _ => n - (intOf t).toNat)
    case atStart => exact ⟨0, Nat.zero_le _, rfl, ⟨Nat.zero_le _, fun j hj => absurd hj (Nat.not_lt_zero _)⟩, H0⟩
    case round =>
      obtain ⟨i, hi, rfl, HF, HI⟩ := hrel
      by_cases hlt : i < n
      · have hltI : (i : Int) < n := by omega
        obtain ⟨r, hr⟩ : ∃ r, l[i]? = some r := ⟨l[i]'(by rw [← HN.out]; exact hlt), List.getElem?_eq_getElem _⟩
        have hld : (routeLoad (a.add (i * 19))).run Try.prog wr = .ok (.agg (rc r)) wr := by
          rcases HR.out i wr HI.out with ⟨h, _⟩ | ⟨a', cap', h, _, _, h4⟩
          · cases h
          · cases h; exact run_routeLoad (h4.route hr)
        have hc := HC.out i r wr hr HI.out
        clear hr
        cases hp : Pr i with
        | true =>
          rw [hp] at hc
          have HP := Lib.hid hp
          clear hp
          go_wp2_with (go_at_fn g; refine hc.mono ?_; rintro e w' ⟨rfl, hi'⟩)
          go_ret
          exact .inr ⟨i, hlt, rfl, HF.out, HP.out, hi'⟩
        | false =>
          rw [hp] at hc
          have HP := Lib.hid hp
          clear hp
          go_wp2_with (go_at_fn g; refine hc.mono ?_; rintro e w' ⟨rfl, hi'⟩)
          go_roundw
          case rel => exact ⟨i + 1, by omega, by go_num, ⟨by omega, fun j hj => by
            by_cases e : j = i
            · rw [e]; exact HP.out
            · exact HF.out.no j (by omega)⟩, hi'⟩
          case measure => simp [intOf]; omega
      · obtain rfl : i = n := by omega
        go_wp2
        go_ret
        exact .inl ⟨rfl, HF.out, HI.out⟩
end Go.Proofs.Ytggjcjijoihilaa
namespace Go.Proofs.Ytggjcjijoihilaa
open Go.RowKit Go.Sort Go.Shelf
attribute [local go_sem ↓] loadVar_key loadVar_pre loadVar_route storeVar_pre

def ContPost (Pr : Nat → Bool) (n : Nat) (I : Nat → World → Prop) (e : Ending) (w' : World) : Prop :=
  (e = .returned (.bool false) ∧ FirstAt Pr n n ∧ I n w') ∨ ∃ i : Nat, i < n ∧ e = .returned (.bool true) ∧ FirstAt Pr n i ∧ Pr i = true ∧ I (i + 1) w'

set_option maxHeartbeats 1000000 in
set_option maxRecDepth 100000 in
theorem contains_any (l : List Rt) (v : Value) (g : Nat) (cb : Array Value) (Pr : Nat → Bool) (I : Nat → World → Prop) (w : World)
    (hR : ∀ i W, I i W → Rd W v l) (eg : ∀ args w, (callFunc g args).run Try.prog w = .ok (.enter g args) w)
    (hC : ∀ i r W, l[i]? = some r → I i W → Calls Try.prog g (#[.agg (rc r)] ++ cb) W fun e w' => e = .returned (.bool (Pr i)) ∧ I (i + 1) w') (h0 : I 0 w) :
    Calls Try.prog 43 #[v, .func (.func g) #[] cb] w (ContPost Pr l.length I) := by
  have C := index_any l v g cb Pr I w hR eg hC h0
  have HC := Lib.hid C
  clear C hR hC h0 eg
  go_enter Try.func43, Try.ntmps43
  go_wp2_with fail
  refine HC.out.mono ?_
  rintro e w' (⟨rfl, hf, hi⟩ | ⟨i, hi, rfl, hf, hp, hI⟩)
  · go_wp2
    go_ret
    exact .inl ⟨rfl, hf, hi⟩
  · have HP := Lib.hid hp
    clear hp
    go_wp2
    go_ret
    exact .inr ⟨i, hi, rfl, hf, HP.out, hI⟩

theorem misplaced_any (w : World) : Calls Try.prog 44 #[] w fun e w' =>
    e = .returned (.func (.func 72) #[] #[.pointer (some ⟨w.heap.size + 1, 0, none⟩), .pointer (some ⟨w.heap.size, 0, none⟩)]) ∧ w' = (w.alloc (.cells (pc zpre) 26)).alloc (.cells #[.bool true] 4) := by
  go_enter Try.func44, Try.ntmps44
  go_wp2
  go_ret
  exact ⟨rfl, rfl⟩

/-- What the closure keeps: whether none came, and who came last. -/
structure Boxes (B : Nat) (W : World) (bf ba : Nat) (f : Bool) (q : Pre) : Prop where
  lf : B ≤ bf
  la : B ≤ ba
  ne : bf ≠ ba
  hf : W.heap[bf]? = some (.cells #[.bool f] 4 (0, 0))
  ha : W.heap[ba]? = some (.cells (pc q) 26 (0, 0))

theorem heap_lt {W : World} {b : Nat} {o : Obj} (h : W.heap[b]? = some o) : b < W.heap.size := (Array.getElem?_eq_some_iff.1 h).1
theorem cell_of {W : World} {b : Nat} {cs : Array Value} {t : TypeId} (h : W.heap[b]? = some (.cells cs t (0, 0))) (j : Nat) : W.cell? ⟨b, j, none⟩ = cs[j]? := cell_of_row W b j cs t (0, 0) h
theorem rowAt_of {W : World} {b : Nat} {cs : Array Value} {t : TypeId} (h : W.heap[b]? = some (.cells cs t (0, 0))) : RowAt W b 0 cs := fun j v hv => by rw [Nat.zero_add, cell_of h]; exact hv
theorem frozen_of {W : World} {b : Nat} {cs : Array Value} {t : TypeId} (h : W.heap[b]? = some (.cells cs t (0, 0))) (j : Nat) : W.frozen? ⟨b, j, none⟩ = false := by
  simp [World.frozen?, h]

theorem Boxes.later {B : Nat} {W W' : World} {bf ba : Nat} {f : Bool} {q : Pre} (h : Boxes B W bf ba f q) (hb : Below W.heap.size W W') : Boxes B W' bf ba f q :=
  ⟨h.lf, h.la, h.ne, by rw [hb.block _ (heap_lt h.hf)]; exact h.hf, by rw [hb.block _ (heap_lt h.ha)]; exact h.ha⟩

theorem Boxes.set {B : Nat} {W : World} {bf ba : Nat} {f : Bool} {q : Pre} (h : Boxes B W bf ba f q) (p : Pre) : Boxes B ((W.setRow ba (pc p)).setCell ⟨bf, 0, none⟩ (.bool false)) bf ba false p ∧ Below B W ((W.setRow ba (pc p)).setCell ⟨bf, 0, none⟩ (.bool false)) := by
  have h1 : (W.setRow ba (pc p)).heap[bf]? = some (.cells #[.bool f] 4 (0, 0)) := by rw [setRow_other _ _ _ _ h.ne]; exact h.hf
  have e : (W.setRow ba (pc p)).setCell ⟨bf, 0, none⟩ (.bool false) = (W.setRow ba (pc p)).setRow bf #[.bool false] := by
    rw [setCell_eq_setRow _ bf 0 #[.bool f] _ _ _ h1]; rfl
  rw [e]
  refine ⟨⟨h.lf, h.la, h.ne, setRow_heap _ _ _ _ _ _ h1, ?_⟩, ?_⟩
  · rw [setRow_other _ _ _ _ (Ne.symm h.ne)]; exact setRow_heap _ _ _ _ _ _ h.ha
  · exact below_setRow (below_setRow (Below.refl _ _) h.la _) h.lf _

def badB (f : Bool) (q : Pre) (r : Pre) : Bool := if mayB r = true then (if f = true then false else !lessB q r) else true

set_option maxHeartbeats 1000000 in
set_option maxRecDepth 100000 in
theorem closure_any (B : Nat) (W : World) (bf ba : Nat) (f : Bool) (q : Pre) (r : Rt) (hq : Bytes16 q.key) (h : Boxes B W bf ba f q) :
    Calls Try.prog 72 #[.agg (rc r), .pointer (some ⟨bf, 0, none⟩), .pointer (some ⟨ba, 0, none⟩)] W fun e w' =>
      e = .returned (.bool (badB f q r.pre)) ∧ Boxes B w' bf ba false r.pre ∧ Below B W w' := by
  have hBW : B ≤ W.heap.size := by have := heap_lt h.hf; have := h.lf; omega
  have T : ∀ w1, Below (W.alloc (.cells (rc r) 34)).heap.size (W.alloc (.cells (rc r) 34)) w1 →
      (w1.cell? ⟨bf, 0, none⟩ = some (.bool f) ∧ w1.frozen? ⟨bf, 0, none⟩ = false ∧ (w1.setRow ba (pc r.pre)).cell? ⟨bf, 0, none⟩ = some (.bool f) ∧ (w1.setRow ba (pc r.pre)).frozen? ⟨bf, 0, none⟩ = false ∧
        (preLoad ⟨ba, 0, none⟩).run Try.prog w1 = .ok (.agg (pc q)) w1 ∧ (preLoad ⟨W.heap.size, 0, none⟩).run Try.prog w1 = .ok (.agg (pc r.pre)) w1 ∧ (preStore ⟨ba, 0, none⟩ (.agg (pc r.pre))).run Try.prog w1 = .ok () (w1.setRow ba (pc r.pre))) ∧
      Boxes B ((w1.setRow ba (pc r.pre)).setCell ⟨bf, 0, none⟩ (.bool false)) bf ba false r.pre ∧ Below B W ((w1.setRow ba (pc r.pre)).setCell ⟨bf, 0, none⟩ (.bool false)) := fun w1 hb => by
    have hB2 : Below W.heap.size W w1 := ((Below.refl W.heap.size W).alloc (Nat.le_refl _) _).trans (hb.mono (by simp))
    have h1 := h.later hB2
    have hr : CellsAt w1 ⟨W.heap.size, 0, none⟩ (rl r) := CellsAt.below (B := W.heap.size + 1) (fun j u hu => by
      have hadd : (⟨W.heap.size, 0, none⟩ : Addr).add j = ⟨W.heap.size, j, none⟩ := by unfold Addr.add; split <;> simp_all
      rw [hadd, World.cell?_alloc_at _ _ _ _ rfl]; simpa [rc] using hu) (hb.mono (by simp)) (by simp)
    have hg : (w1.setRow ba (pc r.pre)).heap[bf]? = some (.cells #[.bool f] 4 (0, 0)) := by rw [setRow_other _ _ _ _ h.ne]; exact h1.hf
    refine ⟨⟨by rw [cell_of h1.hf]; rfl, frozen_of h1.hf 0, by rw [cell_of hg]; rfl, frozen_of hg 0, ?_, run_preLoadA hr.pre, run_preStore h1.ha (pc_size _)⟩, (h1.set r.pre).1, (hB2.mono hBW).trans (h1.set r.pre).2⟩
    exact run_preLoad (rowAt_of h1.ha)
  have C1 := may_any r.pre r.hk (W.alloc (.cells (rc r) 34))
  have C2 := fun w => less_any q r.pre hq r.hk w
  obtain ⟨⟨-, -, -, -, -, l0, -⟩, -⟩ := T _ (Below.refl _ _)
  have HT := Lib.hid T
  clear T h
  have HF : Hid (badB f q r.pre = badB f q r.pre) := rfl
  unfold badB at HF ⊢
  cases hm : mayB r.pre with
  | false =>
    rw [hm] at C1
    have HC := Lib.hid C1
    clear C1 C2 hm
    go_enter Try.func72, Try.ntmps72
    go_wp2_with fail
    refine HC.out.mono ?_
    rintro e w1 ⟨rfl, h1⟩
    obtain ⟨⟨cf, ff, cf', ff', lq, lr, sr⟩, hB, hW⟩ := HT.out w1 h1
    go_wp2
    go_ret
    exact ⟨rfl, hB, hW⟩
  | true =>
    rw [hm] at C1
    have HC := Lib.hid C1
    clear C1 hm
    cases f with
    | true =>
      clear C2
      go_enter Try.func72, Try.ntmps72
      go_wp2_with fail
      refine HC.out.mono ?_
      rintro e w1 ⟨rfl, h1⟩
      obtain ⟨⟨cf, ff, cf', ff', lq, lr, sr⟩, hB, hW⟩ := HT.out w1 h1
      go_wp2
      go_ret
      exact ⟨rfl, hB, hW⟩
    | false =>
      have HD := Lib.hid C2
      clear C2
      go_enter Try.func72, Try.ntmps72
      go_wp2_with fail
      refine HC.out.mono ?_
      rintro e w1 ⟨rfl, h1⟩
      obtain ⟨⟨cf, ff, cf', ff', lq, lr, sr⟩, -, -⟩ := HT.out w1 h1
      go_wp2_with fail
      refine (HD.out _).mono ?_
      rintro e w2 ⟨rfl, h2⟩
      obtain ⟨⟨cf, ff, cf', ff', lq, lr, sr⟩, hB, hW⟩ := HT.out w2 (h1.trans (h2.mono h1.size))
      go_wp2
      go_ret
      exact ⟨rfl, hB, hW⟩
end Go.Proofs.Ytggjcjijoihilaa
namespace Go.Proofs.Ytggjcjijoihilaa
open Go.RowKit Go.Sort Go.Shelf

/-- The prefix of the route ahead of place i. -/
def prevOf (l : List Rt) : Nat → Pre
  | 0 => zpre
  | j + 1 => match l[j]? with
    | some r => r.pre
    | none => zpre
def badAt (l : List Rt) (i : Nat) : Bool := match l[i]? with
  | some r => badB (i == 0) (prevOf l i) r.pre
  | none => false
def okL (l : List Rt) : Bool := (List.range l.length).all fun i => !badAt l i
def rightB (l : List Rt) : Bool := decide (l.length ≤ 256) && okL l

theorem prevOf_bytes (l : List Rt) (i : Nat) : Bytes16 (prevOf l i).key := by
  unfold prevOf
  split
  · exact zkey_bytes
  · split
    · exact Rt.hk _
    · exact zkey_bytes

theorem okL_true {l : List Rt} (h : FirstAt (badAt l) l.length l.length) : okL l = true := by
  unfold okL
  rw [List.all_eq_true]
  intro i hi
  rw [h.no i (by simpa using hi)]; rfl
theorem okL_false {l : List Rt} {i : Nat} (hi : i < l.length) (h : badAt l i = true) : okL l = false := by
  unfold okL
  rw [List.all_eq_false]
  exact ⟨i, by simpa using hi, by rw [h]; simp⟩

theorem rd_len {w : World} {v : Value} {l : List Rt} (h : Rd w v l) : ∃ a cap, v = .slice a l.length cap ∧ l.length ≤ maxLen := by
  rcases h with ⟨rfl, rfl⟩ | ⟨a, cap, rfl, h1, h2, _⟩
  · exact ⟨none, 0, rfl, by simp [maxLen]⟩
  · exact ⟨some a, cap, rfl, by omega⟩

set_option maxHeartbeats 1000000 in
set_option maxRecDepth 100000 in
theorem right_any (l : List Rt) (v : Value) (w : World) (hR : Rd w v l) :
    Calls Try.prog 15 #[v] w fun e w' => e = .returned (.bool (rightB l)) ∧ Below w.heap.size w w' := by
  obtain ⟨a, cap, hv, hm⟩ := rd_len hR
  unfold maxLen at hm
  by_cases hl : l.length ≤ 256
  · have C := misplaced_any w
    have D := contains_any l v 72 #[.pointer (some ⟨w.heap.size + 1, 0, none⟩), .pointer (some ⟨w.heap.size, 0, none⟩)] (badAt l)
      (fun i W => Below w.heap.size w W ∧ Boxes w.heap.size W (w.heap.size + 1) w.heap.size (i == 0) (prevOf l i)) ((w.alloc (.cells (pc zpre) 26)).alloc (.cells #[.bool true] 4))
      (fun i W h => hR.later h.1) (enters_of Try.func72 (by kernel_rfl) rfl)
      (fun i r W hr ⟨hb, hx⟩ => by
        refine (closure_any w.heap.size W _ _ _ _ r (prevOf_bytes l i) hx).mono ?_
        rintro e w' ⟨rfl, h1, h2⟩
        refine ⟨by simp [badAt, hr], hb.trans h2, ?_⟩
        have e1 : prevOf l (i + 1) = r.pre := by simp [prevOf, hr]
        rw [e1]
        simpa using h1)
      ⟨((Below.refl _ _).alloc (Nat.le_refl _) _).alloc (by simp) _, by
        refine ⟨by omega, Nat.le_refl _, by omega, ?_, ?_⟩
        · have := Go.heap_alloc_new (w.alloc (.cells (pc zpre) 26)) (.cells #[.bool true] 4)
          simpa using this
        · rw [Go.heap_alloc_old _ _ (by simp)]; exact Go.heap_alloc_new w _⟩
    have HC := Lib.hid C
    have HD := Lib.hid D
    have HR : Hid (rightB l = okL l) := by show _ = _; unfold rightB; simp [hl]
    clear C D hR
    obtain ⟨n, hn⟩ : ∃ n, n = l.length := ⟨_, rfl⟩
    rw [← hn] at hv hm hl HD
    have hlI : (n : Int) ≤ 256 := by omega
    have HN := Lib.hid hn
    subst hv
    clear hn
    go_enter Try.func15, Try.ntmps15
    go_wp2_with fail
    refine HC.out.mono ?_
    rintro e w' ⟨rfl, rfl⟩
    go_wp2_with fail
    refine HD.out.mono ?_
    rintro e w' (⟨rfl, hf, hb, -⟩ | ⟨i, hi, rfl, hf, hp, hb, -⟩)
    · go_wp2
      go_ret
      exact ⟨ret_bool (by rw [HR.out, okL_true (by rw [← HN.out]; exact hf)]), hb⟩
    · have HP := Lib.hid hp
      clear hp
      go_wp2
      go_ret
      exact ⟨ret_bool (by rw [HR.out, okL_false (by rw [← HN.out]; exact hi) HP.out]), hb⟩
  · have HR : Hid (rightB l = false) := by show _ = _; unfold rightB; simp [hl]
    clear hR
    obtain ⟨n, hn⟩ : ∃ n, n = l.length := ⟨_, rfl⟩
    rw [← hn] at hv hm hl
    have hlI : ¬ (n : Int) ≤ 256 := by omega
    subst hv
    clear hn
    go_enter Try.func15, Try.ntmps15
    go_wp2
    go_ret
    exact ⟨ret_bool HR.out.symm, Below.refl _ _⟩
end Go.Proofs.Ytggjcjijoihilaa
