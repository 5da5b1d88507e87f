/- slices.IndexFunc, ContainsFunc over faults, pages, blocks, by a function that only reads: which one is the first. -/
import Derived.Test.YtilgppijmkcomaaChipSmall
import Derived.LoopTactic
import Derived.Shelf.Abstract
namespace Go.Proofs.Ytilgppijmkcomaa.Chip
open Go.RowKit Go.Sort Go.Shelf

/-- All cells of a struct, loaded. -/
theorem run_load_cells {P : Program} {w : World} {T : TypeId} {a : Addr} {cs : List Value} {d : TypeDesc} (hu : P.underlying T = some d) (hd : (match d with | .struct _ | .array _ _ => true | _ => false) = true)
    (hi : (P.info? T).map (·.size) = some cs.length) (h : ∀ (j : Nat) u, cs[j]? = some u → w.cell? (a.add j) = some u) : (loadVar T a).run P w = .ok (.agg cs.toArray) w := by
  have hl : (loadCells a cs.length).run P w = .ok cs.toArray w := run_loadCells_list (P := P) w a cs h
  cases hq : P.info? T with
  | none => simp [hq] at hi
  | some i =>
    have hs : i.size = cs.length := by simpa [hq] using hi
    have hagg : (isAgg T).run P w = .ok true w := by
      unfold isAgg
      rw [Sem.run_bind, run_underlying hu w]
      cases d <;> simp_all
    simp [loadVar, Sem.run_bind, hagg, sizeOf, typeInfo, hq, hs, hl]
def blkLoad (a : Addr) : Sem Value := loadVar 40 a
theorem loadVar_blk (a : Addr) : loadVar 40 a = blkLoad a := rfl
def fltLoad (a : Addr) : Sem Value := loadVar 56 a
theorem loadVar_flt (a : Addr) : loadVar 56 a = fltLoad a := rfl
theorem infoBlk : (Try.prog.info? 40).map (·.size) = some 4 := by kernel_rfl
theorem infoFlt : (Try.prog.info? 56).map (·.size) = some 4 := by kernel_rfl
def blkV (x : Value) (b : Blk) : Value := .agg #[x, .int .i64 b.used, .int .i64 b.worn, .bool b.bad]
def fltV (f : Flt) : Value := .agg #[.int .i64 f.op, .bool f.fail, .bool f.cut, .int .u8 (f.mask.toNat : Int)]
theorem run_blkLoad {w : World} {b o i : Nat} {xs : List Value} {bs : List Blk} {x : Value} {k : Blk} (h : ∀ (j : Nat) u, (bkAll xs bs)[j]? = some u → w.cell? ⟨b, o + j, none⟩ = some u) (hx : xs[i]? = some x) (hk : bs[i]? = some k) :
    (blkLoad ⟨b, o + i * 4, none⟩).run Try.prog w = .ok (blkV x k) w :=
  run_load_cells (cs := bkC x k) Try.underlying40 rfl infoBlk fun j u hu => by
    have hj : j < 4 := (List.getElem?_eq_some_iff.1 hu).1
    rw [add_here, Nat.add_assoc]
    exact h _ u (by rw [bkAll_at hx hk hj]; exact hu)
theorem run_fltLoad {w : World} {b o i : Nat} {fs : List Flt} {f : Flt} (h : ∀ (j : Nat) u, (flAll fs)[j]? = some u → w.cell? ⟨b, o + j, none⟩ = some u) (hk : fs[i]? = some f) :
    (fltLoad ⟨b, o + i * 4, none⟩).run Try.prog w = .ok (fltV f) w :=
  run_load_cells (cs := flC f) Try.underlying56 rfl infoFlt fun j u hu => by
    have hj : j < 4 := (List.getElem?_eq_some_iff.1 hu).1
    rw [add_here, Nat.add_assoc]
    exact h _ u (by rw [flAll_at hk hj]; exact hu)
attribute [local go_sem ↓] loadVar_blk loadVar_flt

def idxOf {α : Type} (Pr : α → Bool) (l : List α) : Int := match l.findIdx? Pr with | some i => (i : Int) | none => -1
def Clear {α : Type} (Pr : α → Bool) (l : List α) (i : Nat) : Prop := ∀ (j : Nat) b, j < i → l[j]? = some b → Pr b = false
theorem Clear.zero {α : Type} (Pr : α → Bool) (l : List α) : Clear Pr l 0 := fun _ _ h => absurd h (Nat.not_lt_zero _)
theorem Clear.next {α : Type} {Pr : α → Bool} {l : List α} {i : Nat} {b : α} (h : Clear Pr l i) (hb : l[i]? = some b) (hp : Pr b = false) : Clear Pr l (i + 1) := fun j c hj hc => by
  by_cases e : j = i
  · subst e; rw [hb] at hc; cases hc; exact hp
  · exact h j c (by omega) hc
theorem idx_none {α : Type} {Pr : α → Bool} {l : List α} (h : Clear Pr l l.length) : idxOf Pr l = -1 ∧ l.any Pr = false := by
  have h1 : ∀ x ∈ l, Pr x = false := fun x hx => by
    obtain ⟨i, hi, rfl⟩ := List.mem_iff_getElem.1 hx
    exact h i _ hi (List.getElem?_eq_getElem hi)
  refine ⟨?_, by rw [List.any_eq_false]; intro x hx; rw [h1 x hx]; decide⟩
  unfold idxOf
  rw [List.findIdx?_eq_none_iff.2 h1]
theorem idx_some {α : Type} {Pr : α → Bool} {l : List α} {i : Nat} {b : α} (h : Clear Pr l i) (hb : l[i]? = some b) (hp : Pr b = true) : idxOf Pr l = i ∧ l.any Pr = true := by
  have hi := (List.getElem?_eq_some_iff.1 hb).1
  refine ⟨?_, by rw [List.any_eq_true]; exact ⟨b, List.mem_iff_getElem?.2 ⟨i, hb⟩, hp⟩⟩
  unfold idxOf
  have : l.findIdx? Pr = some i := by
    rw [List.findIdx?_eq_some_iff_getElem]
    refine ⟨hi, by rw [(List.getElem?_eq_some_iff.1 hb).2]; exact hp, fun j hj => ?_⟩
    rw [h j _ hj (List.getElem?_eq_getElem (by omega))]; decide
  rw [this]
theorem idx_ge {α : Type} (Pr : α → Bool) (l : List α) : (l.any Pr = true → 0 ≤ idxOf Pr l) ∧ (l.any Pr = false → idxOf Pr l = -1) := by
  constructor
  · intro h
    unfold idxOf
    rw [List.any_eq_true] at h
    cases hf : l.findIdx? Pr with
    | none => rw [List.findIdx?_eq_none_iff] at hf; obtain ⟨x, h1, h2⟩ := h; rw [hf x h1] at h2; cases h2
    | some i => simp
  · intro h
    unfold idxOf
    rw [List.any_eq_false] at h
    rw [List.findIdx?_eq_none_iff.2 fun x hx => by simpa using h x hx]

def IdxPost {α : Type} (Pr : α → Bool) (l : List α) (w : World) (e : Ending) (w' : World) : Prop := e = .returned (.int .i64 (idxOf Pr l)) ∧ Below w.heap.size w w'
theorem IdxPost_eq {α : Type} (Pr : α → Bool) (l : List α) (w : World) : IdxPost Pr l w = fun e w' => e = .returned (.int .i64 (idxOf Pr l)) ∧ Below w.heap.size w w' := rfl

set_option maxHeartbeats 1000000 in
set_option maxRecDepth 100000 in
theorem idxF_any (l : List Flt) (v : Value) (g : Nat) (cb : Array Value) (Pr : Flt → Bool) (w : World) (hR : RdF w v l) (eg : ∀ args w, (callFunc g args).run Try.prog w = .ok (.enter g args) w)
    (hC : ∀ (i : Nat) r W, l[i]? = some r → Below w.heap.size w W → Calls Try.prog g (#[fltV r] ++ cb) W fun e w' => e = .returned (.bool (Pr r)) ∧ Below W.heap.size W w') :
    Calls Try.prog 33 #[v, .func (.func g) #[] cb] w (IdxPost Pr l w) := by
  have HC := Lib.hid hC
  obtain ⟨n, hn⟩ : ∃ n, n = l.length := ⟨_, rfl⟩
  have HN := Lib.hid hn
  have HR : Hid (∀ W, Below w.heap.size w W → RdF W v l) := fun W h => hR.later h
  by_cases h0 : n = 0
  · obtain ⟨a, cap, hv, -, -⟩ : ∃ a cap, v = .slice a l.length cap ∧ l.length ≤ cap ∧ cap ≤ maxLen := by exact hR.len
    rw [← hn, h0] at hv
    subst hv
    have hE : idxOf Pr l = -1 := (idx_none (fun j _ hj => absurd hj (by omega))).1
    unfold IdxPost
    rw [hE]
    clear hC hR hn h0 hE
    go_enter Try.func33, Try.ntmps33
    go_wp2
    go_loop [5, 8] (fun _ t => t = .int .i64 0) (fun _ _ => 0)
    case atStart => exact rfl
    case round =>
      subst hrel
      go_wp2
      go_ret
      exact ⟨rfl, Below.refl _ _⟩
  · have hpos : 0 < l.length := by omega
    obtain ⟨r0, hr0⟩ : ∃ r, l[0]? = some r := ⟨l[0], List.getElem?_eq_getElem hpos⟩
    obtain ⟨b, o, cap, rfl, hlc, hcm, hcs⟩ := RdRow.form hR (x := .int .i64 r0.op) hpos (by have := flAll_at hr0 (j := 0) (by omega); simpa [flC] using this)
    rw [← hn] at hlc
    unfold maxLen at hcm
    have hn63 : (n : Int) ≤ 9223372036854775807 := by omega
    have HL : Hid (∀ W i r, Below w.heap.size w W → l[i]? = some r → (fltLoad ⟨b, o + i * 4, none⟩).run Try.prog W = .ok (fltV r) W) := fun W i r hb hr => by
      exact run_fltLoad (fun j u hu => by have := hcs j u hu; rw [hb.cell (World.block_lt_of_cell? _ _ this)]; exact this) hr
    rw [← hn]
    unfold IdxPost
    clear hC hR hn hlc hcm hr0 hcs
    go_enter Try.func33, Try.ntmps33
    go_wp2
    go_loopw [5, 8] (fun _ t wr => ∃ i : Nat, i ≤ n ∧ t = .int .i64 i ∧ Hid (Clear Pr l i) ∧ Below w.heap.size w wr) (fun _ t _ => n - (intOf t).toNat)
    case atStart => exact ⟨0, Nat.zero_le _, rfl, Clear.zero _ _, Below.refl _ _⟩
    case round =>
      obtain ⟨i, hi, rfl, HF, hB⟩ := hrel
      by_cases hlt : i < n
      · have hltI : (i : Int) < n := by omega
        obtain ⟨r, hr⟩ : ∃ r, l[i]? = some r := ⟨l[i]'(by rw [← HN.out]; exact hlt), List.getElem?_eq_getElem _⟩
        have hx := HL.out wr i r hB hr
        have hc := HC.out i r wr hr hB
        have hld := hx
        have HB := Lib.hid hr
        clear hr hx
        cases hp : Pr r with
        | true =>
          rw [hp] at hc
          have HP := Lib.hid hp
          clear hp
          have HD := Lib.hid hc
          clear hc
          go_wp2_with (go_at_fn g; refine HD.out.mono ?_; rintro e w' ⟨rfl, hi'⟩)
          go_ret
          exact ⟨by rw [(idx_some HF.out HB.out HP.out).1]; rfl, hB.trans (hi'.mono hB.size)⟩
        | false =>
          rw [hp] at hc
          have HP := Lib.hid hp
          clear hp
          have HD := Lib.hid hc
          clear hc
          go_wp2_with (go_at_fn g; refine HD.out.mono ?_; rintro e w' ⟨rfl, hi'⟩)
          go_roundw
          case rel => exact ⟨i + 1, by omega, by go_num, HF.out.next HB.out HP.out, hB.trans (hi'.mono hB.size)⟩
          case measure => simp [intOf]; omega
      · obtain rfl : i = n := by omega
        go_wp2
        go_ret
        exact ⟨by rw [(idx_none (by rw [← HN.out]; exact HF.out)).1]; rfl, hB⟩

set_option maxHeartbeats 1000000 in
set_option maxRecDepth 100000 in
theorem idxK_any (l : List Blk) (v : Value) (g : Nat) (cb : Array Value) (Pr : Blk → Bool) (w : World) (hR : RdK w v l) (eg : ∀ args w, (callFunc g args).run Try.prog w = .ok (.enter g args) w)
    (hC : ∀ (i : Nat) r x W, l[i]? = some r → RdP W x r.pages → Below w.heap.size w W → Calls Try.prog g (#[blkV x r] ++ cb) W fun e w' => e = .returned (.bool (Pr r)) ∧ Below W.heap.size W w') :
    Calls Try.prog 35 #[v, .func (.func g) #[] cb] w (IdxPost Pr l w) := by
  have HC := Lib.hid hC
  obtain ⟨n, hn⟩ : ∃ n, n = l.length := ⟨_, rfl⟩
  have HN := Lib.hid hn
  have HR : Hid (∀ W, Below w.heap.size w W → RdK W v l) := fun W h => hR.later h
  by_cases h0 : n = 0
  · obtain ⟨a, cap, hv, -, -⟩ : ∃ a cap, v = .slice a l.length cap ∧ l.length ≤ cap ∧ cap ≤ maxLen := by obtain ⟨xs, -, h2⟩ := hR; exact h2.len
    rw [← hn, h0] at hv
    subst hv
    have hE : idxOf Pr l = -1 := (idx_none (fun j _ hj => absurd hj (by omega))).1
    unfold IdxPost
    rw [hE]
    clear hC hR hn h0 hE
    go_enter Try.func35, Try.ntmps35
    go_wp2
    go_loop [5, 8] (fun _ t => t = .int .i64 0) (fun _ _ => 0)
    case atStart => exact rfl
    case round =>
      subst hrel
      go_wp2
      go_ret
      exact ⟨rfl, Below.refl _ _⟩
  · have hpos : 0 < l.length := by omega
    obtain ⟨xs, hf2, hrow⟩ := hR
    obtain ⟨r0, hr0⟩ : ∃ r, l[0]? = some r := ⟨l[0], List.getElem?_eq_getElem hpos⟩
    obtain ⟨x0, hx0, -⟩ := f2_left hf2 hr0
    obtain ⟨b, o, cap, rfl, hlc, hcm, hcs⟩ := RdRow.form hrow (x := x0) hpos (by have := bkAll_at hx0 hr0 (j := 0) (by omega); simpa [bkC] using this)
    rw [← hn] at hlc
    unfold maxLen at hcm
    have hn63 : (n : Int) ≤ 9223372036854775807 := by omega
    have HL : Hid (∀ W i r, Below w.heap.size w W → l[i]? = some r → ∃ x, (blkLoad ⟨b, o + i * 4, none⟩).run Try.prog W = .ok (blkV x r) W ∧ RdP W x r.pages) := fun W i r hb hr => by
      obtain ⟨x, h1, h2⟩ := f2_left hf2 hr
      exact ⟨x, run_blkLoad (fun j u hu => by have := hcs j u hu; rw [hb.cell (World.block_lt_of_cell? _ _ this)]; exact this) h1 hr, h2.later hb⟩
    rw [← hn]
    unfold IdxPost
    clear hC hn hlc hcm hr0 hcs hf2 hrow hx0
    go_enter Try.func35, Try.ntmps35
    go_wp2
    go_loopw [5, 8] (fun _ t wr => ∃ i : Nat, i ≤ n ∧ t = .int .i64 i ∧ Hid (Clear Pr l i) ∧ Below w.heap.size w wr) (fun _ t _ => n - (intOf t).toNat)
    case atStart => exact ⟨0, Nat.zero_le _, rfl, Clear.zero _ _, Below.refl _ _⟩
    case round =>
      obtain ⟨i, hi, rfl, HF, hB⟩ := hrel
      by_cases hlt : i < n
      · have hltI : (i : Int) < n := by omega
        obtain ⟨r, hr⟩ : ∃ r, l[i]? = some r := ⟨l[i]'(by rw [← HN.out]; exact hlt), List.getElem?_eq_getElem _⟩
        obtain ⟨x, hld, hx⟩ := HL.out wr i r hB hr
        have hc := HC.out i r x wr hr hx hB
        have HB := Lib.hid hr
        clear hr hx
        cases hp : Pr r with
        | true =>
          rw [hp] at hc
          have HP := Lib.hid hp
          clear hp
          have HD := Lib.hid hc
          clear hc
          go_wp2_with (go_at_fn g; refine HD.out.mono ?_; rintro e w' ⟨rfl, hi'⟩)
          go_ret
          exact ⟨by rw [(idx_some HF.out HB.out HP.out).1]; rfl, hB.trans (hi'.mono hB.size)⟩
        | false =>
          rw [hp] at hc
          have HP := Lib.hid hp
          clear hp
          have HD := Lib.hid hc
          clear hc
          go_wp2_with (go_at_fn g; refine HD.out.mono ?_; rintro e w' ⟨rfl, hi'⟩)
          go_roundw
          case rel => exact ⟨i + 1, by omega, by go_num, HF.out.next HB.out HP.out, hB.trans (hi'.mono hB.size)⟩
          case measure => simp [intOf]; omega
      · obtain rfl : i = n := by omega
        go_wp2
        go_ret
        exact ⟨by rw [(idx_none (by rw [← HN.out]; exact HF.out)).1]; rfl, hB⟩

set_option maxHeartbeats 1000000 in
set_option maxRecDepth 100000 in
theorem idxP_any (l : List (List UInt8)) (v : Value) (g : Nat) (cb : Array Value) (Pr : (List UInt8) → Bool) (w : World) (hR : RdP w v l) (eg : ∀ args w, (callFunc g args).run Try.prog w = .ok (.enter g args) w)
    (hC : ∀ (i : Nat) r x W, l[i]? = some r → RdB W x r → Below w.heap.size w W → Calls Try.prog g (#[x] ++ cb) W fun e w' => e = .returned (.bool (Pr r)) ∧ Below W.heap.size W w') :
    Calls Try.prog 40 #[v, .func (.func g) #[] cb] w (IdxPost Pr l w) := by
  have HC := Lib.hid hC
  obtain ⟨n, hn⟩ : ∃ n, n = l.length := ⟨_, rfl⟩
  have HN := Lib.hid hn
  have HR : Hid (∀ W, Below w.heap.size w W → RdP W v l) := fun W h => hR.later h
  by_cases h0 : n = 0
  · obtain ⟨a, cap, hv, -, -⟩ : ∃ a cap, v = .slice a l.length cap ∧ l.length ≤ cap ∧ cap ≤ maxLen := by obtain ⟨xs, -, h2⟩ := hR; exact h2.len
    rw [← hn, h0] at hv
    subst hv
    have hE : idxOf Pr l = -1 := (idx_none (fun j _ hj => absurd hj (by omega))).1
    unfold IdxPost
    rw [hE]
    clear hC hR hn h0 hE
    go_enter Try.func40, Try.ntmps40
    go_wp2
    go_loop [5, 8] (fun _ t => t = .int .i64 0) (fun _ _ => 0)
    case atStart => exact rfl
    case round =>
      subst hrel
      go_wp2
      go_ret
      exact ⟨rfl, Below.refl _ _⟩
  · have hpos : 0 < l.length := by omega
    obtain ⟨xs, hf2, hrow⟩ := hR
    obtain ⟨r0, hr0⟩ : ∃ r, l[0]? = some r := ⟨l[0], List.getElem?_eq_getElem hpos⟩
    obtain ⟨x0, hx0, -⟩ := f2_left hf2 hr0
    obtain ⟨b, o, cap, rfl, hlc, hcm, hcs⟩ := RdRow.form hrow (x := x0) hpos hx0
    rw [← hn] at hlc
    unfold maxLen at hcm
    have hn63 : (n : Int) ≤ 9223372036854775807 := by omega
    have HL : Hid (∀ W i r, Below w.heap.size w W → l[i]? = some r → ∃ x, W.cell? ⟨b, o + i, none⟩ = some x ∧ RdB W x r) := fun W i r hb hr => by
      obtain ⟨x, h1, h2⟩ := f2_left hf2 hr
      exact ⟨x, by have := hcs i x h1; rw [hb.cell (World.block_lt_of_cell? _ _ this)]; exact this, h2.later hb⟩
    rw [← hn]
    unfold IdxPost
    clear hC hn hlc hcm hr0 hcs hf2 hrow hx0
    go_enter Try.func40, Try.ntmps40
    go_wp2
    go_loopw [5, 8] (fun _ t wr => ∃ i : Nat, i ≤ n ∧ t = .int .i64 i ∧ Hid (Clear Pr l i) ∧ Below w.heap.size w wr) (fun _ t _ => n - (intOf t).toNat)
    case atStart => exact ⟨0, Nat.zero_le _, rfl, Clear.zero _ _, Below.refl _ _⟩
    case round =>
      obtain ⟨i, hi, rfl, HF, hB⟩ := hrel
      by_cases hlt : i < n
      · have hltI : (i : Int) < n := by omega
        obtain ⟨r, hr⟩ : ∃ r, l[i]? = some r := ⟨l[i]'(by rw [← HN.out]; exact hlt), List.getElem?_eq_getElem _⟩
        obtain ⟨x, hld, hx⟩ := HL.out wr i r hB hr
        have hc := HC.out i r x wr hr hx hB
        have HB := Lib.hid hr
        clear hr hx
        cases hp : Pr r with
        | true =>
          rw [hp] at hc
          have HP := Lib.hid hp
          clear hp
          have HD := Lib.hid hc
          clear hc
          go_wp2_with (go_at_fn g; refine HD.out.mono ?_; rintro e w' ⟨rfl, hi'⟩)
          go_ret
          exact ⟨by rw [(idx_some HF.out HB.out HP.out).1]; rfl, hB.trans (hi'.mono hB.size)⟩
        | false =>
          rw [hp] at hc
          have HP := Lib.hid hp
          clear hp
          have HD := Lib.hid hc
          clear hc
          go_wp2_with (go_at_fn g; refine HD.out.mono ?_; rintro e w' ⟨rfl, hi'⟩)
          go_roundw
          case rel => exact ⟨i + 1, by omega, by go_num, HF.out.next HB.out HP.out, hB.trans (hi'.mono hB.size)⟩
          case measure => simp [intOf]; omega
      · obtain rfl : i = n := by omega
        go_wp2
        go_ret
        exact ⟨by rw [(idx_none (by rw [← HN.out]; exact HF.out)).1]; rfl, hB⟩

theorem hasK_any (l : List Blk) (v : Value) (g : Nat) (cb : Array Value) (Pr : Blk → Bool) (w : World) (hR : RdK w v l) (eg : ∀ args w, (callFunc g args).run Try.prog w = .ok (.enter g args) w)
    (hC : ∀ (i : Nat) r x W, l[i]? = some r → RdP W x r.pages → Below w.heap.size w W → Calls Try.prog g (#[blkV x r] ++ cb) W fun e w' => e = .returned (.bool (Pr r)) ∧ Below W.heap.size W w') :
    Calls Try.prog 26 #[v, .func (.func g) #[] cb] w fun e w' => e = .returned (.bool (l.any Pr)) ∧ Below w.heap.size w w' := by
  have C := idxK_any l v g cb Pr w hR eg hC
  obtain ⟨h1, h2⟩ := idx_ge Pr l
  clear hC hR eg
  cases ha : l.any Pr with
  | true =>
    have hd : 0 ≤ idxOf Pr l := h1 ha
    have HC := Lib.hid C
    clear C h1 h2 ha
    obtain ⟨z, hz⟩ : ∃ z, z = idxOf Pr l := ⟨_, rfl⟩
    unfold IdxPost at HC
    rw [← hz] at HC hd
    clear hz
    go_enter Try.func26, Try.ntmps26
    go_wp2_with (with_reducible refine HC.out.mono ?_; rintro e w' ⟨rfl, hb⟩)
    go_ret
    exact ⟨rfl, hb⟩
  | false =>
    rw [IdxPost_eq, h2 ha] at C
    have HC := Lib.hid C
    clear C h1 h2 ha
    go_enter Try.func26, Try.ntmps26
    go_wp2_with (with_reducible refine HC.out.mono ?_; rintro e w' ⟨rfl, hb⟩)
    go_ret
    exact ⟨rfl, hb⟩

theorem hasP_any (l : List (List UInt8)) (v : Value) (g : Nat) (cb : Array Value) (Pr : (List UInt8) → Bool) (w : World) (hR : RdP w v l) (eg : ∀ args w, (callFunc g args).run Try.prog w = .ok (.enter g args) w)
    (hC : ∀ (i : Nat) r x W, l[i]? = some r → RdB W x r → Below w.heap.size w W → Calls Try.prog g (#[x] ++ cb) W fun e w' => e = .returned (.bool (Pr r)) ∧ Below W.heap.size W w') :
    Calls Try.prog 36 #[v, .func (.func g) #[] cb] w fun e w' => e = .returned (.bool (l.any Pr)) ∧ Below w.heap.size w w' := by
  have C := idxP_any l v g cb Pr w hR eg hC
  obtain ⟨h1, h2⟩ := idx_ge Pr l
  clear hC hR eg
  cases ha : l.any Pr with
  | true =>
    have hd : 0 ≤ idxOf Pr l := h1 ha
    have HC := Lib.hid C
    clear C h1 h2 ha
    obtain ⟨z, hz⟩ : ∃ z, z = idxOf Pr l := ⟨_, rfl⟩
    unfold IdxPost at HC
    rw [← hz] at HC hd
    clear hz
    go_enter Try.func36, Try.ntmps36
    go_wp2_with (with_reducible refine HC.out.mono ?_; rintro e w' ⟨rfl, hb⟩)
    go_ret
    exact ⟨rfl, hb⟩
  | false =>
    rw [IdxPost_eq, h2 ha] at C
    have HC := Lib.hid C
    clear C h1 h2 ha
    go_enter Try.func36, Try.ntmps36
    go_wp2_with (with_reducible refine HC.out.mono ?_; rintro e w' ⟨rfl, hb⟩)
    go_ret
    exact ⟨rfl, hb⟩
end Go.Proofs.Ytilgppijmkcomaa.Chip
