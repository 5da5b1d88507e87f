/- What is known of blocks, as plain lists: what is right, which one is first by a rule and by orders, how much room there is, how unlike they are worn. -/
import Derived.KernelRfl
namespace Go.Proofs.Ytkpdkpfmljcllaa.Wear

structure Wb where
  live : Int
  used : Int
  worn : Int
  bad : Bool
instance : Inhabited Wb := ⟨⟨0, 0, 0, false⟩⟩

def top : Int := 1099511627776
def rightE (p : Int) (b : Wb) : Bool := decide (0 ≤ b.live) && decide (b.live ≤ b.used) && decide (b.used ≤ p) && decide (0 ≤ b.worn) && decide (b.worn ≤ top)
def wrongE (p : Int) (b : Wb) : Bool := !rightE p b
def rightB (l : List Wb) (p : Int) : Bool := decide (1 ≤ l.length) && decide (l.length ≤ 32) && decide (1 ≤ p) && decide (p ≤ 16) && !l.any (wrongE p)
theorem rightE_iff {p : Int} {b : Wb} : rightE p b = true ↔ 0 ≤ b.live ∧ b.live ≤ b.used ∧ b.used ≤ p ∧ 0 ≤ b.worn ∧ b.worn ≤ 1099511627776 := by
  unfold rightE top
  simp only [Bool.and_eq_true, decide_eq_true_eq]
  constructor
  · rintro ⟨⟨⟨⟨h1, h2⟩, h3⟩, h4⟩, h5⟩; exact ⟨h1, h2, h3, h4, h5⟩
  · rintro ⟨h1, h2, h3, h4, h5⟩; exact ⟨⟨⟨⟨h1, h2⟩, h3⟩, h4⟩, h5⟩
theorem rightB_iff {l : List Wb} {p : Int} : rightB l p = true ↔ 1 ≤ l.length ∧ l.length ≤ 32 ∧ 1 ≤ p ∧ p ≤ 16 ∧ ∀ b ∈ l, rightE p b = true := by
  unfold rightB wrongE
  simp only [Bool.and_eq_true, decide_eq_true_eq, Bool.not_eq_true', List.any_eq_false]
  constructor
  · rintro ⟨⟨⟨⟨h1, h2⟩, h3⟩, h4⟩, h5⟩; exact ⟨h1, h2, h3, h4, fun b hb => by have := h5 b hb; simpa using this⟩
  · rintro ⟨h1, h2, h3, h4, h5⟩; exact ⟨⟨⟨⟨h1, h2⟩, h3⟩, h4⟩, fun b hb => by simp [h5 b hb]⟩

def freeB (p : Int) (b : Wb) : Bool := !b.bad && decide (b.used < p)
def deadB (b : Wb) : Bool := !b.bad && decide (b.live = 0) && decide (0 < b.used)
def mixedB (p : Int) (b : Wb) : Bool := if b.bad = true then decide (0 < b.live) else decide (b.used = p) && decide (0 < b.live) && decide (b.live < p)
def roomE (p : Int) (b : Wb) : Int := if b.bad = true then 0 else if deadB b = true then p else p - b.used

abbrev Order := Wb → Wb → Int
def cmpI (a b : Int) : Int := if a < b then -1 else if b < a then 1 else 0
def moreUsed : Order := fun a b => cmpI b.used a.used
def lessWorn : Order := fun a b => cmpI a.worn b.worn
def lessLive : Order := fun a b => cmpI a.live b.live
def badAhead : Order := fun a b => if a.bad = b.bad then 0 else if a.bad = true then -1 else 1
def cmpL : List Order → Order
  | [] => fun _ _ => 0
  | o :: os => fun a b => if o a b = 0 then cmpL os a b else o a b

/-- Which one of the first n is first: by the orders, then by its place. -/
def bestTo (R : Wb → Bool) (os : List Order) (l : List Wb) : Nat → Option Nat
  | 0 => none
  | n + 1 => match l[n]? with
    | none => bestTo R os l n
    | some b => if R b = true then (match bestTo R os l n with
        | none => some n
        | some k => if cmpL os b (l.getD k default) < 0 then some n else some k) else bestTo R os l n
def firstL (R : Wb → Bool) (os : List Order) (l : List Wb) (p : Int) : Option Nat := if rightB l p = true then bestTo R os l l.length else none
def atN (o : Option Nat) : Nat := o.getD 0

theorem bestTo_lt (R : Wb → Bool) (os : List Order) (l : List Wb) : ∀ n k, bestTo R os l n = some k → k < n ∧ k < l.length
  | 0, k, h => by simp [bestTo] at h
  | n + 1, k, h => by
    unfold bestTo at h
    cases hb : l[n]? with
    | none =>
      rw [hb] at h
      have := bestTo_lt R os l n k h
      omega
    | some b =>
      have hn := (List.getElem?_eq_some_iff.1 hb).1
      rw [hb] at h
      dsimp only at h
      by_cases hR : R b = true
      · rw [if_pos hR] at h
        cases hq : bestTo R os l n with
        | none => rw [hq] at h; cases h; omega
        | some j =>
          have hj := bestTo_lt R os l n j hq
          rw [hq] at h
          dsimp only at h
          by_cases hc : cmpL os b (l.getD j default) < 0
          · rw [if_pos hc] at h; cases h; omega
          · rw [if_neg hc] at h; cases h; omega
      · rw [if_neg hR] at h
        have := bestTo_lt R os l n k h
        omega

def roomTo (p : Int) (l : List Wb) (n : Nat) : Int := ((l.take n).map (roomE p)).sum
def roomL (l : List Wb) (p : Int) : Int := if rightB l p = true then roomTo p l l.length else 0
theorem roomTo_next {p : Int} {l : List Wb} {n : Nat} {b : Wb} (h : l[n]? = some b) : roomTo p l (n + 1) = roomTo p l n + roomE p b := by
  unfold roomTo
  rw [List.take_add_one, h]
  simp
theorem roomE_bound {p : Int} {b : Wb} (hp : 0 ≤ p) (h : rightE p b = true) : 0 ≤ roomE p b ∧ roomE p b ≤ p := by
  have := rightE_iff.1 h
  unfold roomE
  split
  · omega
  · split <;> omega
theorem roomTo_bound {p : Int} {l : List Wb} (hp : 0 ≤ p) (hl : ∀ b ∈ l, rightE p b = true) : ∀ n : Nat, n ≤ l.length → 0 ≤ roomTo p l n ∧ roomTo p l n ≤ p * n
  | 0, _ => by simp [roomTo]
  | n + 1, h => by
    have hb : l[n]? = some (l[n]'(by omega)) := List.getElem?_eq_getElem _
    have h1 := roomTo_bound hp hl n (by omega)
    have h2 := roomE_bound hp (hl _ (List.mem_of_getElem? hb))
    rw [roomTo_next hb]
    have : p * ((n + 1 : Nat) : Int) = p * n + p := by rw [Int.natCast_add, Int.mul_add]; simp
    omega

/-- How often those that aren't bad were erased. -/
def wornTo (l : List Wb) (n : Nat) : List Int := (l.take n).filterMap fun b => if b.bad = true then none else some b.worn
def maxOf : List Int → Int
  | [] => 0
  | x :: xs => xs.foldl max x
def minOf : List Int → Int
  | [] => 0
  | x :: xs => xs.foldl min x
def spreadL (l : List Wb) : Int := if rightB l 16 = true then (if (wornTo l l.length).length = 0 then 0 else maxOf (wornTo l l.length) - minOf (wornTo l l.length)) else 0
theorem wornTo_next {l : List Wb} {n : Nat} {b : Wb} (h : l[n]? = some b) : wornTo l (n + 1) = if b.bad = true then wornTo l n else wornTo l n ++ [b.worn] := by
  unfold wornTo
  rw [List.take_add_one, h, List.filterMap_append]
  cases hb : b.bad <;> simp [hb]
theorem wornTo_length (l : List Wb) (n : Nat) : (wornTo l n).length ≤ n := by
  unfold wornTo
  refine Nat.le_trans (List.length_filterMap_le _ _) ?_
  rw [List.length_take]; omega
theorem foldl_max_next (xs : List Int) (x y : Int) : (xs ++ [y]).foldl max x = max (xs.foldl max x) y := by rw [List.foldl_append]; rfl
theorem foldl_min_next (xs : List Int) (x y : Int) : (xs ++ [y]).foldl min x = min (xs.foldl min x) y := by rw [List.foldl_append]; rfl
theorem maxOf_next {xs : List Int} {k : Nat} {y : Int} (hk : 0 < k) (h : xs[k]? = some y) : maxOf (xs.take (k + 1)) = max (maxOf (xs.take k)) y := by
  rw [List.take_add_one, h]
  cases xs with
  | nil => simp at h
  | cons x xs =>
    cases k with
    | zero => omega
    | succ k => exact foldl_max_next _ _ _
theorem minOf_next {xs : List Int} {k : Nat} {y : Int} (hk : 0 < k) (h : xs[k]? = some y) : minOf (xs.take (k + 1)) = min (minOf (xs.take k)) y := by
  rw [List.take_add_one, h]
  cases xs with
  | nil => simp at h
  | cons x xs =>
    cases k with
    | zero => omega
    | succ k => exact foldl_min_next _ _ _
theorem foldl_max_spec : ∀ (xs : List Int) (x : Int), xs.foldl max x ∈ x :: xs ∧ ∀ y ∈ x :: xs, y ≤ xs.foldl max x
  | [], x => by simp
  | y :: ys, x => by
    obtain ⟨h1, h2⟩ := foldl_max_spec ys (max x y)
    rw [List.foldl_cons]
    refine ⟨?_, fun z hz => ?_⟩
    · rcases List.mem_cons.1 h1 with h | h
      · rw [h]
        rcases Int.le_total x y with h3 | h3
        · rw [Int.max_eq_right h3]; simp
        · rw [Int.max_eq_left h3]; simp
      · exact List.mem_cons_of_mem _ (List.mem_cons_of_mem _ h)
    · have h0 := h2 _ List.mem_cons_self
      rcases List.mem_cons.1 hz with rfl | hz
      · omega
      · rcases List.mem_cons.1 hz with rfl | hz
        · omega
        · exact h2 z (List.mem_cons_of_mem _ hz)
theorem foldl_min_spec : ∀ (xs : List Int) (x : Int), xs.foldl min x ∈ x :: xs ∧ ∀ y ∈ x :: xs, xs.foldl min x ≤ y
  | [], x => by simp
  | y :: ys, x => by
    obtain ⟨h1, h2⟩ := foldl_min_spec ys (min x y)
    rw [List.foldl_cons]
    refine ⟨?_, fun z hz => ?_⟩
    · rcases List.mem_cons.1 h1 with h | h
      · rw [h]
        rcases Int.le_total x y with h3 | h3
        · rw [Int.min_eq_left h3]; simp
        · rw [Int.min_eq_right h3]; simp
      · exact List.mem_cons_of_mem _ (List.mem_cons_of_mem _ h)
    · have h0 := h2 _ List.mem_cons_self
      rcases List.mem_cons.1 hz with rfl | hz
      · omega
      · rcases List.mem_cons.1 hz with rfl | hz
        · omega
        · exact h2 z (List.mem_cons_of_mem _ hz)
theorem maxOf_spec {l : List Int} (h : 0 < l.length) : maxOf l ∈ l ∧ ∀ y ∈ l, y ≤ maxOf l := by
  cases l with
  | nil => simp at h
  | cons x xs => exact foldl_max_spec xs x
theorem minOf_spec {l : List Int} (h : 0 < l.length) : minOf l ∈ l ∧ ∀ y ∈ l, minOf l ≤ y := by
  cases l with
  | nil => simp at h
  | cons x xs => exact foldl_min_spec xs x
theorem wornTo_mem {l : List Wb} {n : Nat} {z : Int} : z ∈ wornTo l n ↔ ∃ b ∈ l.take n, b.bad = false ∧ b.worn = z := by
  unfold wornTo
  rw [List.mem_filterMap]
  constructor
  · rintro ⟨b, hb, h⟩
    cases hq : b.bad with
    | true => rw [hq] at h; simp at h
    | false => rw [hq] at h; simp at h; exact ⟨b, hb, hq, h⟩
  · rintro ⟨b, hb, hq, h⟩
    exact ⟨b, hb, by simp [hq, h]⟩
theorem wornTo_bound {l : List Wb} {p : Int} (hl : ∀ b ∈ l, rightE p b = true) {n : Nat} {z : Int} (h : z ∈ wornTo l n) : 0 ≤ z ∧ z ≤ 1099511627776 := by
  obtain ⟨b, hb, -, rfl⟩ := wornTo_mem.1 h
  have := rightE_iff.1 (hl b (List.mem_of_mem_take hb))
  omega
end Go.Proofs.Ytkpdkpfmljcllaa.Wear
