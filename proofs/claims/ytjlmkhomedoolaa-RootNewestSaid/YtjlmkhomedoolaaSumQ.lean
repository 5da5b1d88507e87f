/- Numbers as bytes, what is sealed and opened, as plain lists; one bit turned, or two, of what was sealed. -/
import Derived.Test.YtjlmkhomedoolaaSumP
import Derived.KernelRfl
namespace Go.Proofs.Ytjlmkhomedoolaa

theorem order : chk 8031 1 = true := by kernel_rfl
theorem far {d : Nat} (h1 : 1 ≤ d) (h2 : d ≤ 8031) : halfs d 1 ≠ 1 := chk_far 8031 1 d order h1 h2

/-- A number's last bytes, the highest first. -/
def putB (n : Nat) : Nat → List UInt8
  | 0 => []
  | k + 1 => UInt8.ofNat (n / 256 ^ k) :: putB n k
theorem putB_length (n : Nat) : ∀ k, (putB n k).length = k
  | 0 => rfl
  | k + 1 => by simp [putB, putB_length n k]
/-- The number that bytes are. -/
def valB (l : List UInt8) : Nat := l.foldl (fun n x => n * 256 + x.toNat) 0
def getB (l : List UInt8) : Nat := l.foldl (fun n x => (n * 256 + x.toNat) % 18446744073709551616) 0
theorem fold_mod : ∀ (l : List UInt8) (n : Nat), l.foldl (fun n x => (n * 256 + x.toNat) % 18446744073709551616) (n % 18446744073709551616) = l.foldl (fun n x => n * 256 + x.toNat) n % 18446744073709551616
  | [], _ => rfl
  | x :: l, n => by
    have e : (n % 18446744073709551616 * 256 + x.toNat) % 18446744073709551616 = (n * 256 + x.toNat) % 18446744073709551616 := by
      generalize x.toNat = y
      omega
    rw [List.foldl_cons, List.foldl_cons, e]
    exact fold_mod l (n * 256 + x.toNat)
theorem getB_val (l : List UInt8) : getB l = valB l % 18446744073709551616 := fold_mod l 0
theorem fold_val : ∀ (l : List UInt8) (n : Nat), l.foldl (fun n x => n * 256 + x.toNat) n = n * 256 ^ l.length + valB l
  | [], n => by simp [valB]
  | x :: l, n => by
    show l.foldl _ (n * 256 + x.toNat) = n * 256 ^ (l.length + 1) + l.foldl _ (0 * 256 + x.toNat)
    rw [fold_val l, fold_val l (0 * 256 + x.toNat), Nat.pow_succ]
    rw [Nat.add_mul, Nat.zero_mul, Nat.zero_add, Nat.mul_assoc, Nat.mul_comm 256]
    omega
theorem valB_cons (x : UInt8) (l : List UInt8) : valB (x :: l) = x.toNat * 256 ^ l.length + valB l := by
  show l.foldl _ (0 * 256 + x.toNat) = _
  rw [fold_val]; simp
theorem valB_lt : ∀ l : List UInt8, valB l < 256 ^ l.length
  | [] => by decide
  | x :: l => by
    rw [valB_cons]
    have h1 := valB_lt l
    have h2 : x.toNat < 256 := x.toNat_lt
    have h3 : x.toNat * 256 ^ l.length ≤ 255 * 256 ^ l.length := Nat.mul_le_mul_right _ (by omega)
    show _ < 256 ^ (l.length + 1)
    rw [Nat.pow_succ]
    omega
theorem valB_put (n : Nat) : ∀ k, valB (putB n k) = n % 256 ^ k
  | 0 => by simp [putB, valB, Nat.mod_one]
  | k + 1 => by
    rw [putB, valB_cons, putB_length, valB_put n k, UInt8.toNat_ofNat']
    have h := Nat.mod_mul (x := n) (a := 256 ^ k) (b := 256)
    rw [show (256 : Nat) ^ (k + 1) = 256 ^ k * 256 from Nat.pow_succ .., h, Nat.add_comm, Nat.mul_comm]
theorem valB_inj : ∀ (a b : List UInt8), a.length = b.length → valB a = valB b → a = b
  | [], [], _, _ => rfl
  | x :: a, y :: b, hl, h => by
    have hl' : a.length = b.length := by simpa using hl
    rw [valB_cons, valB_cons, hl'] at h
    have h1 := valB_lt a
    have h2 := valB_lt b
    rw [hl'] at h1
    have hp : 0 < 256 ^ b.length := Nat.pos_of_ne_zero (by intro e; rw [e] at h1; omega)
    have e1 : (x.toNat * 256 ^ b.length + valB a) / 256 ^ b.length = x.toNat := by
      rw [Nat.mul_comm, Nat.mul_add_div hp, Nat.div_eq_of_lt h1, Nat.add_zero]
    have e2 : (y.toNat * 256 ^ b.length + valB b) / 256 ^ b.length = y.toNat := by
      rw [Nat.mul_comm, Nat.mul_add_div hp, Nat.div_eq_of_lt h2, Nat.add_zero]
    have e3 : x.toNat = y.toNat := by rw [← e1, ← e2, h]
    have e4 : x = y := UInt8.toNat_inj.1 e3
    subst e4
    rw [valB_inj a b hl' (by omega)]
theorem pow8 {k : Nat} (h : k ≤ 8) : 256 ^ k ≤ 18446744073709551616 := Nat.pow_le_pow_right (n := 256) (by decide) h
theorem get_put (n : Nat) {k : Nat} (h : k ≤ 8) : getB (putB n k) = n % 256 ^ k := by
  rw [getB_val, valB_put]
  refine Nat.mod_eq_of_lt (Nat.lt_of_lt_of_le (Nat.mod_lt _ (Nat.pow_pos (by decide))) (pow8 h))
theorem put_get {l : List UInt8} (h : l.length ≤ 8) : putB (getB l) l.length = l := by
  have hv := valB_lt l
  have hg : getB l = valB l := by
    rw [getB_val]
    exact Nat.mod_eq_of_lt (Nat.lt_of_lt_of_le hv (pow8 h))
  refine valB_inj _ _ (putB_length _ _) ?_
  rw [valB_put, hg, Nat.mod_eq_of_lt hv]

/-- The bytes of a sum. -/
def sealB (l : List UInt8) : List UInt8 := putB (ofC l) 4
theorem sealB_length (l : List UInt8) : (sealB l).length = 4 := putB_length _ _
theorem putB_inj {m n : Nat} (hm : m < 4294967296) (hn : n < 4294967296) (e : putB m 4 = putB n 4) : m = n := by
  have h1 := valB_put m 4
  have h2 := valB_put n 4
  rw [e, h2] at h1
  have h3 : (256 : Nat) ^ 4 = 4294967296 := by decide
  rw [h3, Nat.mod_eq_of_lt hm, Nat.mod_eq_of_lt hn] at h1
  exact h1.symm
/-- What is opened, and whether it is right. -/
def openL (s : List UInt8) : List UInt8 × Int :=
  if s.length < 4 then ([], 3) else if s.drop (s.length - 4) = sealB (s.take (s.length - 4)) then (s.take (s.length - 4), 0) else ([], 4)
theorem open_parts (l c : List UInt8) (h : c.length = 4) : openL (l ++ c) = if c = sealB l then (l, 0) else ([], 4) := by
  have hn : (l ++ c).length - 4 = l.length := by simp [h]
  unfold openL
  rw [if_neg (by simp [h]), hn]
  simp
theorem open_sealed (l : List UInt8) : openL (l ++ sealB l) = (l, 0) := by rw [open_parts l _ (sealB_length l), if_pos rfl]

theorem flipB_append_left {l c : List UInt8} {p : Nat} (h : p < 8 * l.length) : flipB (l ++ c) p = flipB l p ++ c := by
  have hj : p / 8 < l.length := by omega
  unfold flipB
  rw [List.set_append_left _ _ hj, List.getD_eq_getElem?_getD, List.getD_eq_getElem?_getD, List.getElem?_append_left hj]
theorem flipB_append_right {l c : List UInt8} {p : Nat} (h : 8 * l.length ≤ p) : flipB (l ++ c) p = l ++ flipB c (p - 8 * l.length) := by
  have hj : l.length ≤ p / 8 := by omega
  have h1 : (p - 8 * l.length) / 8 = p / 8 - l.length := by omega
  have h2 : (p - 8 * l.length) % 8 = p % 8 := by omega
  unfold flipB
  rw [List.set_append_right _ _ hj, List.getD_eq_getElem?_getD, List.getD_eq_getElem?_getD, List.getElem?_append_right hj, h1, h2]
theorem flip_ne (x : UInt8) (p : Nat) : x ^^^ UInt8.ofNat (2 ^ (p % 8)) ≠ x := fun e => by
  have e1 : x.toNat ^^^ 2 ^ (p % 8) = x.toNat := by rw [← two_nat, ← UInt8.toNat_xor, e]
  have e2 : x.toNat ^^^ (x.toNat ^^^ 2 ^ (p % 8)) = x.toNat ^^^ x.toNat := by rw [e1]
  rw [← Nat.xor_assoc, Nat.xor_self, Nat.zero_xor] at e2
  exact absurd e2 (Nat.ne_of_gt (Nat.pow_pos (by decide)))
theorem flipB_ne {c : List UInt8} {p : Nat} (h : p < 8 * c.length) : flipB c p ≠ c := by
  intro e
  obtain ⟨x, h1, h2⟩ := flipB_parts h
  rw [h2] at e
  have e2 := e.trans h1
  have e3 := List.append_cancel_left e2
  exact flip_ne x p (List.cons.inj e3).1
theorem flipB_back {c : List UInt8} {p : Nat} (h : p < 8 * c.length) : flipB (flipB c p) p = c := by
  have hj : p / 8 < c.length := by omega
  unfold flipB
  have e : (c.set (p / 8) (c.getD (p / 8) 0 ^^^ UInt8.ofNat (2 ^ (p % 8)))).getD (p / 8) 0 = c.getD (p / 8) 0 ^^^ UInt8.ofNat (2 ^ (p % 8)) := by
    rw [List.getD_eq_getElem?_getD, List.getElem?_set_self hj]; rfl
  rw [e, List.set_set, UInt8.xor_assoc, UInt8.xor_self, UInt8.xor_zero, List.getD_eq_getElem?_getD, List.getElem?_eq_getElem hj]
  exact List.set_getElem_self hj
theorem valB_append (a b : List UInt8) : valB (a ++ b) = valB a * 256 ^ b.length + valB b := by
  unfold valB
  rw [List.foldl_append, fold_val]
  rfl
/-- Two bits of one list, turned: it is another one, if they are not the same. -/
theorem two_one {c : List UInt8} {p q : Nat} (hp : p < 8 * c.length) (hq : q < 8 * c.length) (e : flipB (flipB c p) q = c) : p = q := by
  have e1 : flipB c p = flipB c q := by
    have := congrArg (fun l => flipB l q) e
    rwa [flipB_back (by rw [flipB_length]; exact hq)] at this
  by_cases hj : p / 8 = q / 8
  · have hpl : p / 8 < c.length := by omega
    have e2 : (flipB c p)[p / 8]? = (flipB c q)[p / 8]? := by rw [e1]
    unfold flipB at e2
    rw [← hj, List.getElem?_set_self hpl, List.getElem?_set_self hpl] at e2
    have e3 := Option.some.inj e2
    have e4 : (UInt8.ofNat (2 ^ (p % 8))).toNat = (UInt8.ofNat (2 ^ (q % 8))).toNat := by
      have h3 : ∀ y z : UInt8, y ^^^ (y ^^^ z) = z := fun y z => by rw [← UInt8.xor_assoc, UInt8.xor_self, UInt8.zero_xor]
      rw [← h3 (c.getD (p / 8) 0) (UInt8.ofNat (2 ^ (p % 8))), e3, h3]
    rw [two_nat, two_nat] at e4
    have e5 : p % 8 = q % 8 := (Nat.pow_right_inj (a := 2) (by decide)).1 e4
    omega
  · exfalso
    have hpl : p / 8 < c.length := by omega
    have e2 : (flipB c p)[p / 8]? = (flipB c q)[p / 8]? := by rw [e1]
    unfold flipB at e2
    rw [List.getElem?_set_self hpl, List.getElem?_set_ne (fun h => hj h.symm), List.getD_eq_getElem?_getD, List.getElem?_eq_getElem hpl] at e2
    exact flip_ne _ p (Option.some.inj e2)

/-- One bit of a sum's bytes is one bit of the sum. -/
theorem flip_sum {n m q : Nat} (hn : n < 4294967296) (hm : m < 4294967296) (hq : q < 32) (e : flipB (putB n 4) q = putB m 4) : ∃ k, k < 32 ∧ n ^^^ m = 2 ^ k := by
  have b : ∀ j, j < 4 → m / 256 ^ (3 - j) % 256 = n / 256 ^ (3 - j) % 256 ^^^ (if j = q / 8 then 2 ^ (q % 8) else 0) := by
    intro j hj
    have hget : ∀ x : Nat, (putB x 4)[j]? = some (UInt8.ofNat (x / 256 ^ (3 - j))) := fun x => by
      have h4 : j = 0 ∨ j = 1 ∨ j = 2 ∨ j = 3 := by omega
      rcases h4 with rfl | rfl | rfl | rfl <;> rfl
    have e1 : (flipB (putB n 4) q)[j]? = (putB m 4)[j]? := by rw [e]
    rw [hget] at e1
    unfold flipB at e1
    have hl : q / 8 < (putB n 4).length := by rw [putB_length]; omega
    by_cases hjq : j = q / 8
    · subst hjq
      rw [List.getElem?_set_self hl, List.getD_eq_getElem?_getD, hget] at e1
      have e2 := congrArg UInt8.toNat (Option.some.inj e1)
      simp only [Option.getD_some] at e2
      rw [UInt8.toNat_xor, two_nat, UInt8.toNat_ofNat', UInt8.toNat_ofNat'] at e2
      rw [if_pos rfl]
      exact e2.symm
    · rw [List.getElem?_set_ne (fun h => hjq h.symm), hget] at e1
      have e2 := congrArg UInt8.toNat (Option.some.inj e1)
      rw [UInt8.toNat_ofNat', UInt8.toNat_ofNat'] at e2
      rw [if_neg hjq, Nat.xor_zero]
      exact e2.symm
  have hx : ∀ i, (n ^^^ m) / 2 ^ (8 * i) % 2 ^ 8 = (n / 256 ^ i % 256) ^^^ (m / 256 ^ i % 256) := by
    intro i
    have hp : (2 : Nat) ^ (8 * i) = 256 ^ i := by rw [Nat.pow_mul]
    rw [Nat.xor_div_two_pow, Nat.xor_mod_two_pow, hp]
  have hd : ∀ j, j < 4 → (n ^^^ m) / 2 ^ (8 * (3 - j)) % 2 ^ 8 = if j = q / 8 then 2 ^ (q % 8) else 0 := by
    intro j hj
    rw [hx, b j hj, ← Nat.xor_assoc, Nat.xor_self, Nat.zero_xor]
  have hlt : n ^^^ m < 4294967296 := Nat.xor_lt_two_pow (n := 32) hn hm
  generalize n ^^^ m = d at hd hlt
  have h0 := hd 0 (by decide)
  have h1 := hd 1 (by decide)
  have h2 := hd 2 (by decide)
  have h3 := hd 3 (by decide)
  refine ⟨8 * (3 - q / 8) + q % 8, by omega, ?_⟩
  rw [Nat.pow_add]
  clear hd b hx e
  simp only [show 8 * (3 - 0) = 24 from rfl, show 8 * (3 - 1) = 16 from rfl, show 8 * (3 - 2) = 8 from rfl, show 8 * (3 - 3) = 0 from rfl, show (2 : Nat) ^ 24 = 16777216 from rfl, show (2 : Nat) ^ 16 = 65536 from rfl, show (2 : Nat) ^ 8 = 256 from rfl, show (2 : Nat) ^ 0 = 1 from rfl] at h0 h1 h2 h3
  have hp8 : 2 ^ (q % 8) < 256 := Nat.pow_lt_pow_right (a := 2) (by decide) (show q % 8 < 8 from Nat.mod_lt _ (by decide))
  generalize 2 ^ (q % 8) = z at *
  have h4 : q / 8 = 0 ∨ q / 8 = 1 ∨ q / 8 = 2 ∨ q / 8 = 3 := by omega
  rcases h4 with e | e | e | e <;> rw [e] at h0 h1 h2 h3 ⊢ <;> simp only [show 8 * (3 - 0) = 24 from rfl, show 8 * (3 - 1) = 16 from rfl, show 8 * (3 - 2) = 8 from rfl, show 8 * (3 - 3) = 0 from rfl, show (2 : Nat) ^ 24 = 16777216 from rfl, show (2 : Nat) ^ 16 = 65536 from rfl, show (2 : Nat) ^ 8 = 256 from rfl, show (2 : Nat) ^ 0 = 1 from rfl] <;> simp at h0 h1 h2 h3 <;> omega

theorem crcF_len_lt (l : List UInt8) : crcF 4294967295 l < 4294967296 := crcF_lt l (by decide)
/-- One bit of the bytes turns the sum as a power does. -/
theorem ofC_flip {l : List UInt8} {p : Nat} (h : p < 8 * l.length) : ofC l ^^^ ofC (flipB l p) = halfs (8 * l.length - p) 1 := by
  have hx := crcF_flip h 4294967295
  have h1 := crcF_len_lt l
  have h2 := crcF_len_lt (flipB l p)
  have hc : ∀ a, a < 4294967296 → 4294967295 - a = a ^^^ 4294967295 := fun a ha => by
    have e : ∀ i, (4294967295 - a).testBit i = (a ^^^ 4294967295).testBit i := fun i => by
      rw [show 4294967295 - a = 2 ^ 32 - (a + 1) by omega, Nat.testBit_two_pow_sub_succ ha, Nat.testBit_xor, show (4294967295 : Nat) = 2 ^ 32 - 1 from rfl, Nat.testBit_two_pow_sub_one]
      by_cases hi : i < 32
      · simp [hi]
      · have : a.testBit i = false := Nat.testBit_lt_two_pow (Nat.lt_of_lt_of_le ha (show 2 ^ 32 ≤ 2 ^ i from Nat.pow_le_pow_right (by decide) (by omega)))
        simp [hi, this]
    exact Nat.eq_of_testBit_eq e
  show (4294967295 - crcF (4294967295 - 0) l) ^^^ (4294967295 - crcF (4294967295 - 0) (flipB l p)) = _
  rw [Nat.sub_zero, hc _ h1, hc _ h2, hx]
  generalize crcF 4294967295 l = a
  generalize halfs _ 1 = d
  rw [Nat.xor_comm a, Nat.xor_assoc, ← Nat.xor_assoc a, ← Nat.xor_assoc a a, Nat.xor_self, Nat.zero_xor, ← Nat.xor_assoc, Nat.xor_comm 4294967295 d, Nat.xor_assoc, Nat.xor_self, Nat.xor_zero]
theorem seal_flip {l : List UInt8} {p : Nat} (h : p < 8 * l.length) : sealB (flipB l p) ≠ sealB l := fun e => by
  have h1 := putB_inj (onC_lt _ _) (onC_lt _ _) e
  have h2 := ofC_flip h
  have h3 : ofC (flipB l p) = ofC l := h1
  rw [h3, Nat.xor_self] at h2
  exact absurd (halfs_eq_zero _ (by decide) h2.symm) (by decide)
theorem flip_len {l : List UInt8} {p : Nat} : (flipB l p).length = l.length := flipB_length l p
/-- With one bit turned, what was sealed isn't opened. -/
theorem open_flip {l : List UInt8} {p : Nat} (h : p < 8 * (l.length + 4)) : openL (flipB (l ++ sealB l) p) = ([], 4) := by
  by_cases hp : p < 8 * l.length
  · rw [flipB_append_left hp, open_parts _ _ (sealB_length l), if_neg (fun e => seal_flip hp e.symm)]
  · rw [flipB_append_right (by omega), open_parts _ _ (by rw [flipB_length, sealB_length]), if_neg (flipB_ne (by rw [sealB_length]; omega))]
/-- One bit of the bytes, and one of their sum. -/
theorem mix_ne {l : List UInt8} (hl : l.length ≤ 1000) {p q : Nat} (hp : p < 8 * l.length) (hq : q < 32) : flipB (sealB l) q ≠ sealB (flipB l p) := fun e => by
  obtain ⟨k, hk, h1⟩ := flip_sum (onC_lt _ _) (onC_lt _ _) hq e
  have h2 := (ofC_flip hp).symm.trans h1
  have h3 := halfs_pow k
  rw [← h2, ← halfs_add] at h3
  exact far (by omega) (by omega) h3
theorem two_seal {l : List UInt8} (hl : l.length ≤ 1000) {p q : Nat} (hp : p < 8 * l.length) (hq : q < 8 * l.length) (hne : p ≠ q) : sealB (flipB (flipB l p) q) ≠ sealB l := fun e => by
  have h1 : ofC (flipB (flipB l p) q) = ofC l := putB_inj (onC_lt _ _) (onC_lt _ _) e
  have hq' : q < 8 * (flipB l p).length := by rw [flipB_length]; exact hq
  have h2 := ofC_flip hq'
  rw [h1, flipB_length] at h2
  have h3 := ofC_flip hp
  rw [Nat.xor_comm, h3] at h2
  have h4 : ∀ {a b : Nat}, a < b → b ≤ 8000 → halfs a 1 ≠ halfs b 1 := fun {a b} hab hb e => by
    have h5 := halfs_add (b - a) a 1
    rw [show b - a + a = b by omega, ← e] at h5
    exact far (d := b - a) (by omega) (by omega) (halfs_inj (halfs_lt _ (by decide)) (by decide) h5.symm)
  rcases Nat.lt_or_gt_of_ne hne with h | h
  · exact h4 (by omega) (by omega) h2.symm
  · exact h4 (by omega) (by omega) h2
/-- With two bits turned, what was sealed isn't opened. -/
theorem open_two {l : List UInt8} (hl : l.length ≤ 1000) {p q : Nat} (hp : p < 8 * (l.length + 4)) (hq : q < 8 * (l.length + 4)) (hne : p ≠ q) : openL (flipB (flipB (l ++ sealB l) p) q) = ([], 4) := by
  by_cases h1 : p < 8 * l.length
  · by_cases h2 : q < 8 * l.length
    · rw [flipB_append_left h1, flipB_append_left (by rw [flipB_length]; exact h2), open_parts _ _ (sealB_length l), if_neg (fun e => two_seal hl h1 h2 hne e.symm)]
    · rw [flipB_append_left h1, flipB_append_right (by rw [flipB_length]; omega), flipB_length, open_parts _ _ (by rw [flipB_length, sealB_length]), if_neg (mix_ne hl h1 (by omega))]
  · by_cases h2 : q < 8 * l.length
    · rw [flipB_append_right (by omega), flipB_append_left h2, open_parts _ _ (by rw [flipB_length, sealB_length]), if_neg (mix_ne hl h2 (by omega))]
    · rw [flipB_append_right (by omega), flipB_append_right (by omega), open_parts _ _ (by rw [flipB_length, flipB_length, sealB_length]), if_neg]
      intro e
      have := two_one (c := sealB l) (by rw [sealB_length]; omega) (by rw [sealB_length]; omega) e
      omega
theorem open_back {l : List UInt8} {p : Nat} (hp : p < 8 * (l.length + 4)) : openL (flipB (flipB (l ++ sealB l) p) p) = (l, 0) := by
  rw [flipB_back (by rw [List.length_append, sealB_length]; exact hp), open_sealed]
end Go.Proofs.Ytjlmkhomedoolaa
